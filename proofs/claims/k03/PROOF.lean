import PyProof.Rows.All
import Wide.All
import OpenK.AllK
import Wide.FinOn
import HandS.ForMost
import HandS.Evl
import HandS.IsInst
import HandS.FStr
import HandS.StrMore
import HandS.AnyAll
import HandS.Walk
import HandS.Replace
import HandS.EndTab
import HandS.Style
import HandS.Small
import HandS.Flow
import HandS.Star
import HandS.More
import KE.GoesMore
import KE.KUnpackStar
import HandS.NoneIn
import HandS.RaiseMore
import HandS.StrSplit
import PySem.Challenge.RW_attachhall_k03_panes_sign_by_sign
set_option Elab.async false
set_option linter.all false
set_option maxRecDepth 100000
set_option maxHeartbeats 4000000
namespace Vf
open PySem PySem.Spec PyProof.Rows L2 Evl
/-! ### a def of the text that may be called by its name -/
structure Cal (P : Program) (w : World) (K : PySem.W.Frag) (mg : Str → Option Value) (base : Heap) (x : Str) (k : Nat) (ps : List Str) (sp : Sp) : Prop where
  ex : ∃ (f : Addr) (fd : FuncData), FnOk P w K mg base CX0 k f fd ps sp ∧ mg x = some (.ref f) ∧ PySem.W.keepIn K (.ref f) = true ∧ Binds K fd ps []
theorem Cal.mono {P : Program} {w : World} {K : PySem.W.Frag} {mg : Str → Option Value} {base : Heap} {x : Str} {k j : Nat} {ps : List Str} {sp : Sp} (c : Cal P w K mg base x k ps sp) (h : k ≤ j) : Cal P w K mg base x j ps sp := by
  obtain ⟨f, fd, F, a, b, c⟩ := c.ex
  exact ⟨f, fd, F.mono h, a, b, c⟩
theorem Cal.imp {P : Program} {w : World} {K : PySem.W.Frag} {mg : Str → Option Value} {base : Heap} {x : Str} {k : Nat} {ps : List Str} {sp sp' : Sp} (c : Cal P w K mg base x k ps sp)
    (h : ∀ vs H Q E, sp' vs H Q E → sp vs H Q E) : Cal P w K mg base x k ps sp' := by
  obtain ⟨f, fd, F, a, b, c⟩ := c.ex
  exact ⟨f, fd, F.imp h, a, b, c⟩
section
variable {X : Cx} {x : Str} {k : Nat} {ps : List Str} {sp : Sp} {e : Expr} {es : List Expr} {t : TA} {p pos : Pos}
theorem pcall (c : Cal X.prog X.w X.K X.mg X.base x k ps sp) (hr : Room k X.A) (ha : PA X (e :: es) t) (hg : Gl X x := by rfl)
    (hdb : (x == ("__debug__" : Str)) = false := by decide) (he : starEach (e :: es) X.env = (false, eval e X.env) :: starEach es X.env := by rfl) (hpl : (backTo pos (starEach es X.env)).any (·.1) = false := by rfl) :
    PE X (.Call (.Name x p) (e :: es) [] pos) (tCall sp [] E0 t) := by
  obtain ⟨f, fd, F, hm, hk, hb⟩ := c.ex
  exact pe_call F hr hg hm hk hb .nil pass0 ha hdb he hpl
theorem pcall0 (c : Cal X.prog X.w X.K X.mg X.base x k ps sp) (hr : Room k X.A) (hg : Gl X x := by rfl)
    (hdb : (x == ("__debug__" : Str)) = false := by decide) :
    PE X (.Call (.Name x p) [] [] pos) (tCall sp [] E0 tNil) := by
  obtain ⟨f, fd, F, hm, hk, hb⟩ := c.ex
  exact pe_call0 F hr hg hm hk hb .nil pass0 hdb
end
/-! ### a constant of the module -/
section
variable {X : Cx} {x : Str} {pos : Pos}
theorem pgI {i : Int} (h : ∃ t, X.mg x = some (.int i t)) (hg : Gl X x := by rfl) (hdb : (x == ("__debug__" : Str)) = false := by decide) : PE X (.Name x pos) (tC (.int i)) := by
  obtain ⟨t, h⟩ := h
  exact pe_glob hg h ⟨_, rfl⟩ hdb
theorem pgS {i : Str} (h : ∃ t, X.mg x = some (.str i t)) (hg : Gl X x := by rfl) (hdb : (x == ("__debug__" : Str)) = false := by decide) : PE X (.Name x pos) (tC (.str i)) := by
  obtain ⟨t, h⟩ := h
  exact pe_glob hg h ⟨_, rfl⟩ hdb
end
theorem yes_lc {σ : L2.St} {H : Hp} {f g : Hp → Prop} (h : f H) : tYes σ H (fun b H3 => if b = true then f H3 else g H3) := by
  show if true = true then f H else g H
  rw [if_pos rfl]
  exact h
/-! ### two addresses apart, a heap that grows -/
theorem ne_new {H : Hp} {a p : Addr} {o : HO} (h : H a = some o) (n : H p = none) : a ≠ p := ne_of_none h n
theorem ex_set {H H1 : Hp} {p : Addr} {o : HO} (e : Ex H H1) (n : H p = none) : Ex H (upd H1 p o) := Ex.mut e n
/-! ### the box of numbers, hidden: which numbers it holds is left open -/
def lstObj (its : List Value) (n : Nat) : Obj := { cls := .type "list", data := .seq its.toArray n }
def BoxO (b l : Addr) : HO := .ext fun h => ∃ (z : Int) (its : List Value) (n : Nat), Vals [.ref l, .int z] its ∧ h.get? b = some (lstObj its n)
def IntsO (l : Addr) : HO := .ext fun h => ∃ (ns : List Int) (its : List Value) (n : Nat), ns.length ≤ sizeLine ∧ Vals (ns.map V.int) its ∧ h.get? l = some (lstObj its n)
/-- the box stands at b, its numbers at l -/
def Box (H : Hp) (b l : Addr) : Prop := b ≠ l ∧ H b = some (BoxO b l) ∧ H l = some (IntsO l)
theorem Box.ex {H H' : Hp} {b l : Addr} (h : Box H b l) (e : Ex H H') : Box H' b l := ⟨h.1, e _ _ h.2.1, e _ _ h.2.2⟩
def opened (H : Hp) (b l : Addr) (z : Int) (ns : List Int) : Hp := upd (upd H l (.lst (ns.map V.int))) b (.lst [.ref l, .int z])
def closed (H : Hp) (b l : Addr) : Hp := upd (upd H l (IntsO l)) b (BoxO b l)
section
variable {P : Program} {w : World} {H H' : Hp} {h h' : Heap} {b l a : Addr} {z : Int} {ns : List Int}
theorem upd2_ne {o u : HO} (h1 : a ≠ b) (h2 : a ≠ l) : upd (upd H l o) b u a = H a := by rw [upd_ne h1, upd_ne h2]
theorem own_ne {o : HO} {φ : Heap → Prop} (hb : H b = some (.ext φ)) (h : H a = some o) (n : ∀ φ, o ≠ .ext φ) : a ≠ b := by
  rintro rfl
  rw [hb] at h
  exact n _ (Option.some.inj h).symm
theorem hok_open (x : HOk P w H h) (B : Box H b l) : ∃ z ns, HOk P w (opened H b l z ns) h := by
  obtain ⟨hne, hb, hl⟩ := B
  obtain ⟨⟨z, its, n, r, g⟩, _⟩ := (show ObjOk P w H h b (BoxO b l) from x b _ hb)
  obtain ⟨⟨ns, its', n', hz, r', g'⟩, _⟩ := (show ObjOk P w H h l (IntsO l) from x l _ hl)
  refine ⟨z, ns, fun a o e => ?_⟩
  unfold opened at e
  by_cases h1 : a = b
  · subst h1
    rw [upd_same] at e
    cases e
    exact ⟨by show 2 ≤ sizeLine; decide, its, n, r, g⟩
  · rw [upd_ne h1] at e
    by_cases h2 : a = l
    · subst h2
      rw [upd_same] at e
      cases e
      exact ⟨by rw [List.length_map]; exact hz, its', n', r', g'⟩
    · rw [upd_ne h2] at e
      refine (x a o e).stay (fun _ _ _ q => q) (fun c q => ?_) (fun c xs q => ?_)
      · unfold opened
        rw [upd2_ne (own_ne hb q (fun _ z => by cases z)) (own_ne hl q (fun _ z => by cases z))]
        exact q
      · unfold opened
        rw [upd2_ne (own_ne hb q (fun _ z => by cases z)) (own_ne hl q (fun _ z => by cases z))]
        exact q
theorem lst_ne {o : HO} {xs : List V} (hb : H b = some (.lst xs)) (h : H a = some o) (n : ∀ xs, o ≠ .lst xs) : a ≠ b := by
  rintro rfl
  rw [hb] at h
  exact n _ (Option.some.inj h).symm
theorem hok_close (x : HOk P w H h) (hb : H b = some (.lst [.ref l, .int z])) (hl : H l = some (.lst (ns.map V.int))) : HOk P w (closed H b l) h := by
  obtain ⟨_, its, n, r, g⟩ := (show ObjOk P w H h b (.lst _) from x b _ hb)
  obtain ⟨hz, its', n', r', g'⟩ := (show ObjOk P w H h l (.lst _) from x l _ hl)
  intro a o e
  unfold closed at e
  by_cases h1 : a = b
  · subst h1
    rw [upd_same] at e
    cases e
    exact ⟨⟨z, its, n, r, g⟩, ⟨_, g⟩, fun h1 h2 ⟨z, its, n, r, g⟩ k => ⟨z, its, n, r, k _ g⟩⟩
  · rw [upd_ne h1] at e
    by_cases h2 : a = l
    · subst h2
      rw [upd_same] at e
      cases e
      exact ⟨⟨ns, its', n', by rw [List.length_map] at hz; exact hz, r', g'⟩, ⟨_, g'⟩, fun h1 h2 ⟨ns, its, n, hz, r, g⟩ k => ⟨ns, its, n, hz, r, k _ g⟩⟩
    · rw [upd_ne h2] at e
      refine (x a o e).stay (fun _ _ _ q => q) (fun c q => ?_) (fun c xs q => ?_)
      · unfold closed
        rw [upd2_ne (lst_ne hb q (fun _ z => by cases z)) (lst_ne hl q (fun _ z => by cases z))]
        exact q
      · unfold closed
        rw [upd2_ne (lst_ne hb q (fun _ z => by cases z)) (lst_ne hl q (fun _ z => by cases z))]
        exact q
theorem un_hide {fs ex : List Addr} {H2 : Hp} (B : Box H b l) (u : Un fs ex (opened H b l z ns) H2 h h') : Un fs ex H (closed H2 b l) h h' := by
  obtain ⟨hne, hb, hl⟩ := B
  have none_ne : ∀ c, H c = none → c ≠ b ∧ c ≠ l := fun c q => ⟨fun e => (by rw [e, hb] at q; cases q), fun e => (by rw [e, hl] at q; cases q)⟩
  have non : ∀ c, H c = none → opened H b l z ns c = none := fun c q => by
    unfold opened
    rw [upd2_ne (none_ne c q).1 (none_ne c q).2]
    exact q
  have ne2 : ∀ c o, H c = some o → (∀ φ, o ≠ .ext φ) → c ≠ b ∧ c ≠ l := fun c o q n => ⟨own_ne hb q n, own_ne hl q n⟩
  refine ⟨fun c o q n => u.keep c o q (non c n), fun c o q n => u.slot c o q (non c n), fun c o q n hx => ?_, u.there, fun c xs q => ?_, fun c o v q => ?_, fun c ps q => ?_⟩
  · unfold closed
    rw [upd2_ne (none_ne c n).1 (none_ne c n).2]
    exact u.free c o q (non c n) hx
  · have d := ne2 c _ q (fun _ z => by cases z)
    unfold closed
    rw [upd2_ne d.1 d.2]
    exact u.tups c xs (by unfold opened; rw [upd2_ne d.1 d.2]; exact q)
  · have d := ne2 c _ q (fun _ z => by cases z)
    unfold closed
    rw [upd2_ne d.1 d.2]
    exact u.frzs c o v (by unfold opened; rw [upd2_ne d.1 d.2]; exact q)
  · have d := ne2 c _ q (fun _ z => by cases z)
    unfold closed
    rw [upd2_ne d.1 d.2]
    exact u.tbls c ps (by unfold opened; rw [upd2_ne d.1 d.2]; exact q)
theorem ex_new2 {H2 : Hp} (e : Ex H H2) (n1 : H b = none) (n2 : H l = none) : Ex H (closed H2 b l) := fun c o q => by
  have d1 : c ≠ b := ne_of_none q n1
  have d2 : c ≠ l := ne_of_none q n2
  unfold closed
  rw [upd2_ne d1 d2]
  exact e c o q
theorem un_new {fs : List Addr} {H2 : Hp} (u : Un fs [] H H2 h h') (n1 : H b = none) (n2 : H l = none) (hb : H2 b = some (.lst [.ref l, .int z])) (hl : H2 l = some (.lst (ns.map V.int))) : Un fs [] H (closed H2 b l) h h' := by
  have old : ∀ c o, h.get? c = some o → H c = none → c ≠ b ∧ c ≠ l := fun c o q n => by
    have f := u.free c o q n (by simp)
    exact ⟨fun e => (by rw [e, hb] at f; cases f), fun e => (by rw [e, hl] at f; cases f)⟩
  have ne2 : ∀ c o, H c = some o → c ≠ b ∧ c ≠ l := fun c o q => ⟨ne_of_none q n1, ne_of_none q n2⟩
  refine ⟨u.keep, u.slot, fun c o q n hx => ?_, u.there, fun c xs q => ?_, fun c o v q => ?_, fun c ps q => ?_⟩
  · unfold closed
    rw [upd2_ne (old c o q n).1 (old c o q n).2]
    exact u.free c o q n hx
  · have d := ne2 c _ q
    unfold closed
    rw [upd2_ne d.1 d.2]
    exact u.tups c xs q
  · have d := ne2 c _ q
    unfold closed
    rw [upd2_ne d.1 d.2]
    exact u.frzs c o v q
  · have d := ne2 c _ q
    unfold closed
    rw [upd2_ne d.1 d.2]
    exact u.tbls c ps q
theorem ex_hide {H2 : Hp} (B : Box H b l) (e : ∀ c o, c ≠ b → c ≠ l → H c = some o → H2 c = some o) : Ex H (closed H2 b l) := by
  obtain ⟨hne, hb, hl⟩ := B
  intro c o q
  unfold closed
  by_cases h1 : c = b
  · subst h1
    rw [upd_same, ← hb]
    exact q
  · rw [upd_ne h1]
    by_cases h2 : c = l
    · subst h2
      rw [upd_same, ← hl]
      exact q
    · rw [upd_ne h2]
      exact e c o h1 h2 q
end
/-- what a def that works upon the open box promises -/
def spOpen (R : V → Prop) (pre : List V → Prop) : Sp := fun vs H Q _ => ∃ (b l : Addr) (z : Int) (ns : List Int) (rest : List V), vs = .ref b :: rest ∧ pre rest ∧ b ≠ l ∧ H b = some (.lst [.ref l, .int z]) ∧ H l = some (.lst (ns.map V.int)) ∧
  ∀ (v : V) (H' : Hp) (z' : Int) (ns' : List Int), R v → (∀ c o, c ≠ b → c ≠ l → H c = some o → H' c = some o) → H' b = some (.lst [.ref l, .int z']) → H' l = some (.lst (ns'.map V.int)) → Q v H'
/-- what it promises where the box is hidden -/
def spHid (R : V → Prop) (pre : List V → Prop) : Sp := fun vs H Q _ => ∃ (b l : Addr) (rest : List V), vs = .ref b :: rest ∧ pre rest ∧ Box H b l ∧ ∀ (v : V) (H' : Hp), R v → Ex H H' → Q v H'
section
variable {P : Program} {w : World} {K : PySem.W.Frag} {mg : Str → Option Value} {base : Heap}
theorem hide_fn {k : Nat} {f : Addr} {fd : FuncData} {ps : List Str} {R : List V → V → Prop} {pre : List V → Prop} (F : ∀ r0, pre r0 → FnOk P w K mg base CX0 k f fd ps (spOpen (R r0) fun r => r = r0)) (hl : ∀ r, pre r → r.length + 1 = ps.length) :
    FnOk P w K mg base CX0 k f fd ps (fun vs H Q _ => ∃ (b l : Addr) (rest : List V), vs = .ref b :: rest ∧ pre rest ∧ Box H b l ∧ ∀ (v : V) (H' : Hp), R rest v → Ex H H' → Q v H') := by
  refine ⟨fun vs H Q E h => ?_, fun A outer s H args us vs Q E hr e0 hb hv h => ?_⟩
  · obtain ⟨b, l, rest, rfl, hp, _⟩ := h
    exact hl _ hp
  · obtain ⟨b, l, rest, rfl, hp, B, q⟩ := h
    obtain ⟨z, ns, ok⟩ := hok_open e0.hok B
    have non : ∀ c, H c = none → opened H b l z ns c = none := fun c n => by
      have h1 : c ≠ b := fun e => by rw [e, B.2.1] at n; cases n
      have h2 : c ≠ l := fun e => by rw [e, B.2.2] at n; cases n
      unfold opened
      rw [upd2_ne h1 h2]
      exact n
    have e1 : Env0 P w K mg base A outer s (opened H b l z ns) := ⟨e0.frames, e0.mod, fun c o g => ⟨(e0.bs c o g).1, non c (e0.bs c o g).2⟩, e0.bsz, e0.funs, fun c g => non c (e0.frf c g), ok, e0.bare⟩
    refine codeAny_mono ((F rest hp).run A outer s (opened H b l z ns) args us (.ref b :: rest) (fun v H2 => Q v (closed H2 b l) ∧ ∃ z ns, H2 b = some (.lst [.ref l, .int z]) ∧ H2 l = some (.lst (ns.map V.int))) E hr e1 hb hv ⟨b, l, z, ns, rest, rfl, rfl, B.1, upd_same, ?_, fun v H' z' ns' hR hk h1 h2 => ⟨?_, z', ns', h1, h2⟩⟩) fun r s' hq => ?_
    · unfold opened
      rw [upd_ne (Ne.symm B.1), upd_same]
    · refine q v _ hR (ex_hide B fun c o h1 h2 g => hk c o h1 h2 ?_)
      unfold opened
      rw [upd2_ne h1 h2]
      exact g
    · cases r with
      | error e => exact hq
      | ok fl =>
        cases fl with
        | ret u =>
          obtain ⟨v, H2, os, bare, un, hok, rv, q2, z2, ns2, hb2, hl2⟩ := hq
          exact ⟨v, closed H2 b l, os, bare, un_hide B un, hok_close hok hb2 hl2, rv, q2⟩
        | next => exact hq
        | brk => exact hq
        | cont => exact hq
end
end Vf
namespace Vf
open PySem PySem.Spec PyProof.Rows L2 Evl
/-! ### data -/
theorem sq_ex {K : PySem.W.Frag} {H H' : Hp} {a : Addr} {xs : List V} (e : Ex H H') (h : SqL K H a xs) : SqL K H' a xs := ex_l e h
theorem dp_ints {K : PySem.W.Frag} {H : Hp} : ∀ ns : List Int, DpAll K H (ns.map V.int) (ns.map PyData.int)
  | [] => .nil
  | n :: r => .cons (.int n) (dp_ints r)
theorem dp_strs {K : PySem.W.Frag} {H : Hp} : ∀ ns : List Str, DpAll K H (ns.map V.str) (ns.map PyData.str)
  | [] => .nil
  | n :: r => .cons (.str n) (dp_strs r)
theorem flat_ints : ∀ ns : List Int, (PyData.canLayAll0 (ns.map PyData.int) = true) ∧ PyData.depthAll (ns.map PyData.int) = 0
  | [] => ⟨rfl, rfl⟩
  | n :: r => by
    obtain ⟨h1, h2⟩ := flat_ints r
    refine ⟨?_, ?_⟩
    · show (true && PyData.canLayAll0 (r.map PyData.int)) = true
      rw [h1]; rfl
    · show max 0 (PyData.depthAll (r.map PyData.int)) = 0
      rw [h2]; rfl
theorem sh_ints (ns : List Int) : SeqAt.shaped (.list (ns.map PyData.int)) = true := by
  obtain ⟨h1, h2⟩ := flat_ints ns
  show (PyData.canLayAll0 (ns.map PyData.int) && decide (PyData.depthAll (ns.map PyData.int) + 1 ≤ 64)) = true
  rw [h1, h2]; rfl
def good : Nat → PyData → Bool
  | _, .none => true
  | _, .bool _ => true
  | _, .int _ => true
  | _, .str x => PyData.canLay0 (.str x)
  | _, .dict _ => false
  | 0, .list _ => false
  | 0, .tuple _ => false
  | n + 1, .list xs => decide (xs.length ≤ 16777216) && xs.all (good n)
  | n + 1, .tuple xs => decide (xs.length ≤ 16777216) && xs.all (good n)
theorem good_all {n : Nat} (ih : ∀ d, good n d = true → PyData.canLay0 d = true ∧ PyData.depth d ≤ n) : ∀ xs : List PyData, xs.all (good n) = true → PyData.canLayAll0 xs = true ∧ PyData.depthAll xs ≤ n
  | [], _ => ⟨rfl, Nat.zero_le _⟩
  | x :: r, h => by
    rw [List.all_cons, Bool.and_eq_true] at h
    obtain ⟨h1, h2⟩ := ih x h.1
    obtain ⟨h3, h4⟩ := good_all ih r h.2
    refine ⟨?_, Nat.max_le.mpr ⟨h2, h4⟩⟩
    show (PyData.canLay0 x && PyData.canLayAll0 r) = true
    rw [h1, h3]; rfl
theorem good_lay : ∀ (n : Nat) (d : PyData), good n d = true → PyData.canLay0 d = true ∧ PyData.depth d ≤ n
  | n, .none, _ => ⟨rfl, Nat.zero_le _⟩
  | n, .bool _, _ => ⟨rfl, Nat.zero_le _⟩
  | n, .int _, _ => ⟨rfl, Nat.zero_le _⟩
  | n, .str x, h => ⟨by cases n <;> exact h, Nat.zero_le _⟩
  | n, .dict _, h => by cases n <;> cases h
  | 0, .list _, h => by cases h
  | 0, .tuple _, h => by cases h
  | n + 1, .list xs, h => by
    obtain ⟨h1, h2⟩ := good_all (good_lay n) xs (Bool.and_eq_true_iff.mp (show (decide (xs.length ≤ 16777216) && xs.all (good n)) = true from h)).2
    exact ⟨h1, Nat.succ_le_succ h2⟩
  | n + 1, .tuple xs, h => by
    obtain ⟨h1, h2⟩ := good_all (good_lay n) xs (Bool.and_eq_true_iff.mp (show (decide (xs.length ≤ 16777216) && xs.all (good n)) = true from h)).2
    exact ⟨h1, Nat.succ_le_succ h2⟩
theorem sh_of' {d : PyData} {n : Nat} (h : good n d = true) (hn : n ≤ 60) : SeqAt.shaped d = true := by
  obtain ⟨h1, h2⟩ := good_lay n d h
  show (PyData.canLay0 d && decide (PyData.depth d ≤ 64)) = true
  rw [h1, decide_eq_true (by omega)]
  rfl
theorem good_get {n : Nat} {xs : List PyData} {i : Nat} {d : PyData} (h : (decide (xs.length ≤ 16777216) && xs.all (good n)) = true) (e : xs[i]? = some d) : good n d = true :=
  List.all_eq_true.mp (Bool.and_eq_true_iff.mp h).2 d (List.mem_of_getElem? e)
theorem good_len {n : Nat} {xs : List PyData} (h : (decide (xs.length ≤ 16777216) && xs.all (good n)) = true) : xs.length ≤ 16777216 := of_decide_eq_true (Bool.and_eq_true_iff.mp h).1
theorem seq0 {α : Type} (x : α) (r : List α) : seqIndex? 0 (x :: r).length = some 0 := by
  have h : (0 : Int) < ((x :: r).length : Nat) := by rw [List.length_cons]; omega
  have e : (seqIndex? 0 (x :: r).length) = (if decide ((0 : Int) ≤ 0) && decide ((0 : Int) < ((x :: r).length : Nat)) then some (0 : Int).toNat else none) := rfl
  rw [e, decide_eq_true h]
  rfl
theorem eqv_nil (ns : List Int) : PyData.eqv (.list (ns.map PyData.int)) (.list []) = decide (ns = []) := by
  cases ns with
  | nil => rfl
  | cons n r => rfl
end Vf
namespace Vf
open PySem PySem.Spec PyProof.Rows L2 Evl
theorem at_ix {α : Type} {xs : List α} {z : Int} {j : Nat} {v : α} (e : z = (j : Int)) (h : xs[j]? = some v) : atI xs z = some v := by
  rw [e]
  exact atI_nat h
/-! ### texts by their signs -/
def txt (l : List Nat) : Str := ⟨l.toArray⟩
theorem txt_len (l : List Nat) : (txt l).length = l.length := by show l.toArray.size = _; simp
theorem txt_cps (l : List Nat) : (txt l).cps.toList = l := by show l.toArray.toList = l; simp
theorem txt_of (z : Str) : txt z.cps.toList = z := by cases z; simp [txt]
theorem txt_app (a b : List Nat) : txt a ++ txt b = txt (a ++ b) := by
  show (⟨a.toArray ++ b.toArray⟩ : Str) = ⟨(a ++ b).toArray⟩
  rw [List.append_toArray]
theorem str_len (z : Str) : z.cps.toList.length = z.length := by show _ = z.cps.size; simp
/-- a text of one sign -/
def sg (c : Nat) : Str := ⟨#[c]⟩
theorem glue0 : ∀ (r : List Nat) (acc : Array Nat), (r.map sg).foldl (fun (acc : Array Nat) (p : Str) => acc ++ (#[] : Array Nat) ++ p.cps) acc = acc ++ r.toArray
  | [], acc => by simp
  | c :: r, acc => by
    rw [List.map_cons, List.foldl_cons, glue0 r]
    show acc ++ #[] ++ #[c] ++ r.toArray = _
    apply Array.toList_inj.mp
    simp
theorem join0 (cs : List Nat) : Txt.join ⟨#[]⟩ (cs.map sg) = txt cs := by
  cases cs with
  | nil => rfl
  | cons c r =>
    show (⟨(r.map sg).foldl (fun (acc : Array Nat) (p : Str) => acc ++ (#[] : Array Nat) ++ p.cps) #[c]⟩ : Str) = _
    rw [glue0]
    show (⟨#[c] ++ r.toArray⟩ : Str) = ⟨(c :: r).toArray⟩
    congr 1
    apply Array.toList_inj.mp
    simp
theorem sg_sum : ∀ cs : List Nat, ((cs.map sg).map (fun y => y.length)).sum = cs.length
  | [] => rfl
  | c :: r => by
    rw [List.map_cons, List.map_cons, List.sum_cons, sg_sum r, List.length_cons]
    show 1 + r.length = _
    omega
/-- the text that a statement binds -/
def litOf : Stmt → Str
  | .Assign _ (.Constant (.str x) _ _) _ => x
  | _ => ⟨#[]⟩
theorem lay_str {z : Str} (h : ∀ c ∈ z.cps.toList, c < 128) : PyData.canLay0 (.str z) = true := by
  show z.cps.all (fun c => decide (c < 0x110000)) = true
  rw [Array.all_eq_true]
  intro i hi
  exact decide_eq_true (Nat.lt_trans (h _ (by simp)) (by decide))
end Vf
namespace Vf
open PySem PySem.Spec PyProof.Rows L2 Evl
/-! ### a text many times -/
theorem rep_fold (c : Array Nat) : ∀ (n : Nat) (acc : Array Nat), ((List.replicate n c).foldl (fun a b => a ++ b) acc).toList = acc.toList ++ (List.replicate n c.toList).flatten
  | 0, acc => by simp
  | n + 1, acc => by
    rw [List.replicate_succ, List.foldl_cons, rep_fold c n, List.replicate_succ, List.flatten_cons]
    simp
theorem mul_cps (x : Str) (n : Nat) : (Txt.mul x (n : Int)).cps.toList = (List.replicate n x.cps.toList).flatten := by
  unfold Txt.mul
  by_cases h0 : n = 0
  · subst h0
    rfl
  · rw [if_neg (by omega)]
    by_cases h1 : ((n : Int) == 1 || x.length == 0) = true
    · rw [if_pos h1]
      rw [Bool.or_eq_true] at h1
      rcases h1 with h1 | h1
      · have e : n = 1 := by have := eq_of_beq h1; omega
        subst e
        simp
      · have e : x.cps.toList = [] := by
          have := eq_of_beq h1
          rw [← List.length_eq_zero_iff, str_len]
          exact this
        rw [e]
        simp
    · rw [if_neg h1, Int.toNat_natCast, rep_fold]
      simp
theorem mul_sg (c n : Nat) : Txt.mul (sg c) (n : Int) = txt (List.replicate n c) := by
  have h := mul_cps (sg c) n
  have e : (sg c).cps.toList = [c] := rfl
  rw [e] at h
  rw [← txt_of (Txt.mul (sg c) (n : Int)), h]
  congr 1
  induction n with
  | zero => rfl
  | succ n ih => rw [List.replicate_succ, List.flatten_cons, List.replicate_succ]; simp
theorem mul_ok {x : Str} {n : Int} (hx : x.length ≤ 1000) (h0 : 0 ≤ n) (h1 : n ≤ 10000) : MulOk x n := by
  refine ⟨?_, fun h _ z => ?_, fun h _ => ?_⟩
  · rw [decide_eq_false (by omega), decide_eq_false (by omega)]
    rfl
  · have : (1000 : Int) ≤ (2 ^ 63 - 1) / n := (Int.le_ediv_iff_mul_le (by omega)).mpr (by omega)
    omega
  · have : x.length * n.toNat ≤ 1000 * 10000 := Nat.mul_le_mul hx (by omega)
    unfold Builtin.Str.tooLong
    exact decide_eq_false (by
      have e : sizeLine = 16777216 := by decide
      omega)
section
variable {X : Cx}
theorem op_mulS : OpR X (binaryOp .Mult) (fun x y H Q => ∃ (z : Str) (n : Int), x = .str z ∧ y = .int n ∧ z.length ≤ 1000 ∧ 0 ≤ n ∧ n ≤ 10000 ∧ Q (.str (Txt.mul z n)) H) := by
  intro pins s σ H x y v u Q I rx ry h
  obtain ⟨z, n, rfl, rfl, hz, h0, h1, q⟩ := h
  obtain ⟨t, rfl⟩ := rx
  obtain ⟨t', rfl⟩ := ry
  exact SB.mul (mul_ok hz h0 h1) fun t' tk => ⟨.str (Txt.mul z n), H, I.tok _, ⟨_, rfl⟩, q⟩
end
end Vf
namespace Vf
open PySem PySem.Spec PyProof.Rows L2 Evl
/-! ### slices of texts -/
theorem cutS_first {z : Str} {w : Nat} : cutS z none (some (w : Int)) = ⟨(z.cps.toList.take w).toArray⟩ := by
  unfold cutS
  have hz : z.length = z.cps.toList.length := by show z.cps.size = _; simp
  rw [HT.sIx_nat, HT.sIx_none, List.drop_zero, Nat.sub_zero]
  congr 2
  by_cases hh : w ≤ z.length
  · rw [Nat.min_eq_left hh]
  · rw [Nat.min_eq_right (by omega), List.take_of_length_le (by omega), List.take_of_length_le (by omega)]
theorem cutS_rest {z : Str} {w : Nat} : cutS z (some (w : Int)) none = ⟨(z.cps.toList.drop w).toArray⟩ := by
  unfold cutS
  have hz : z.length = z.cps.toList.length := by show z.cps.size = _; simp
  rw [HT.sIx_nat, HT.sIx_none]
  congr 1
  by_cases hh : w ≤ z.length
  · rw [Nat.min_eq_left hh, List.take_of_length_le (by rw [List.length_drop]; omega)]
  · rw [Nat.min_eq_right (by omega), Nat.sub_self, List.take_zero, List.drop_eq_nil_of_le (by omega)]
end Vf
namespace Vf
open PySem PySem.Spec PyProof.Rows L2 Evl
/-! ### a text cut at its last sign of a kind -/
section
variable {X : Cx}
theorem mt_rpart : MtR X "str.rpartition" (fun x xs H Q => ∃ a b : Str, x = .str a ∧ xs = [.str b] ∧ (b.length == 0) = false ∧ a.length ≤ sizeLine ∧
    ∀ p, H p = none → Q (.ref p) (upd H p (.tup [.str (Txt.rpartition a b).1, .str (Txt.rpartition a b).2.1, .str (Txt.rpartition a b).2.2]))) := by
  rintro pins s σ H x xs v us Q I rx rs ⟨a, b, rfl, rfl, hb, hz, h⟩
  obtain ⟨ta, rfl⟩ := rx
  obtain ⟨u, rfl, tb, rfl⟩ := vals1 rs
  refine call_meets PySem.F.slot_str_rpartition (typeIs_str _ _ _) PySem.F.entry_str_rpartition (PySem.F.args_str_rpartition_2 _ _) (meets_str_rpartition a b ta tb hb hz) ?_
  revert h
  unfold Txt.rpartition
  cases Builtin.Str.lastOccurrence a b 0 a.length with
  | none => exact fun h => laid_parts I h
  | some i => exact fun h => laid_parts I h
end
/-- what stands behind the last c -/
def behind (c : Nat) (l : List Nat) : List Nat := (l.reverse.takeWhile fun x => decide (x ≠ c)).reverse
theorem behind_none {c : Nat} {l : List Nat} (h : c ∉ l) : behind c l = l := by
  unfold behind
  have e : l.reverse.takeWhile (fun x => decide (x ≠ c)) = l.reverse := by
    have q := List.takeWhile_append_of_pos (p := fun x => decide (x ≠ c)) (l₁ := l.reverse) (l₂ := []) (fun x hx => decide_eq_true fun e => h (by rw [← e]; exact List.mem_reverse.mp hx))
    simpa using q
  rw [e, List.reverse_reverse]
theorem behind_app {c : Nat} {a b : List Nat} (h : c ∉ b) : behind c (a ++ c :: b) = b := by
  unfold behind
  rw [List.reverse_append, List.reverse_cons, List.append_assoc]
  have e : ((b.reverse ++ ([c] ++ a.reverse)).takeWhile fun x => decide (x ≠ c)) = b.reverse := by
    rw [List.takeWhile_append_of_pos]
    · simp
    · intro x hx
      exact decide_eq_true fun e => h (by rw [← e]; exact List.mem_reverse.mp hx)
  rw [e, List.reverse_reverse]
theorem pre1 (c : Nat) (l : List Nat) : TL.pre [c] l = true ↔ ∃ r, l = c :: r := by
  unfold TL.pre
  cases l with
  | nil => simp
  | cons x r =>
    have e : (x :: r).take [c].length = [x] := rfl
    rw [e]
    constructor
    · intro h
      have := eq_of_beq h
      cases this
      exact ⟨r, rfl⟩
    · rintro ⟨r', h⟩
      cases h
      simp
theorem rpart_behind (x : Str) (c : Nat) : (Txt.rpartition x (sg c)).2.2 = txt (behind c x.cps.toList) := by
  have hne : TL.tl (sg c) ≠ [] := fun h => nomatch (show ([c] : List Nat) = [] from h)
  unfold Txt.rpartition
  rcases StrLaws.last_spec x (sg c) with ⟨e, h⟩ | ⟨i, e, h, h2⟩
  · rw [e]
    show x = txt (behind c x.cps.toList)
    rw [behind_none, txt_of]
    intro hm
    obtain ⟨i, hi, ei⟩ := List.getElem_of_mem hm
    refine h i ((TL.at_iff hne i).mpr ((pre1 c _).mpr ⟨x.cps.toList.drop (i + 1), ?_⟩))
    show x.cps.toList.drop i = _
    rw [List.drop_eq_getElem_cons hi, ei]
  · rw [e]
    show Builtin.Str.strSub x (i + (sg c).length) x.length = _
    refine TL.ext_tl ?_
    rw [TL.tl_strSub_end]
    show x.cps.toList.drop (i + 1) = (txt (behind c x.cps.toList)).cps.toList
    rw [txt_cps]
    obtain ⟨r, er⟩ := (pre1 c _).mp ((TL.at_iff hne i).mp h)
    have er2 : x.cps.toList.drop i = c :: r := er
    have e3 : x.cps.toList.drop (i + 1) = r := by
      have : (x.cps.toList.drop i).drop 1 = r := by rw [er2]; rfl
      rw [List.drop_drop] at this
      exact this
    rw [e3]
    have hr : c ∉ r := fun hm => by
      obtain ⟨j, hj, ej⟩ := List.getElem_of_mem hm
      refine h2 (i + 1 + j) (by omega) ((TL.at_iff hne _).mpr ((pre1 c _).mpr ⟨r.drop (j + 1), ?_⟩))
      show x.cps.toList.drop (i + 1 + j) = _
      rw [← List.drop_drop, e3, List.drop_eq_getElem_cons hj, ej]
    have e4 : x.cps.toList = x.cps.toList.take i ++ c :: r := by rw [← er2, List.take_append_drop]
    rw [e4, behind_app hr]
theorem cutS_butlast (z : Str) : cutS z none (some (-1)) = txt z.cps.toList.dropLast := by
  unfold cutS
  have hz : z.length = z.cps.toList.length := (str_len z).symm
  have e : HT.sIx z.length z.length (some (-1)) = z.length - 1 := by
    show (if (-1 : Int) < 0 then ((-1 : Int) + (z.length : Int)).toNat else min (-1 : Int).toNat z.length) = _
    rw [if_pos (by decide)]
    omega
  rw [e, HT.sIx_none, List.drop_zero, Nat.sub_zero, hz, List.dropLast_eq_take]
  rfl
/-! ### places of signs -/
def ixS (z : Str) (c : Nat) : Nat := (Builtin.Str.occurrences z (sg c) 0 z.length 1).headD 0
theorem ix_cons {z : Str} {c : Nat} (h : c ∈ z.cps.toList) : ∃ r, Builtin.Str.occurrences z (sg c) 0 z.length 1 = ixS z c :: r := by
  have q := StrLaws.found_one z c
  rw [decide_eq_true h] at q
  unfold ixS
  have q2 : (!(Builtin.Str.occurrences z (sg c) 0 z.length 1).isEmpty) = true := q
  cases e : Builtin.Str.occurrences z (sg c) 0 z.length 1 with
  | nil => rw [e] at q2; cases q2
  | cons i r => exact ⟨r, rfl⟩
/-- a number's text -/
theorem num_txt (n : Nat) : (Str.ofString (toString ((n : Nat) : Int)) : Str) = txt (TL.numL n) := TL.ext_tl (by rw [TL.tl_num]; exact (txt_cps _).symm)
theorem mem_joinL {S : List Nat} : ∀ {ps : List (List Nat)} {c : Nat}, c ∈ TL.joinL S ps → c ∈ S ∨ ∃ p ∈ ps, c ∈ p
  | [], c, h => by simp [TL.joinL] at h
  | [p], c, h => by
    have h2 : c ∈ p := by simpa [TL.joinL] using h
    exact .inr ⟨p, by simp, h2⟩
  | p :: q :: r, c, h => by
    have h2 : c ∈ p ++ (S ++ TL.joinL S (q :: r)) := by simpa [TL.joinL] using h
    rcases List.mem_append.mp h2 with h2 | h2
    · exact .inr ⟨p, List.mem_cons_self, h2⟩
    · rcases List.mem_append.mp h2 with h2 | h2
      · exact .inl h2
      · rcases mem_joinL h2 with h3 | ⟨x, hx, h3⟩
        · exact .inl h3
        · exact .inr ⟨x, List.mem_cons_of_mem _ hx, h3⟩
theorem log_small {n : Nat} (h : n < 10000000) : ((n : Nat) : Int).natAbs.log2 < 1920 := by
  rw [Int.natAbs_natCast]
  by_cases h0 : n = 0
  · subst h0
    decide
  · exact Nat.lt_of_lt_of_le ((Nat.log2_lt h0).mpr (show n < 2 ^ 24 from Nat.lt_trans h (by decide))) (by decide)
end Vf
namespace Vf
open PySem PySem.Spec PyProof.Rows L2 Evl
/-! ### a text from behind -/
def tRevS (te : TE) : TE := fun σ H Q => te σ H fun x H1 => ∃ z : Str, x = .str z ∧ z.length ≤ sizeLine ∧ ∀ y : Str, y.length ≤ z.length → (∀ c ∈ y.cps.toList, c ∈ z.cps.toList) → Q (.str y) H1
theorem pick_mem {c : Array Nat} {l : List Nat} {x : Nat} (h : x ∈ l.filterMap fun i => c[i]?) : x ∈ c.toList := by
  obtain ⟨i, _, hi⟩ := List.mem_filterMap.mp h
  obtain ⟨h1, h2⟩ := Array.getElem?_eq_some_iff.mp hi
  rw [← h2]
  exact Array.mem_toList_iff.mpr (Array.getElem_mem h1)
section
variable {X : Cx}
theorem pe_revS {e : Expr} {te : TE} {k : Nat} {p1 p2 p3 pos : Pos} (he : PE X e te) : PE X (.Subscript e (.Slice none none (some (.UnaryOp .USub (.Constant (.int 1) k p1) p2)) p3) pos) (tRevS te) := by
  refine ⟨fun pins s σ H Q I h => Subscript_ (thn (he.run pins s σ H _ I h) ?_)⟩
  rintro v sa ⟨x, Ha, Ia, rx, z, rfl, hz, q⟩
  obtain ⟨t, rfl⟩ := id rx
  refine wpAny_Slice (thn (po_none.run pins sa σ Ha (fun o J => o = none ∧ J = Ha) Ia ⟨rfl, rfl⟩) ?_)
  rintro vl sb ⟨l, Hb, Ib, pl, rfl, rfl⟩
  refine thn (po_none.run pins sb σ Hb (fun o J => o = none ∧ J = Hb) Ib ⟨rfl, rfl⟩) ?_
  rintro vu sc ⟨u, Hc, Ic, pu, rfl, rfl⟩
  refine thn ((po_some (pe_un un_neg pe_int)).run pins sc σ Hc (fun o J => o = some (-1) ∧ J = Hc) Ic ⟨1, rfl, -1, rfl, rfl, rfl⟩) ?_
  rintro vs sd ⟨o, Hd, Id, ps, rfl, rfl⟩
  have Ie : Inv X pins σ Hd { sd with heap := sd.heap.push { cls := .type "slice", data := .fields #[vl, vu, vs] } } := Id.kept (t' := sd.toks) fun b ob g => Heap.get?_push_of_some _ g
  obtain ⟨l2, rfl, el⟩ := IsPart.raw pl
  obtain ⟨u2, rfl, eu⟩ := IsPart.raw pu
  obtain ⟨o2, rfl, eo⟩ := IsPart.raw ps
  have el2 : l2 = none := by cases l2 with | none => rfl | some _ => cases el
  have eu2 : u2 = none := by cases u2 with | none => rfl | some _ => cases eu
  subst el2 eu2
  show wpAny (model X.prog X.w) X.A (subscriptTail e (.Slice none none (some (.UnaryOp .USub (.Constant (.int 1) k p1) p2)) p3) (.str z t) (.ref sd.heap.objs.size)) (EP X pins σ Q) X.xe _
  refine tail_any (ops := [.ref sd.heap.objs.size, .str z t]) (typeIs_str _ _ _) PySem.F.slot_str_getitem.lookup ?_ (by with_unfolding_all rfl)
  refine wpAny_getItem_str_slice (l := none) (u := none) (st := o2) ⟨_, Heap.get?_push_size _ rfl, rfl, rfl⟩ (by rw [eo]; rfl) ?_
  have hlen : (Builtin.Str.strSliceIndices none none (-1) z.length).length = z.length := by rw [PyProof.Rows.picked_rev, List.length_map, List.length_range]
  have hpick : slicePicked z none none o2 = Builtin.Str.strSliceIndices none none (-1) z.length := by
    unfold slicePicked
    rw [eo]
    rfl
  have hm : sliceMade z t none none o2 = Made.str ⟨((Builtin.Str.strSliceIndices none none (-1) z.length).filterMap fun i => z.cps[i]?).toArray⟩ := by
    unfold sliceMade
    rw [hpick, eo]
    rfl
  rw [hm]
  have h1 : (⟨((Builtin.Str.strSliceIndices none none (-1) z.length).filterMap fun i => z.cps[i]?).toArray⟩ : Str).length ≤ z.length := by
    show (List.toArray _).size ≤ _
    rw [List.size_toArray]
    exact Nat.le_trans (List.length_filterMap_le _ _) (Nat.le_of_eq hlen)
  refine ⟨Nat.le_trans h1 hz, .str _, Hd, Ie.tok _, ⟨_, rfl⟩, q _ h1 fun c hc => ?_⟩
  have e : (⟨((Builtin.Str.strSliceIndices none none (-1) z.length).filterMap fun i => z.cps[i]?).toArray⟩ : Str).cps.toList = (Builtin.Str.strSliceIndices none none (-1) z.length).filterMap fun i => z.cps[i]? := by simp
  rw [e] at hc
  exact pick_mem hc
end
/-! ### how often a sign stands in a text; what it cuts off -/
theorem count_sg (z : Str) (c : Nat) : Txt.count z (sg c) = ((z.cps.toList.count c : Nat) : Int) := by
  have h : ∀ l : List Nat, cnt c l = ((l.count c : Nat) : Int) := fun l => by
    induction l with
    | nil => rfl
    | cons n r ih =>
      rw [cnt_cons, ih, List.count_cons]
      by_cases e : n = c
      · subst e
        simp
        omega
      · have e2 : (n == c) = false := by simpa using e
        rw [if_neg e, e2]
        simp
  rw [← h]
  exact count_cnt z c
theorem first_cut {c : Nat} {l : List Nat} (h : c ∈ l) : ∃ a r, l = a ++ c :: r ∧ c ∉ a := by
  obtain ⟨a, r, e, n⟩ := List.eq_append_cons_of_mem h
  exact ⟨a, r, e, n⟩
theorem cut2 {c : Nat} {l : List Nat} (h : l.count c = 2) : ∃ a b d, l = a ++ c :: (b ++ c :: d) ∧ c ∉ a ∧ c ∉ b ∧ c ∉ d := by
  obtain ⟨a, r, e, n⟩ := first_cut (c := c) (l := l) (List.count_pos_iff.mp (by omega))
  subst e
  rw [List.count_append, List.count_eq_zero.mpr n, List.count_cons_self] at h
  obtain ⟨b, d, e2, n2⟩ := first_cut (c := c) (l := r) (List.count_pos_iff.mp (by omega))
  subst e2
  rw [List.count_append, List.count_eq_zero.mpr n2, List.count_cons_self] at h
  exact ⟨a, b, d, rfl, n, n2, List.count_eq_zero.mp (by omega)⟩
theorem kind1 {x : Str} {c : Nat} (hc : c < 256) : ¬ Builtin.Str.strKind x < Builtin.Str.strKind (sg c) := TL.kind_ok (by
  show (#[c] : Array Nat).all (fun x => decide (x < 256)) = true
  simp [hc])
theorem split3 {c : Nat} (hc : c < 256) {a b d : List Nat} (h1 : c ∉ a) (h2 : c ∉ b) (h3 : c ∉ d) : Txt.split (txt (a ++ c :: (b ++ c :: d))) (sg c) = [txt a, txt b, txt d] := by
  refine TL.map_tl_inj ?_
  rw [TL.split_spl _ _ (fun h => nomatch (show ([c] : List Nat) = [] from h)) (kind1 hc)]
  have e : TL.tl (txt (a ++ c :: (b ++ c :: d))) = a ++ ([c] ++ (b ++ ([c] ++ d))) := (txt_cps _).trans (by simp)
  rw [e]
  show TL.spl [c] 0 [] (a ++ (c :: [] ++ (b ++ (c :: [] ++ d)))) = _
  rw [TL.spl_part1 h1, TL.spl_part1 h2, TL.spl_last1 h3]
  show [[] ++ a, [] ++ b, [] ++ d] = [(txt a).cps.toList, (txt b).cps.toList, (txt d).cps.toList]
  rw [txt_cps, txt_cps, txt_cps]
  rfl
theorem split_join_back (x : Str) (c : Nat) : Txt.join (sg c) (Txt.split x (sg c)) = x := by
  rw [TL.join_eq]
  exact StrLaws.join_split x (sg c)
/-- the parts are short and made of the text's signs -/
theorem split_parts (x : Str) (c : Nat) : (Txt.split x (sg c)).length ≤ x.length + 1 ∧ ∀ z ∈ Txt.split x (sg c), z.length ≤ x.length ∧ ∀ k ∈ z.cps.toList, k ∈ x.cps.toList := by
  have w := PyProof.Rows.split_weight x (sg c) (by show 1 ≤ 1; decide)
  have key : ∀ (ps : List Str), (ps.map (fun z => z.length)).sum + ps.length ≤ x.length + 1 → ∀ z ∈ ps, z.length ≤ x.length := fun ps h z hz => by
    have h2 : z.length ≤ (ps.map (fun z => z.length)).sum := by
      clear h
      induction ps with
      | nil => cases hz
      | cons p r ih =>
        rw [List.map_cons, List.sum_cons]
        rcases List.mem_cons.mp hz with rfl | hz
        · omega
        · have := ih hz
          omega
    have h3 : 1 ≤ ps.length := List.length_pos_of_mem hz
    omega
  refine ⟨by omega, fun z hz => ⟨key _ w z hz, fun k hk => ?_⟩⟩
  have e : x.cps.toList = TL.joinL [c] ((Txt.split x (sg c)).map TL.tl) := by
    have h := congrArg TL.tl (split_join_back x c)
    rw [TL.join_eq, TL.tl_join] at h
    exact h.symm
  rw [e]
  have gen : ∀ (ps : List (List Nat)) (p : List Nat), p ∈ ps → k ∈ p → k ∈ TL.joinL [c] ps := fun ps => by
    induction ps with
    | nil => exact fun p hp => nomatch hp
    | cons q r ih =>
      intro p hp hk
      cases r with
      | nil =>
        have : p = q := by simpa using hp
        subst this
        simpa [TL.joinL] using hk
      | cons q2 r2 =>
        have goal : TL.joinL [c] (q :: q2 :: r2) = q ++ ([c] ++ TL.joinL [c] (q2 :: r2)) := by simp [TL.joinL]
        rw [goal]
        rcases List.mem_cons.mp hp with rfl | hp
        · exact List.mem_append_left _ hk
        · exact List.mem_append_right _ (List.mem_append_right _ (ih p hp hk))
  exact gen _ (TL.tl z) (List.mem_map.mpr ⟨z, hz, rfl⟩) hk
end Vf
namespace Vf
open PySem PySem.Spec PyProof.Rows L2 Evl
/-! ### del xs[:-k] -/
section
variable {prog : Program} {w : World} {A : Around} {E : Value → Shared → Prop} {s : Shared}
def cutF (c n : Nat) : Array Value → Array Value := fun xs => (xs.toList.zipIdx.filterMap fun (x, k) => if (decide ((0 : Int) ≤ (k : Int)) && decide ((k : Int) < ((n - c : Nat) : Int)) && (((k : Int) - 0) % 1 == 0)) = true then none else some x).toArray
theorem del_bounds {c n : Nat} (hc : 0 < c) : sliceBounds none (some (-(c : Int))) none n = (0, ((n - c : Nat) : Int), 1) := by
  simp only [sliceBounds, Option.getD_none]
  have h2 : (-(c : Int)) < 0 := by omega
  simp only [h2, if_true, show (1 : Int) > 0 by decide]
  congr 1
  congr 1
  omega
theorem delItem_slice {l sl : Addr} {items : Array Value} {n : Nat} {vl vu : Value} {c : Nat} {Q : Unit → Shared → Prop}
    (e : s.heap.get? l = some { cls := .type "list", data := .seq items n }) (hs : s.heap.IsSliceOf sl vl vu .none) (pl : IsPart vl none) (pu : IsPart vu (some (-(c : Int)))) (hc : 0 < c)
    (hsz : items.size ≤ sizeLine) (hf : (cutF c items.size items).size ≤ sizeLine + 1) (h : Q () { s with heap := s.heap.update l (Obj.mapSeq (cutF c items.size)) }) :
    wpAny (model prog w) A (delItem (.ref l) (.ref sl)) Q E s := by
  have hl : s.heap.IsList l items := PySem.IsL.isList e
  obtain ⟨os, hos, hcs, hds⟩ := id hs
  have hTs : s.TypeIs (.ref sl) "slice" := ⟨os, hos, hcs⟩
  refine wpAny_delItem_slot hl.typeIs (by decide) PySem.F.slot_list_delitem (wpAny_call_entry PySem.F.slot_list_delitem hl.typeIs PySem.F.entry_list_delitem ?_ (PySem.F.args_list_delitem_2 _ _))
  show wpAny _ _ (Builtin.List.listSubscript? (.ref sl) >>= _) _ _ s
  refine wpAny_bind ?_
  unfold Builtin.List.listSubscript?
  refine wpAny_bind (wpAny_specialOf hTs slice_no_index ?_)
  simp only [Option.isNone_none, if_true]
  refine wpAny_pure ?_
  show wpAny _ _ (typeOf (.ref sl) >>= _) _ _ s
  refine wpAny_bind (wpAny_typeOf hTs ?_)
  rw [if_neg (by decide)]
  rw [listSliceParts_eq]
  refine wpAny_bind (wpAny_bind (wpAny_field hos hds (x := .none) rfl (wpAny_bind (wpAny_listPart .none ?_))))
  rw [if_neg (show ¬ ((rawPart none == rawInt 0) = true) from Bool.false_ne_true)]
  refine wpAny_bind (wpAny_field hos hds (x := vl) rfl (wpAny_bind (wpAny_listPart pl ?_)))
  refine wpAny_bind (wpAny_field hos hds (x := vu) rfl (wpAny_bind (wpAny_listPart pu (wpAny_pure ?_))))
  unfold Builtin.List.listItems
  refine wpAny_bind (wpAny_bind (wpAny_seqItems e rfl (wpAny_pure ?_)))
  refine wpAny_bind (wpAny_of_eq ((sliceIndices_raw none (some (-(c : Int))) none items.size (by simp)).trans (congrArg (pure : Int × Int × Int → Sem (Int × Int × Int)) (del_bounds hc))) ?_)
  refine wpAny_bind (wpAny_rule ?_)
  show wpAny _ _ (updateSeq l (cutF c items.size) >>= _) _ _ s
  refine wpAny_bind (wpAny_updateSeq (hz := hsz) (_hz' := hf) e rfl ?_)
  refine wpAny_bind (wpAny_letGo ?_)
  exact wpAny_pure ⟨.none, rfl, h⟩
theorem zip_drop (m : Nat) : ∀ (l : List Value) (j : Nat), (l.zipIdx j).filterMap (fun (x, k) => if (decide ((0 : Int) ≤ (k : Int)) && decide ((k : Int) < (m : Int)) && (((k : Int) - 0) % 1 == 0)) = true then none else some x) = l.drop (m - j)
  | [], j => by simp
  | x :: r, j => by
    rw [List.zipIdx_cons, List.filterMap_cons]
    by_cases h : j < m
    · have e : (decide ((0 : Int) ≤ (j : Int)) && decide ((j : Int) < (m : Int)) && (((j : Int) - 0) % 1 == 0)) = true := by
        rw [decide_eq_true (by omega), decide_eq_true (by omega)]
        simp
      simp only [e, if_true]
      rw [zip_drop m r (j + 1), show m - j = (m - (j + 1)) + 1 by omega, List.drop_succ_cons]
    · have e : ¬ (decide ((0 : Int) ≤ (j : Int)) && decide ((j : Int) < (m : Int)) && (((j : Int) - 0) % 1 == 0)) = true := by
        rw [decide_eq_false (show ¬ (j : Int) < (m : Int) by omega)]
        simp
      simp only [e, if_false]
      rw [zip_drop m r (j + 1), show m - j = 0 by omega, show m - (j + 1) = 0 by omega]
      rfl
theorem cutF_eq (c : Nat) (its : List Value) : cutF c its.toArray.size its.toArray = (its.drop (its.length - c)).toArray := by
  unfold cutF
  rw [zip_drop]
  simp
end
section
variable {X : Cx}
/-- the last c items are kept -/
def tDelS (to : TE) (th : TO) : TS := fun D σ H => to σ H fun x H1 => th σ H1 fun o H2 => ∃ (l : Addr) (xs : List V) (c : Nat), x = .ref l ∧ o = some (-(c : Int)) ∧ 0 < c ∧ H2 l = some (.lst xs) ∧ D.nx σ (upd H2 l (.lst (xs.drop (xs.length - c))))
theorem ps_delS {o : Expr} {hi : Option Expr} {to : TE} {th : TO} {p2 tpos pos : Pos} (ho : PE X o to) (hh : PO X hi th) : PS X (.Delete [.Subscript o (.Slice none hi none p2) tpos] pos) (tDelS to th) := by
  refine ⟨fun pins s σ H D I h => ?_⟩
  refine wpAny_Delete (wpAny_deleteEach_cons (wpAny_delete_Subscript (thn (ho.run pins s σ H _ I h) ?_)))
  rintro u sa ⟨x, Ha, Ia, rx, q⟩
  refine wpAny_Slice (thn (po_none.run pins sa σ Ha (fun o J => o = none ∧ J = Ha) Ia ⟨rfl, rfl⟩) ?_)
  rintro vl sb ⟨l0, Hb, Ib, pl, rfl, rfl⟩
  refine thn (hh.run pins sb σ Hb _ Ib q) ?_
  rintro vu sc ⟨o2, Hc, Ic, pu, l, xs, c, rfl, rfl, hc, hH, q2⟩
  rw [evalPart_none]
  refine wpAny_pure ?_
  have Id : Inv X pins σ Hc { sc with heap := sc.heap.push { cls := .type "slice", data := .fields #[vl, vu, .none] } } := Ic.kept (t' := sc.toks) fun b ob g => Heap.get?_push_of_some _ g
  cases (show u = Value.ref l from rx)
  obtain ⟨z, its, n, r, hl, e⟩ := Id.lstM hH
  have hlen := r.length
  refine delItem_slice (c := c) e (Heap.IsSliceOf.new ..) pl pu hc (by rw [List.size_toArray]; omega) ?_ ?_
  · rw [cutF_eq, List.size_toArray, List.length_drop]
    omega
  · have J := Id.lset (f := cutF c its.toArray.size) (its' := its.drop (its.length - c)) (ys := xs.drop (xs.length - c)) (t' := sc.toks) hH e (cutF_eq c its) (by rw [hlen]; exact r.drop _) (by rw [List.length_drop]; omega)
    exact wpAny_deleteEach_nil ⟨σ, _, J, q2⟩
end
end Vf
namespace Vf
open PySem PySem.Spec PyProof.Rows L2 Evl
/-! ### a method that may be called, a class that may be made -/
structure MCal (P : Program) (w : World) (K : PySem.W.Frag) (mg : Str → Option Value) (base : Heap) (C : Addr) (m : Str) (k : Nat) (ps : List Str) (sp : Sp) : Prop where
  ex : ∃ (f : Addr) (fd : FuncData), FnOk P w K mg base CX0 k f fd ps sp ∧ Meth K C m f ∧ Binds K fd ps []
structure NCal (P : Program) (w : World) (K : PySem.W.Frag) (mg : Str → Option Value) (base : Heap) (C : Addr) (x : Str) (k : Nat) (ps : List Str) (sp : Sp) : Prop where
  ex : ∃ (f : Addr) (fd : FuncData), FnOk P w K mg base CX0 k f fd ps sp ∧ Mk K C f ∧ mg x = some (.ref C) ∧ Binds K fd ps []
section
variable {X : Cx} {x m : Str} {k : Nat} {ps : List Str} {sp : Sp} {C : Addr} {o e : Expr} {es : List Expr} {ta : TE} {t : TA} {p apos pos : Pos}
theorem pmeth {pl : Sem Bool} (ho : PE X o ta) (c : Cls X.K C) (M : MCal X.prog X.w X.K X.mg X.base C m k ps sp) (hr : Room k X.A) (ha : PA X (e :: es) t)
    (hst : starEach (e :: es) X.env = (false, eval e X.env) :: starEach es X.env := by rfl) (hpl : (backTo pos (starEach es X.env)).any (·.1) = false := by rfl)
    (ht : eval (.Call (.Attribute o m apos) (e :: es) [] pos) X.env = (do
      let ov ← eval o X.env
      standAt apos.atName
      let (f, first) ← holding [ov] (getMethod ov m pl)
      callWith pos f first (backTo pos (starEach (e :: es) X.env)) (backToKw pos (keywordEach [] X.env))) := by rfl) :
    PE X (.Call (.Attribute o m apos) (e :: es) [] pos) (tMeth C m sp [] E0 ta t) := by
  obtain ⟨f, fd, F, hm, hb⟩ := M.ex
  exact pe_meth (pl := pl) ho c hm F hr hb .nil pass0 ha hst hpl ht
theorem pmeth0 {pl : Sem Bool} (ho : PE X o ta) (c : Cls X.K C) (M : MCal X.prog X.w X.K X.mg X.base C m k ps sp) (hr : Room k X.A)
    (ht : eval (.Call (.Attribute o m apos) [] [] pos) X.env = (do
      let ov ← eval o X.env
      standAt apos.atName
      let (f, first) ← holding [ov] (getMethod ov m pl)
      callWith pos f first (backTo pos (starEach [] X.env)) (backToKw pos (keywordEach [] X.env))) := by rfl) :
    PE X (.Call (.Attribute o m apos) [] [] pos) (tMeth C m sp [] E0 ta tNil) := by
  obtain ⟨f, fd, F, hm, hb⟩ := M.ex
  exact pe_meth0 (pl := pl) ho c hm F hr hb .nil pass0 ht
theorem pmake0 (M : NCal X.prog X.w X.K X.mg X.base C x k ps sp) (hr : Room (k + 1) X.A) (hg : Gl X x := by rfl)
    (hdb : (x == ("__debug__" : Str)) = false := by decide) : PE X (.Call (.Name x p) [] [] pos) (tMake C sp [] E0 tNil) := by
  obtain ⟨f, fd, F, hm, hmg, hb⟩ := M.ex
  exact pe_make0 hm F hr hg hmg hb .nil pass0 hdb
theorem pmake (M : NCal X.prog X.w X.K X.mg X.base C x k ps sp) (hr : Room (k + 1) X.A) (ha : PA X (e :: es) t) (hg : Gl X x := by rfl)
    (hdb : (x == ("__debug__" : Str)) = false := by decide) (he : starEach (e :: es) X.env = (false, eval e X.env) :: starEach es X.env := by rfl) (hpl : (backTo pos (starEach es X.env)).any (·.1) = false := by rfl) : PE X (.Call (.Name x p) (e :: es) [] pos) (tMake C sp [] E0 t) := by
  obtain ⟨f, fd, F, hm, hmg, hb⟩ := M.ex
  exact pe_make hm F hr hg hmg hb .nil pass0 ha hdb he hpl
end
/-! ### fields by name -/
theorem lk_hd {k : Str} {v : V} {r : List (Str × V)} : List.lookup k ((k, v) :: r) = some v := by
  rw [List.lookup_cons_self]
theorem lk_tl {k k' : Str} {v : V} {r : List (Str × V)} (h : (k == k') = false) : List.lookup k ((k', v) :: r) = List.lookup k r := by
  rw [List.lookup_cons, h]
theorem put_hd {k : Str} {v y : V} {r : List (Str × V)} : putF k v ((k, y) :: r) = (k, v) :: r := if_pos rfl
theorem put_tl {k k' : Str} {v y : V} {r : List (Str × V)} (h : ¬ k' = k) : putF k v ((k', y) :: r) = (k', y) :: putF k v r := if_neg h
theorem put_nil {k : Str} {v : V} : putF k v [] = [(k, v)] := rfl
/-! ### the last n of a list -/
def lst {α : Type} (n : Nat) (xs : List α) : List α := xs.drop (xs.length - n)
theorem lst_len {α : Type} {n : Nat} {xs : List α} : (lst n xs).length = min n xs.length := by
  unfold lst
  rw [List.length_drop]
  omega
theorem lst_le {α : Type} {n : Nat} {xs : List α} : (lst n xs).length ≤ n := by
  rw [lst_len]
  omega
theorem lst_all {α : Type} {n : Nat} {xs : List α} (h : xs.length ≤ n) : lst n xs = xs := by
  unfold lst
  rw [show xs.length - n = 0 by omega, List.drop_zero]
theorem lst_mem {α : Type} {n : Nat} {xs : List α} {x : α} (h : x ∈ lst n xs) : x ∈ xs := List.mem_of_mem_drop h
theorem lst_snoc {α : Type} {n : Nat} {xs : List α} {x : α} : lst n (lst n xs ++ [x]) = lst n (xs ++ [x]) := by
  unfold lst
  by_cases h : xs.length ≤ n
  · rw [show xs.length - n = 0 by omega, List.drop_zero]
  · by_cases h0 : n = 0
    · subst h0
      simp
    · have e1 : (xs.drop (xs.length - n) ++ [x]).length - n = 1 := by
        rw [List.length_append, List.length_drop, List.length_singleton]
        omega
      have e2 : (xs ++ [x]).length - n = xs.length - n + 1 := by
        rw [List.length_append, List.length_singleton]
        omega
      rw [e1, e2, List.drop_append_of_le_length (by rw [List.length_drop]; omega), List.drop_append_of_le_length (by omega), List.drop_drop]
theorem lst_map {α β : Type} {n : Nat} {xs : List α} {f : α → β} : lst n (xs.map f) = (lst n xs).map f := by
  unfold lst
  rw [List.length_map, List.map_drop]
/-! ### tuples stay -/
def TupEx (H H' : Hp) : Prop := ∀ a xs, H a = some (.tup xs) → H' a = some (.tup xs)
theorem TupEx.refl {H : Hp} : TupEx H H := fun _ _ h => h
theorem TupEx.trans {H H1 H2 : Hp} (h : TupEx H H1) (k : TupEx H1 H2) : TupEx H H2 := fun a xs e => k a xs (h a xs e)
theorem TupEx.ex {H H' : Hp} (e : Ex H H') : TupEx H H' := fun a xs h => e a _ h
theorem TupEx.lst {H : Hp} {l : Addr} {xs : List V} {o : HO} (h : H l = some (.lst xs)) : TupEx H (upd H l o) := fun a ys e => by
  rw [upd_ne (by rintro rfl; rw [h] at e; cases e)]
  exact e
theorem TupEx.ins {H : Hp} {l C dx : Addr} {fs : List (Str × V)} {o : HO} (h : H l = some (.ins C dx fs)) : TupEx H (upd H l o) := fun a ys e => by
  rw [upd_ne (by rintro rfl; rw [h] at e; cases e)]
  exact e
theorem TupEx.new {H : Hp} {l : Addr} {o : HO} (h : H l = none) : TupEx H (upd H l o) := TupEx.ex (Ex.new h)
/-- a list of values, each a tuple of these -/
def Tups (H : Hp) : List V → List (List V) → Prop
  | [], [] => True
  | v :: vs, x :: xs => (∃ a, v = .ref a ∧ H a = some (.tup x)) ∧ Tups H vs xs
  | _, _ => False
theorem Tups.mono {H H' : Hp} (e : TupEx H H') : ∀ {vs : List V} {xs : List (List V)}, Tups H vs xs → Tups H' vs xs
  | [], [], _ => trivial
  | v :: vs, x :: xs, h => ⟨by obtain ⟨a, h1, h2⟩ := h.1; exact ⟨a, h1, e _ _ h2⟩, Tups.mono e h.2⟩
  | [], _ :: _, h => h.elim
  | _ :: _, [], h => h.elim
theorem Tups.len {H : Hp} : ∀ {vs : List V} {xs : List (List V)}, Tups H vs xs → vs.length = xs.length
  | [], [], _ => rfl
  | v :: vs, x :: xs, h => by rw [List.length_cons, List.length_cons, Tups.len h.2]
  | [], _ :: _, h => h.elim
  | _ :: _, [], h => h.elim
theorem Tups.snoc {H : Hp} {a : Addr} {y : List V} (e : H a = some (.tup y)) : ∀ {vs : List V} {xs : List (List V)}, Tups H vs xs → Tups H (vs ++ [.ref a]) (xs ++ [y])
  | [], [], _ => ⟨⟨a, rfl, e⟩, trivial⟩
  | v :: vs, x :: xs, h => ⟨h.1, Tups.snoc e h.2⟩
  | [], _ :: _, h => h.elim
  | _ :: _, [], h => h.elim
theorem Tups.drop {H : Hp} : ∀ {vs : List V} {xs : List (List V)} (n : Nat), Tups H vs xs → Tups H (vs.drop n) (xs.drop n)
  | vs, xs, 0, h => h
  | [], [], n + 1, _ => trivial
  | v :: vs, x :: xs, n + 1, h => Tups.drop n h.2
  | [], _ :: _, _ + 1, h => h.elim
  | _ :: _, [], _ + 1, h => h.elim
theorem Tups.lst {H : Hp} {vs : List V} {xs : List (List V)} {n : Nat} (h : Tups H vs xs) : Tups H (vs.drop (vs.length - n)) (lst n xs) := by
  unfold Vf.lst
  rw [h.len]
  exact Tups.drop _ h
theorem Tups.get {H : Hp} : ∀ {vs : List V} {xs : List (List V)} {i : Nat} {v : V}, Tups H vs xs → vs[i]? = some v → ∃ a x, v = .ref a ∧ H a = some (.tup x) ∧ xs[i]? = some x
  | v :: vs, x :: xs, 0, u, h, e => by
    obtain ⟨a, h1, h2⟩ := h.1
    refine ⟨a, x, ?_, h2, rfl⟩
    rw [← h1]
    exact (Option.some.inj e).symm
  | v :: vs, x :: xs, i + 1, u, h, e => Tups.get (i := i) h.2 e
  | [], [], _, _, _, e => by cases e
  | [], _ :: _, _, _, h, _ => h.elim
  | _ :: _, [], _, _, h, _ => h.elim
end Vf
namespace Vf
open PySem PySem.Spec PyProof.Rows L2 Evl
/-! ### enumerate of a text -/
def Ites (x : Str) : It :=
  ⟨fun i _ => i < x.cps.size, fun i H v H' => ∃ T c, v = .ref T ∧ H T = none ∧ x.cps[i]? = some c ∧ H' = upd H T (.tup [.int (i : Nat), .str ⟨#[c]⟩]), fun i _ => x.cps.size ≤ i⟩
theorem turn_enumS {P : Program} {w : World} {K : PySem.W.Frag} {elts : List Expr} {kk : Nat} {tpos : Pos} (x : Str) (t : Tok) (e it : Addr) :
    Turn P w K (.Tuple elts kk tpos) (Ites x) [e, it] e (fun i h => (∃ old, IsEnum h e it ((i : Nat) : Int) old) ∧ h.IsStrIter it (strIterType x) x t i ∧ e ≠ it ∧ i ≤ x.cps.size) where
  mem := by simp
  obj := fun i h st b hb => by
    obtain ⟨⟨old, he⟩, ⟨o, ho, hc, hd⟩, _⟩ := st
    have e' : b = e ∨ b = it := by simpa using hb
    rcases e' with z | z
    · rw [z]; exact ⟨_, he, fun v q => nomatch q⟩
    · rw [z]; exact ⟨o, ho, fun v q => by rw [hd] at q; cases q⟩
  keep := fun i h h' st k => by
    obtain ⟨⟨old, he⟩, ⟨o, ho, hr⟩, hne, hle⟩ := st
    exact ⟨⟨old, k e (by simp) _ he⟩, ⟨o, k it (by simp) _ ho, hr⟩, hne, hle⟩
  item := by
    intro X hP hw hK hc i pins s σ H E I hf st hg
    subst hP hw hK
    obtain ⟨⟨old, he⟩, hit, hne, hle⟩ := st
    have hg : i < x.cps.size := hg
    have hel : e < s.heap.objs.size := Heap.lt_size he
    have hil : it < s.heap.objs.size := by obtain ⟨_, q, _⟩ := hit; exact Heap.lt_size q
    refine wpAny_pyNext_enum_itemD (Draws.text (A := X.A.in1) (I.ok.hd hc) it x t) he hit hg hne (by simpa using hne) fun v h' tk hv ho hit' hT hsz hk => ?_
    obtain ⟨c, u, hcx, rfl⟩ := hv
    refine ⟨_, rfl, wpAny_letOwnedTupleGo_enum (s := { s with heap := h', toks := tk + 1 }) ho fun h'' he' sb => ?_⟩
    have hT2 : h''.get? s.heap.objs.size = some { cls := .type "tuple", data := .seq #[.int i tk, .str ⟨#[c]⟩ u] } := (sb.2 _ (Nat.ne_of_gt hel)).trans hT
    have new : ObjOk X.prog X.w (upd H s.heap.objs.size (.tup [.int (i : Nat), .str ⟨#[c]⟩])) h'' s.heap.objs.size (.tup [.int (i : Nat), .str ⟨#[c]⟩]) :=
      ⟨by show 2 ≤ sizeLine; decide, [.int i tk, .str ⟨#[c]⟩ u], .cons ⟨_, rfl⟩ (.cons ⟨_, rfl⟩ .nil), ⟨_, hT2, rfl, _, rfl⟩⟩
    have I1 : Inv X pins σ (upd H s.heap.objs.size (.tup [.int (i : Nat), .str ⟨#[c]⟩])) { s with heap := h'', toks := tk + 1 } :=
      I.turnedNew (ch := [e, it]) (fun b ob hb q => (sb.2 b (fun z => hb (by simp [z]))).trans (hk b ob (fun z => hb (by simp [z])) (fun z => hb (by simp [z])) q)) hf (Nat.le_refl _) new
    refine ⟨.ref s.heap.objs.size, _, I1, rfl, ⟨_, c, rfl, I.hok.fresh (Nat.le_refl _), hcx, rfl⟩, ⟨⟨.str ⟨#[c]⟩ u, ?_⟩, ?_, hne, hg⟩, fun b hb => ?_⟩
    · have e1 : ((i + 1 : Nat) : Int) = (i : Int) + 1 := by omega
      rw [e1]; exact he'
    · obtain ⟨o, ho2, hr⟩ := hit'
      exact ⟨o, (sb.2 it (Ne.symm hne)).trans ho2, hr⟩
    · have hb' : b < s.heap.objs.size := by
        have e' : b = e ∨ b = it := by simpa using hb
        rcases e' with z | z
        · rw [z]; exact hel
        · rw [z]; exact hil
      rw [upd_ne (Nat.ne_of_lt hb')]
      exact (hf b hb).1
  done := by
    intro X hP hw hK hc i pins s σ H E I hf st hg
    subst hP hw hK
    obtain ⟨⟨old, he⟩, hit, hne, hle⟩ := st
    have hg : x.cps.size ≤ i := hg
    have ei : i = x.cps.size := by omega
    subst ei
    obtain ⟨f0, f1, f2, f3, f4, f5⟩ := hf it (by simp)
    exact wpAny_pyNext_enum_endD (Draws.text (A := X.A.in1) (I.ok.hd hc) it x t) he hit fun h' eb => ⟨rfl, I.turned (t' := s.toks) (fun b o hb q => eb b o hb q) f0 f1 f3 f4 f5⟩
  self := fun A i s Q E st h => let ⟨⟨_, he⟩, _⟩ := st; wpAny_pyIter_enum he h
def iEnumS (ta : TA) : TI := fun σ H R => ta σ H fun vs H1 => ∃ x, vs = [.str x] ∧ R (Ites x) H1
theorem pi_enumS {X : Cx} {e : Expr} {ta : TA} {p pos tpos : Pos} {elts : List Expr} {kk : Nat} (hg : Gl X "enumerate") (hm : X.mg "enumerate" = none) (ha : PA X [e] ta) (hs : starEach [e] X.env = [(false, eval e X.env)] := by rfl) :
    PI X (.Tuple elts kk tpos) (.Call (.Name "enumerate" p) [e] [] pos) (iEnumS ta) := by
  refine ⟨fun pins s σ H R I h => ?_⟩
  refine Call_ (ld_blt I hg hm boot_enumerate (PyProof.Rows.callWith_type1 (thn (ha.run pos pins s σ H _ I h) fun us s1 ⟨vs, H1, I1, r1, q1⟩ => ?_) hs rfl))
  obtain ⟨x, ex, q⟩ := q1
  subst ex
  cases r1 with
  | cons r rr =>
    cases rr
    obtain ⟨t, rfl⟩ := r
    refine call_enumerate_str fun h' he hit hsz hk => wpAny_pyIter_enum he ?_
    have I2 : Inv X pins σ H1 { s1 with heap := h' } := I1.kept (t' := s1.toks) hk
    refine ⟨s1.heap.objs.size + 1, [s1.heap.objs.size + 1, s1.heap.objs.size], _, _, H1, rfl, I2, turn_enumS x t (s1.heap.objs.size + 1) s1.heap.objs.size, ⟨⟨.none, he⟩, hit, Nat.succ_ne_self _, Nat.zero_le _⟩, fun b hb => ?_, q⟩
    have e' : b = s1.heap.objs.size + 1 ∨ b = s1.heap.objs.size := by simpa using hb
    have hle : s1.heap.objs.size ≤ b := by
      rcases e' with z | z
      · rw [z]; exact Nat.le_add_right _ _
      · rw [z]; exact Nat.le_refl _
    exact I1.fpOk hle (I1.hok.fresh hle)
theorem walk_enumS {z : Str} : Walk (Ites z) z.cps.size (fun _ => True) (fun i H v H' => ∃ T c, v = .ref T ∧ H T = none ∧ z.cps[i]? = some c ∧ H' = upd H T (.tup [.int (i : Nat), .str ⟨#[c]⟩])) :=
  ⟨fun _ _ hi _ => hi, fun _ _ => Nat.le_refl _, fun _ _ _ _ _ _ y => y⟩
end Vf
namespace Vf
open PySem PySem.Spec PyProof.Rows L2 Evl
/-! ### fields by their places in a list of names -/
def plc (k : Str) : List Str → Option Nat
  | [] => none
  | x :: r => if x == k then some 0 else (plc k r).map (· + 1)
def zf (keys : List Str) (vals : List V) : List (Str × V) := keys.zip vals
theorem plc_cons {k x : Str} {r : List Str} {i : Nat} (h : plc k (x :: r) = some i) : (x = k ∧ i = 0) ∨ (¬ x = k ∧ ∃ j, plc k r = some j ∧ i = j + 1) := by
  unfold plc at h
  by_cases e : x = k
  · subst e
    rw [beq_self_eq_true, if_pos rfl] at h
    exact .inl ⟨rfl, (Option.some.inj h).symm⟩
  · rw [if_neg (by rw [beq_eq_false_iff_ne.mpr e]; simp)] at h
    cases e2 : plc k r with
    | none => rw [e2] at h; cases h
    | some j =>
      rw [e2] at h
      exact .inr ⟨e, j, rfl, (Option.some.inj h).symm⟩
theorem plc_none {k x : Str} {r : List Str} (h : plc k (x :: r) = none) : ¬ x = k ∧ plc k r = none := by
  unfold plc at h
  by_cases e : x = k
  · subst e
    rw [beq_self_eq_true, if_pos rfl] at h
    cases h
  · rw [if_neg (by rw [beq_eq_false_iff_ne.mpr e]; simp)] at h
    cases e2 : plc k r with
    | none => exact ⟨e, rfl⟩
    | some j => rw [e2] at h; cases h
theorem zf_get {k : Str} : ∀ {keys : List Str} {vals : List V} {i : Nat} {v : V}, plc k keys = some i → vals[i]? = some v → (zf keys vals).lookup k = some v
  | [], vals, i, v, h, _ => by cases h
  | x :: r, [], i, v, h, e => by cases e
  | x :: r, y :: vals, i, v, h, e => by
    rcases plc_cons h with ⟨rfl, rfl⟩ | ⟨hn, j, hj, rfl⟩
    · cases e
      exact lk_hd
    · refine (lk_tl (beq_eq_false_iff_ne.mpr fun z => hn z.symm)).trans ?_
      exact zf_get (keys := r) (vals := vals) hj e
theorem zf_no {k : Str} : ∀ {keys : List Str} {vals : List V}, plc k keys = none → (zf keys vals).lookup k = none
  | [], vals, _ => rfl
  | x :: r, [], _ => rfl
  | x :: r, y :: vals, h => by
    obtain ⟨hn, h2⟩ := plc_none h
    exact (lk_tl (beq_eq_false_iff_ne.mpr fun z => hn z.symm)).trans (zf_no (keys := r) (vals := vals) h2)
theorem zf_put {k : Str} {v : V} : ∀ {keys : List Str} {vals : List V} {i : Nat}, plc k keys = some i → i < vals.length → putF k v (zf keys vals) = zf keys (vals.set i v)
  | [], vals, i, h, _ => by cases h
  | x :: r, [], i, h, e => by cases e
  | x :: r, y :: vals, i, h, e => by
    rcases plc_cons h with ⟨rfl, rfl⟩ | ⟨hn, j, hj, rfl⟩
    · exact put_hd
    · refine (put_tl hn).trans ?_
      have := zf_put (v := v) (keys := r) (vals := vals) hj (by simpa using e)
      show (x, y) :: putF k v (zf r vals) = _
      rw [this]
      rfl
theorem zf_add {k : Str} {v : V} : ∀ {keys : List Str} {vals : List V}, plc k keys = none → keys.length = vals.length → putF k v (zf keys vals) = zf (keys ++ [k]) (vals ++ [v])
  | [], [], _, _ => rfl
  | [], _ :: _, _, e => by cases e
  | x :: r, [], _, e => by cases e
  | x :: r, y :: vals, h, e => by
    obtain ⟨hn, h2⟩ := plc_none h
    refine (put_tl hn).trans ?_
    have := zf_add (v := v) (keys := r) (vals := vals) h2 (by simpa using e)
    show (x, y) :: putF k v (zf r vals) = _
    rw [this]
    rfl
theorem zf_short {keys : List Str} {vals : List V} (h : keys.length < 1000) : (zf keys vals).length < 1000 := by
  unfold zf
  rw [List.length_zip]
  omega
/-- none of these is an attribute of the class -/
def NoAll (K : PySem.W.Frag) (C : Addr) : List Str → Prop
  | [] => True
  | x :: r => NoAttr K C x ∧ NoAll K C r
theorem NoAll.get {K : PySem.W.Frag} {C : Addr} {k : Str} : ∀ {keys : List Str} {i : Nat}, NoAll K C keys → plc k keys = some i → NoAttr K C k
  | [], i, _, h => by cases h
  | x :: r, i, n, h => by
    rcases plc_cons h with ⟨rfl, rfl⟩ | ⟨_, j, hj, rfl⟩
    · exact n.1
    · exact NoAll.get n.2 hj
structure ClsN (K : PySem.W.Frag) (C : Addr) (keys : List Str) : Prop where
  cl : Cls K C
  no : NoAll K C keys
section
variable {X : Cx} {e : Expr} {f : Str} {ta : TE} {pos : Pos}
theorem pe_fldK (K : PySem.W.Frag) (he : PE X e ta) (hb : attributeBase e f X.env (eval e X.env) = eval e X.env) (hK : X.K = K := by rfl) : PE X (.Attribute e f pos) (tFld K ta f) := by
  subst hK
  exact pe_fld he hb
theorem call_lenK (K : PySem.W.Frag) (hK : X.K = K := by rfl) : CallR X (.builtin "len") (fun xs H Q => ∃ p ys, xs = [.ref p] ∧ (SqL K H p ys ∨ SqT K H p ys) ∧ Q (.int ys.length) H) := by
  subst hK
  exact call_len_seq
theorem op_in_seqK (K : PySem.W.Frag) (hK : X.K = K := by rfl) : OpR X (compareOp .In) (rIn K false) := by
  subst hK
  exact op_in_seq
theorem op_notIn_seqK (K : PySem.W.Frag) (hK : X.K = K := by rfl) : OpR X (compareOp .NotIn) (rIn K true) := by
  subst hK
  exact op_notIn_seq
end
/-! ### things with places of their own -/
structure Thing (A : List Addr → Hp → Prop) : Prop where
  stay : ∀ fp H H', A fp H → TupEx H H' → (∀ a ∈ fp, H' a = H a) → A fp H'
  at_ : ∀ fp H, A fp H → ∀ a ∈ fp, ∃ o, H a = some o ∧ ∀ xs, o ≠ .tup xs
def Beh (A : List Addr → Hp → Prop) (H0 H : Hp) : Prop := Ex H0 H ∧ ∃ fp, (∀ a ∈ fp, H0 a = none) ∧ A fp H
def outOf (H : Hp) (fp : List Addr) : Hp := fun a => if a ∈ fp then none else H a
theorem outOf_ex {H : Hp} {fp : List Addr} : Ex (outOf H fp) H := fun a o h => by
  unfold outOf at h
  by_cases e : a ∈ fp
  · rw [if_pos e] at h
    cases h
  · rw [if_neg e] at h
    exact h
theorem outOf_in {H : Hp} {fp : List Addr} {a : Addr} (h : a ∈ fp) : outOf H fp a = none := if_pos h
theorem outOf_out {H : Hp} {fp : List Addr} {a : Addr} (h : a ∉ fp) : outOf H fp a = H a := if_neg h
theorem exf {H H' : Hp} {a : Addr} (e : Ex H H') (n : H' a = none) : H a = none := fresh_back e n
theorem ex_outOf {H0 H : Hp} {fp : List Addr} (e : Ex H0 H) (n : ∀ a ∈ fp, H0 a = none) : Ex H0 (outOf H fp) := fun a o h => by
  rw [outOf_out (fun k => by rw [n a k] at h; cases h)]
  exact e a o h
section
variable {A B : List Addr → Hp → Prop} {Hb H0 H1 H H' : Hp} {R : Addr} {o : HO}
theorem Beh.ex (T : Thing A) (h : Beh A H0 H) (e : Ex H H') : Beh A H0 H' := by
  obtain ⟨x, fp, n, a⟩ := h
  refine ⟨x.trans e, fp, n, T.stay _ _ _ a (TupEx.ex e) fun b hb => ?_⟩
  obtain ⟨o, ho, _⟩ := T.at_ _ _ a b hb
  rw [ho]
  exact e _ _ ho
theorem Beh.swap (TA : Thing A) (TB : Thing B) (h1 : Beh A Hb H1) (h2 : Beh B H1 H) : ∃ H1', Beh B Hb H1' ∧ Beh A H1' H := by
  obtain ⟨x1, fa, na, a⟩ := h1
  obtain ⟨x2, fb, nb, b⟩ := h2
  have apart : ∀ y ∈ fb, y ∉ fa := fun y hy hz => by
    obtain ⟨o, ho, _⟩ := TA.at_ _ _ a y hz
    rw [nb y hy] at ho
    cases ho
  refine ⟨outOf H fa, ⟨fun y o hy => ?_, fb, fun y hy => exf x1 (nb y hy), TB.stay _ _ _ b (fun y xs hy => ?_) fun y hy => if_neg (apart y hy)⟩, outOf_ex, fa, fun y hy => if_pos hy, TA.stay _ _ _ a (TupEx.ex x2) fun y hy => ?_⟩
  · have : y ∉ fa := fun hz => by
      rw [na y hz] at hy
      cases hy
    show (if y ∈ fa then none else H y) = some o
    rw [if_neg this]
    exact x2 _ _ (x1 _ _ hy)
  · have : y ∉ fa := fun hz => by
      obtain ⟨o, ho, hn⟩ := TA.at_ _ _ a y hz
      rw [x2 _ _ ho] at hy
      exact hn xs (Option.some.inj hy)
    show (if y ∈ fa then none else H y) = _
    rw [if_neg this]
    exact hy
  · obtain ⟨o, ho, _⟩ := TA.at_ _ _ a y hy
    rw [ho]
    exact x2 _ _ ho
theorem Beh.shrink (h : Beh A H1 H) (e : Ex H0 H1) : Beh A H0 H := by
  obtain ⟨x, fp, n, a⟩ := h
  exact ⟨e.trans x, fp, fun y hy => exf e (n y hy), a⟩
theorem Beh.grow (T : Thing A) (h : Beh A H0 H) (n : H R = none) : Beh A (upd H0 R o) (upd H R o) := by
  obtain ⟨x, fp, nf, a⟩ := h
  have ne : ∀ y ∈ fp, y ≠ R := fun y hy => by
    obtain ⟨o, ho, _⟩ := T.at_ _ _ a y hy
    exact ne_of_none ho n
  refine ⟨fun y u hy => ?_, fp, fun y hy => by rw [upd_ne (ne y hy)]; exact nf y hy, T.stay _ _ _ a (TupEx.new n) fun y hy => upd_ne (ne y hy)⟩
  by_cases e : y = R
  · subst e
    rw [upd_same] at hy ⊢
    exact hy
  · rw [upd_ne e] at hy ⊢
    exact x _ _ hy
end
abbrev Prd := List Addr → Hp → Prop
/-- this is so of no place of that -/
def Apart (f : List Addr) (fps : List (List Addr)) : Prop := ∀ g ∈ fps, ∀ a ∈ f, a ∉ g
/-- many things, each with places of its own -/
def Sat : List Prd → List (List Addr) → Hp → Prop
  | [], [], _ => True
  | A :: As, f :: fps, H => A f H ∧ Apart f fps ∧ Sat As fps H
  | _, _, _ => False
def packA (As : List Prd) : Prd := fun fp H => ∃ fps, Sat As fps H ∧ fp = fps.flatten
def Sep (As : List Prd) (H0 H : Hp) : Prop := Ex H0 H ∧ ∃ fps, Sat As fps H ∧ ∀ f ∈ fps, ∀ a ∈ f, H0 a = none
def Things (As : List Prd) : Prop := ∀ A ∈ As, Thing A
theorem Things.nil : Things [] := fun _ h => nomatch h
theorem Things.cons {A : Prd} {As : List Prd} (h : Thing A) (k : Things As) : Things (A :: As) := fun B hB => by
  rcases List.mem_cons.mp hB with rfl | hB
  · exact h
  · exact k B hB
theorem Things.tail {A : Prd} {As : List Prd} (k : Things (A :: As)) : Things As := fun B hB => k B (List.mem_cons_of_mem _ hB)
theorem Things.set {A : Prd} (h : Thing A) : ∀ {As : List Prd} {i : Nat}, Things As → Things (As.set i A)
  | [], _, k => k
  | B :: As, 0, k => Things.cons h k.tail
  | B :: As, i + 1, k => Things.cons (k B List.mem_cons_self) (Things.set (i := i) h k.tail)
theorem sat_at : ∀ {As : List Prd} {fps : List (List Addr)} {H : Hp}, Things As → Sat As fps H → ∀ f ∈ fps, ∀ a ∈ f, ∃ o, H a = some o ∧ ∀ xs, o ≠ .tup xs
  | [], [], H, _, _, f, hf, _, _ => nomatch hf
  | A :: As, f0 :: fps, H, T, h, f, hf, a, ha => by
    rcases List.mem_cons.mp hf with rfl | hf
    · exact (T A List.mem_cons_self).at_ _ _ h.1 a ha
    · exact sat_at (As := As) T.tail h.2.2 f hf a ha
  | [], _ :: _, _, _, h, _, _, _, _ => h.elim
  | _ :: _, [], _, _, h, _, _, _, _ => h.elim
theorem sat_stay : ∀ {As : List Prd} {fps : List (List Addr)} {H H' : Hp}, Things As → Sat As fps H → TupEx H H' → (∀ f ∈ fps, ∀ a ∈ f, H' a = H a) → Sat As fps H'
  | [], [], H, H', _, h, _, _ => trivial
  | A :: As, f0 :: fps, H, H', T, h, te, k => ⟨(T A List.mem_cons_self).stay _ _ _ h.1 te fun a ha => k f0 List.mem_cons_self a ha, h.2.1, sat_stay (As := As) T.tail h.2.2 te fun f hf a ha => k f (List.mem_cons_of_mem _ hf) a ha⟩
  | [], _ :: _, _, _, _, h, _, _ => h.elim
  | _ :: _, [], _, _, _, h, _, _ => h.elim
theorem sat_get : ∀ {As : List Prd} {fps : List (List Addr)} {H : Hp} {i : Nat} {A : Prd}, Sat As fps H → As[i]? = some A → ∃ f, fps[i]? = some f ∧ A f H
  | A :: As, f :: fps, H, 0, B, h, e => by
    cases e
    exact ⟨f, rfl, h.1⟩
  | A :: As, f :: fps, H, i + 1, B, h, e => sat_get (As := As) (fps := fps) (i := i) h.2.2 e
  | [], [], _, _, _, _, e => by cases e
  | [], _ :: _, _, _, _, h, _ => h.elim
  | _ :: _, [], _, _, _, h, _ => h.elim
theorem apart_get {f g : List Addr} {fps : List (List Addr)} {i : Nat} (h : Apart f fps) (e : fps[i]? = some g) : ∀ a ∈ f, a ∉ g := h g (List.mem_of_getElem? e)
theorem sat_set : ∀ {As : List Prd} {fps : List (List Addr)} {H H' : Hp} {i : Nat} {f : List Addr} {A' : Prd} {f' : List Addr}, Things As → Sat As fps H → fps[i]? = some f → TupEx H H' →
    (∀ a, a ∉ f → ∀ o, H a = some o → H' a = some o) → (∀ a ∈ f', H a = none ∨ a ∈ f) → A' f' H' → Sat (As.set i A') (fps.set i f') H'
  | A :: As, f0 :: fps, H, H', 0, f, A', f', T, h, e, te, k, n, hA => by
    cases e
    have hs := sat_at (As := As) T.tail h.2.2
    have off : ∀ g ∈ fps, ∀ a ∈ g, a ∉ f0 := fun g hg a ha ka => h.2.1 g hg a ka ha
    refine ⟨hA, fun g hg a ha hag => ?_, sat_stay T.tail h.2.2 te fun g hg a ha => ?_⟩
    · obtain ⟨o, ho, _⟩ := hs g hg a hag
      rcases n a ha with z | z
      · rw [z] at ho; cases ho
      · exact h.2.1 g hg a z hag
    · obtain ⟨o, ho, _⟩ := hs g hg a ha
      rw [ho]
      exact k a (off g hg a ha) o ho
  | A :: As, f0 :: fps, H, H', i + 1, f, A', f', T, h, e, te, k, n, hA => by
    have e2 : fps[i]? = some f := e
    have h0 := (T A List.mem_cons_self).at_ _ _ h.1
    have off := apart_get h.2.1 e2
    refine ⟨(T A List.mem_cons_self).stay _ _ _ h.1 te fun a ha => ?_, fun g hg a ha hag => ?_, sat_set (As := As) (i := i) T.tail h.2.2 e2 te k n hA⟩
    · obtain ⟨o, ho, _⟩ := h0 a ha
      rw [ho]
      exact k a (off a ha) o ho
    · rcases List.mem_or_eq_of_mem_set hg with hg | rfl
      · exact h.2.1 g hg a ha hag
      · obtain ⟨o, ho, _⟩ := h0 a ha
        rcases n a hag with z | z
        · rw [z] at ho; cases ho
        · exact off a ha z
  | [], [], _, _, _, _, _, _, _, _, e, _, _, _, _ => by cases e
  | [], _ :: _, _, _, _, _, _, _, _, h, _, _, _, _, _ => h.elim
  | _ :: _, [], _, _, _, _, _, _, _, h, _, _, _, _, _ => h.elim
theorem packT {As : List Prd} (T : Things As) : Thing (packA As) := by
  refine ⟨fun fp H H' ⟨fps, h, e⟩ te k => ⟨fps, sat_stay T h te fun f hf a ha => k a ?_, e⟩, fun fp H ⟨fps, h, e⟩ a ha => ?_⟩
  · rw [e]
    exact List.mem_flatten.mpr ⟨f, hf, ha⟩
  · rw [e] at ha
    obtain ⟨f, hf, ha⟩ := List.mem_flatten.mp ha
    exact sat_at T h f hf a ha
theorem sep_beh {As : List Prd} {H0 H : Hp} : Sep As H0 H ↔ Beh (packA As) H0 H := by
  constructor
  · rintro ⟨x, fps, h, n⟩
    refine ⟨x, fps.flatten, fun a ha => ?_, fps, h, rfl⟩
    obtain ⟨f, hf, ha⟩ := List.mem_flatten.mp ha
    exact n f hf a ha
  · rintro ⟨x, fp, n, fps, h, rfl⟩
    exact ⟨x, fps, h, fun f hf a ha => n a (List.mem_flatten.mpr ⟨f, hf, ha⟩)⟩
section
variable {As : List Prd} {A B : Prd} {H0 H H' : Hp} {i : Nat}
theorem Sep.base (h : Sep As H0 H) : Ex H0 H := h.1
theorem Sep.ex (T : Things As) (h : Sep As H0 H) (e : Ex H H') : Sep As H0 H' := by
  obtain ⟨x, fps, s, n⟩ := h
  refine ⟨x.trans e, fps, sat_stay T s (TupEx.ex e) fun f hf a ha => ?_, n⟩
  obtain ⟨o, ho, _⟩ := sat_at T s f hf a ha
  rw [ho]
  exact e _ _ ho
theorem Sep.focus (T : Things As) (h : Sep As H0 H) (e : As[i]? = some A) : ∃ H1, Ex H0 H1 ∧ Beh A H1 H ∧ ∀ A' H', Beh A' H1 H' → Sep (As.set i A') H0 H' := by
  obtain ⟨x, fps, s, n⟩ := h
  obtain ⟨f, ef, hf⟩ := sat_get s e
  have nf := n f (List.mem_of_getElem? ef)
  have x0 : Ex H0 (outOf H f) := ex_outOf x nf
  refine ⟨outOf H f, x0, ⟨outOf_ex, f, fun a ha => outOf_in ha, hf⟩, fun A' H' ⟨y, f', nf', hA⟩ => ?_⟩
  have at_ := (T A (List.mem_of_getElem? e)).at_ _ _ hf
  refine ⟨x0.trans y, fps.set i f', sat_set T s ef (fun a xs ha => ?_) (fun a ha o ho => y _ _ (by rw [outOf_out ha]; exact ho)) (fun a ha => ?_) hA, fun g hg a ha => ?_⟩
  · refine y _ _ ?_
    rw [outOf_out]
    · exact ha
    · intro k
      obtain ⟨o, ho, hn⟩ := at_ a k
      rw [ha] at ho
      exact hn xs (Option.some.inj ho).symm
  · by_cases k : a ∈ f
    · exact .inr k
    · have := nf' a ha
      rw [outOf_out k] at this
      exact .inl this
  · rcases List.mem_or_eq_of_mem_set hg with hg | rfl
    · exact n g hg a ha
    · exact exf x0 (nf' a ha)
theorem Sep.get (h : Sep As H0 H) (e : As[i]? = some A) : ∃ fp, (∀ a ∈ fp, H0 a = none) ∧ A fp H := by
  obtain ⟨x, fps, s, n⟩ := h
  obtain ⟨f, ef, hf⟩ := sat_get s e
  exact ⟨f, n f (List.mem_of_getElem? ef), hf⟩
theorem Sep.cons (T : Things As) (h : Sep As H0 H) (b : Beh B H H') : Sep (B :: As) H0 H' := by
  obtain ⟨x, fps, s, n⟩ := h
  obtain ⟨y, fb, nb, hb⟩ := b
  refine ⟨x.trans y, fb :: fps, ⟨hb, fun g hg a ha hag => ?_, sat_stay T s (TupEx.ex y) fun f hf a ha => ?_⟩, fun f hf a ha => ?_⟩
  · obtain ⟨o, ho, _⟩ := sat_at T s g hg a hag
    rw [nb a ha] at ho
    cases ho
  · obtain ⟨o, ho, _⟩ := sat_at T s f hf a ha
    rw [ho]
    exact y _ _ ho
  · rcases List.mem_cons.mp hf with rfl | hf
    · exact exf x (nb a ha)
    · exact n f hf a ha
theorem sat_snoc {fb : List Addr} : ∀ {As : List Prd} {fps : List (List Addr)} {H : Hp}, Sat As fps H → B fb H → (∀ g ∈ fps, ∀ a ∈ g, a ∉ fb) → Sat (As ++ [B]) (fps ++ [fb]) H
  | [], [], H, _, hb, _ => ⟨hb, (fun g hg => nomatch hg), trivial⟩
  | A :: As, f :: fps, H, h, hb, n => by
    refine ⟨h.1, fun g hg a ha => ?_, sat_snoc (As := As) h.2.2 hb fun g hg => n g (List.mem_cons_of_mem _ hg)⟩
    rcases List.mem_append.mp hg with hg | hg
    · exact h.2.1 g hg a ha
    · rw [List.mem_singleton.mp hg]
      exact n f List.mem_cons_self a ha
  | [], _ :: _, _, h, _, _ => h.elim
  | _ :: _, [], _, h, _, _ => h.elim
theorem Sep.snoc (T : Things As) (h : Sep As H0 H) (b : Beh B H H') : Sep (As ++ [B]) H0 H' := by
  obtain ⟨x, fps, s, n⟩ := h
  obtain ⟨y, fb, nb, hb⟩ := b
  have off : ∀ g ∈ fps, ∀ a ∈ g, a ∉ fb := fun g hg a ha k => by
    obtain ⟨o, ho, _⟩ := sat_at T s g hg a ha
    rw [nb a k] at ho
    cases ho
  refine ⟨x.trans y, fps ++ [fb], sat_snoc (sat_stay T s (TupEx.ex y) fun f hf a ha => ?_) hb off, fun f hf a ha => ?_⟩
  · obtain ⟨o, ho, _⟩ := sat_at T s f hf a ha
    rw [ho]
    exact y _ _ ho
  · rcases List.mem_append.mp hf with hf | hf
    · exact n f hf a ha
    · rw [List.mem_singleton.mp hf] at ha
      exact exf x (nb a ha)
theorem Sep.into {Bs : List Prd} (T : Things Bs) (TA : Things As) (h : Sep Bs H0 H) (e : Bs[i]? = some (packA As)) (b : Beh B H H') : Sep (Bs.set i (packA (As ++ [B]))) H0 H' := by
  obtain ⟨H1, x, k, back⟩ := h.focus T e
  exact back _ _ (sep_beh.mp ((sep_beh.mpr k).snoc TA b))
theorem Sep.one (b : Beh A H0 H) : Sep [A] H0 H := by
  obtain ⟨x, f, n, h⟩ := b
  exact ⟨x, [f], ⟨h, (fun g hg => nomatch hg), trivial⟩, fun g hg => by rw [List.mem_singleton.mp hg]; exact n⟩
theorem pack_nil : Beh (packA []) H H := ⟨Ex.refl H, [], (fun _ h => nomatch h), [], trivial, rfl⟩
theorem Sep.tail (h : Sep (A :: As) H0 H) : Sep As H0 H := by
  obtain ⟨x, fps, s, n⟩ := h
  match fps, s with
  | f :: fps, s => exact ⟨x, fps, s.2.2, fun g hg => n g (List.mem_cons_of_mem _ hg)⟩
theorem Sep.shrink {H1 : Hp} (h : Sep As H1 H) (e : Ex H0 H1) : Sep As H0 H := by
  obtain ⟨x, fps, s, n⟩ := h
  exact ⟨e.trans x, fps, s, fun f hf a ha => exf e (n f hf a ha)⟩
theorem Sep.nil (e : Ex H0 H) : Sep [] H0 H := ⟨e, [], trivial, fun _ h => nomatch h⟩
end
/-! ### one object -/
def cellA (a : Addr) (o : HO) : Prd := fun fp H => fp = [a] ∧ H a = some o ∧ ∀ xs, o ≠ .tup xs
theorem cellT (a : Addr) (o : HO) : Thing (cellA a o) := by
  refine ⟨fun fp H H' ⟨e, h, n⟩ te k => ⟨e, ?_, n⟩, fun fp H ⟨e, h, n⟩ b hb => ?_⟩
  · subst e
    rw [k a (by simp)]
    exact h
  · subst e
    rw [List.mem_singleton.mp hb]
    exact ⟨o, h, n⟩
theorem cell_new {H : Hp} {a : Addr} {o : HO} (n : H a = none) (t : ∀ xs, o ≠ .tup xs) : Beh (cellA a o) H (upd H a o) := ⟨Ex.new n, [a], fun b hb => by rw [List.mem_singleton.mp hb]; exact n, rfl, upd_same, t⟩
theorem cell_get {H0 H : Hp} {a : Addr} {o : HO} (h : Beh (cellA a o) H0 H) : H a = some o ∧ H0 a = none := by
  obtain ⟨x, fp, n, rfl, h, _⟩ := h
  exact ⟨h, n a (by simp)⟩
theorem cell_set {H0 H : Hp} {a : Addr} {o o' : HO} (h : Beh (cellA a o) H0 H) (t : ∀ xs, o' ≠ .tup xs) : Beh (cellA a o') H0 (upd H a o') := by
  obtain ⟨x, fp, n, rfl, h, _⟩ := h
  exact ⟨ex_set x (n a (by simp)), [a], n, rfl, upd_same, t⟩
theorem Sep.cell {As : List Prd} {H0 H : Hp} {i : Nat} {a : Addr} {o : HO} (h : Sep As H0 H) (e : As[i]? = some (cellA a o)) : H a = some o := by
  obtain ⟨fp, _, _, h, _⟩ := h.get e
  exact h
theorem Sep.cell0 {As : List Prd} {H0 H : Hp} {i : Nat} {a : Addr} {o : HO} (h : Sep As H0 H) (e : As[i]? = some (cellA a o)) : H0 a = none := by
  obtain ⟨fp, n, rfl, h, _⟩ := h.get e
  exact n a (by simp)
theorem Sep.write {As : List Prd} {H0 H : Hp} {i : Nat} {a : Addr} {o o' : HO} (T : Things As) (h : Sep As H0 H) (e : As[i]? = some (cellA a o)) (t : ∀ xs, o' ≠ .tup xs) : Sep (As.set i (cellA a o')) H0 (upd H a o') := by
  obtain ⟨H1, x, b, back⟩ := h.focus T e
  exact back _ _ (cell_set b t)
/-- some x of which this is so -/
def exA {α : Type} (F : α → Prd) : Prd := fun fp H => ∃ x, F x fp H
theorem exT {α : Type} {F : α → Prd} (T : ∀ x, Thing (F x)) : Thing (exA F) :=
  ⟨fun fp H H' ⟨x, h⟩ te k => ⟨x, (T x).stay _ _ _ h te k⟩, fun fp H ⟨x, h⟩ => (T x).at_ _ _ h⟩
theorem ex_beh {α : Type} {F : α → Prd} {H0 H : Hp} : Beh (exA F) H0 H ↔ ∃ x, Beh (F x) H0 H := by
  constructor
  · rintro ⟨x, fp, n, y, h⟩
    exact ⟨y, x, fp, n, h⟩
  · rintro ⟨y, x, fp, n, h⟩
    exact ⟨x, fp, n, y, h⟩
end Vf
namespace Vf
open PySem PySem.Spec PyProof.Rows L2
/-! ### the text by places -/
def topS (i : Nat) : Stmt := PySem.Challenge.pw_attachhall_k03_panes_sign_by_sign.main.body.getD i (.Pass ⟨0, 0, 0, 0⟩)
end Vf
namespace Vf
open PySem PySem.Spec PyProof.Rows L2 Evl
/-! ### the box of numbers -/
abbrev sBeg : Stmt := topS 20
theorem scBeg : FnScope ["_law_script", "_law_stirred", "_law_cell"] ["_law_script"] (defScope sBeg) := ⟨rfl, rfl, rfl, by decide +kernel, rfl, by decide +kernel, by decide +kernel⟩
structure TBeg (mg : Str → Option Value) : Prop where
  z_list : mg "list" = none
  z_int : mg "int" = none
  z_len : mg "len" = none
section
variable {P : Program} {w : World} {K : PySem.W.Frag} {mg : Str → Option Value} {base : Heap}
def spBegO (K : PySem.W.Frag) : Sp := fun vs H Q _ => ∃ (a : Addr) (ns : List Int), vs = [.ref a] ∧ SqL K H a (ns.map V.int) ∧ ns.length ≤ 63 ∧
  ∀ (b l : Addr) (z : Int) (ns' : List Int) (H' : Hp), b ≠ l → Ex H H' → H b = none → H l = none → H' b = some (.lst [.ref l, .int z]) → H' l = some (.lst (ns'.map V.int)) → Q (.ref b) H'
def spBeg (K : PySem.W.Frag) : Sp := fun vs H Q _ => ∃ (a : Addr) (ns : List Int), vs = [.ref a] ∧ SqL K H a (ns.map V.int) ∧ ns.length ≤ 63 ∧
  ∀ (b l : Addr) (H' : Hp), Ex H H' → Box H' b l → Q (.ref b) H'
theorem ok_begun0 {f : Addr} {fd : FuncData} (F : Fun K "_law_begun" "_law_begun" sBeg f fd) (T : TBeg mg) : FnOk P w K mg base CX0 1 f fd ["_law_script"] (spBegO K) := by
  refine F.ok scBeg (fun vs H Q E h => ?_) (fun cdv A outer s H vs Q E hr h => ?_)
  · obtain ⟨a, ns, rfl, _⟩ := h
    rfl
  · obtain ⟨a, ns, rfl, hS, hlen, q⟩ := h
    refine ⟨_, (pss_cons (ps_set (i := 1) scBeg.nd rfl (Or.inl rfl) pe_int)
      (pss_cons (ps_for PassesOwn.never rfl (pi_list (pv 0)) (pg_name (i := 2) scBeg.nd rfl (Or.inl rfl)) (pss_one (ps_set (i := 1) scBeg.nd rfl (Or.inl rfl) (pe_op op_mod (pe_op op_add (pe_op op_add (pe_op op_mul (pv 1) pe_int) (pe_op op_mul (pv 2) pe_int)) pe_int) pe_int))))
      (pss_one (ps_ret (pe_lst (pa_cons (pe_callTy call_list_of (by rfl) T.z_list boot_list (pa_cons (pv 0) pa_nil)) (pa_cons (pe_op op_mul (pv 1) (pe_callTy call_int1 (by rfl) T.z_int boot_int (pa_cons (pe_cmpR op_gt (pe_callB call_len_seq (by rfl) T.z_len PySem.boot_len (pa_cons (pv 0) pa_nil)) pe_int (nomark _)) pa_nil))) pa_nil))))))), ?_⟩
    refine ⟨.ref a, rfl, a, rfl, ⟨_, hS⟩, for_list (K := K) (a := a) (xs := ns.map V.int) (fun i σ H' => ∃ (z : Int) (c : Option V), σ = [some (.ref a), some (.int z), c] ∧ -(2 ^ 64) < z ∧ z < 2 ^ 64 ∧ H' = H)
      ⟨0, none, rfl, by decide, by decide, rfl⟩ (fun i σ H' _ ⟨_, _, _, _, _, e⟩ => by rw [e]; exact hS) ?_ ?_⟩
    · rintro i y σ H' hi ⟨z, c, rfl, h1, h2, rfl⟩
      obtain ⟨u, rfl⟩ : ∃ u, y = V.int u := by
        rw [List.getElem?_map] at hi
        cases e : ns[i]? with
        | none =>
          rw [e] at hi
          cases hi
        | some u =>
          rw [e] at hi
          exact ⟨u, (Option.some.inj hi).symm⟩
      refine ⟨_, rfl, z, 48271, rfl, rfl, .inl ⟨h1, h2⟩, _, rfl, u, 69621, rfl, rfl, .inr (by decide), _, _, rfl, rfl, _, _, rfl, rfl, _, _, rfl, rfl, (by show (0 : Int) < 2147483647; decide), ?_⟩
      refine ⟨_, _, rfl, ?_, ?_, rfl⟩
      · exact Int.lt_of_lt_of_le (by decide) (Int.emod_nonneg _ (by decide))
      · exact Int.lt_of_lt_of_le (Int.emod_lt_of_pos _ (by decide)) (by decide)
    · rintro σ H' ⟨z, c, rfl, h1, h2, rfl⟩
      refine ⟨.ref a, rfl, a, _, rfl, .inl hS, fun l nl => ?_⟩
      have kl : Ex H' (upd H' l (.lst (ns.map V.int))) := Ex.new nl
      have hl : upd H' l (.lst (ns.map V.int)) l = some (.lst (ns.map V.int)) := upd_same
      generalize upd H' l (.lst (ns.map V.int)) = H1 at kl hl ⊢
      have fin : ∀ (k : Bool) (Q' : VK), Q' = Q → (rI CMul fun i j => .int (i * j)) (.int z) (.int (if k then 1 else 0)) H1 fun x H2 => (fun xs H3 => xs.length ≤ sizeLine ∧ ∀ p, H3 p = none → Q' (.ref p) (upd H3 p (.lst xs))) [.ref l, x] H2 := fun k Q' e => by
        subst e
        refine ⟨_, _, rfl, rfl, .inl ⟨h1, h2⟩, (by show 2 ≤ sizeLine; decide), fun b nb => ?_⟩
        have hbl : b ≠ l := (ne_of_none hl nb).symm
        exact q b l _ ns _ hbl (kl.trans (Ex.new nb)) (by
          cases e : H' b with
          | none => rfl
          | some o => rw [kl _ _ e] at nb; cases nb) nl upd_same (by rw [upd_ne hbl.symm]; exact hl)
      refine ⟨.int z, rfl, .ref a, rfl, a, _, rfl, .inl (ex_l kl hS), _, _, rfl, rfl, .inr ⟨_, rfl, ?_⟩⟩
      exact fin _ _ rfl
theorem ok_begun {f : Addr} {fd : FuncData} (F : Fun K "_law_begun" "_law_begun" sBeg f fd) (T : TBeg mg) : FnOk P w K mg base CX0 1 f fd ["_law_script"] (spBeg K) := by
  have G : FnOk P w K mg base CX0 1 f fd ["_law_script"] (spBegO K) := ok_begun0 F T
  refine ⟨fun vs H Q E h => ?_, fun A outer s H args us vs Q E hr e0 hb hv h => ?_⟩
  · obtain ⟨a, ns, rfl, _⟩ := h
    rfl
  · obtain ⟨a, ns, rfl, hS, hlen, q⟩ := h
    refine codeAny_mono (G.run A outer s H args us [.ref a] (fun v H2 => ∃ b l z ns, v = .ref b ∧ b ≠ l ∧ Ex H H2 ∧ H b = none ∧ H l = none ∧ H2 b = some (.lst [.ref l, .int z]) ∧ H2 l = some (.lst (ns.map V.int))) E hr e0 hb hv
      ⟨a, ns, rfl, hS, hlen, fun b l z ns' H' h1 h2 h3 h4 h5 h6 => ⟨b, l, z, ns', rfl, h1, h2, h3, h4, h5, h6⟩⟩) fun r s' hq => ?_
    cases r with
    | error e => exact hq
    | ok fl =>
      cases fl with
      | ret u =>
        obtain ⟨v, H2, os, bare, un, hok, rv, b, l, z, ns2, rfl, hne, ex, n1, n2, hb2, hl2⟩ := hq
        exact ⟨.ref b, closed H2 b l, os, bare, un_new un n1 n2 hb2 hl2, hok_close hok hb2 hl2, rv, q b l _ (ex_new2 ex n1 n2) ⟨hne, upd_same, by unfold closed; rw [upd_ne (Ne.symm hne), upd_same]⟩⟩
      | next => exact hq
      | brk => exact hq
      | cont => exact hq
end
end Vf
namespace Vf
open PySem PySem.Spec PyProof.Rows L2 Evl
/-! ### a draw -/
abbrev sTak : Stmt := topS 21
theorem scTak : FnScope ["_law_box", "_law_many_here", "_law_number"] ["_law_box", "_law_many_here"] (defScope sTak) := ⟨rfl, rfl, rfl, by decide +kernel, rfl, by decide +kernel, by decide +kernel⟩
section
variable {P : Program} {w : World} {K : PySem.W.Frag} {mg : Str → Option Value} {base : Heap}
theorem ok_take {f : Addr} {fd : FuncData} (F : Fun K "_law_take" "_law_take" sTak f fd) (m : Int) (h0 : 0 < m) (h1 : m < 1073741824) :
    FnOk P w K mg base CX0 1 f fd ["_law_box", "_law_many_here"] (spOpen (fun v => ∃ i, v = V.int i ∧ 0 ≤ i ∧ i < m) (fun r => r = [V.int m])) := by
  refine F.ok scTak (fun vs H Q E h => ?_) (fun cdv A outer s H vs Q E hr h => ?_)
  · obtain ⟨b, l, z, ns, rest, rfl, rfl, _⟩ := h
    rfl
  · obtain ⟨b, l, z, ns, rest, rfl, rfl, hne, hb, hl, q⟩ := h
    refine ⟨_, (pss_cons (ps_if (pt_cmpR (op_eqD hr.units) (pe_ix ix_list (pv 0) pe_int (fun _ _ => rfl)) (pe_lst pa_nil) (nomark _)) (pss_cons (ps_asg (pe_op op_mod (pe_op op_mul (pe_ix ix_list (pv 0) pe_int (fun _ _ => rfl)) pe_int) pe_int) (pg_sub (pv 0) pe_int set_list))
      (pss_one (ps_ret (pe_op op_mod (pe_op op_fdivN (pe_ix ix_list (pv 0) pe_int (fun _ _ => rfl)) pe_int) (pv 1))))) pss_nil)
      (pss_cons (ps_set (i := 2) scTak.nd rfl (Or.inl rfl) (pe_ix ix_list (pe_ix ix_list (pv 0) pe_int (fun _ _ => rfl)) pe_int (fun _ _ => rfl)))
      (pss_cons (ps_asg (pe_op op_fdivN (pv 2) (pv 1)) (pg_sub (pe_ix ix_list (pv 0) pe_int (fun _ _ => rfl)) pe_int set_list))
      (pss_cons (ps_if (PW.pt (pw_or (pt_cmpR op_eq (pe_ix ix_list (pe_ix ix_list (pv 0) pe_int (fun _ _ => rfl)) pe_int (fun _ _ => rfl)) pe_int (nomark _)) (pw_or1 (pt_cmpR op_eq (pe_ix ix_list (pe_ix ix_list (pv 0) pe_int (fun _ _ => rfl)) pe_int (fun _ _ => rfl)) (pe_un un_neg pe_int) (nomark _))))) (pss_one (ps_expr (pe_bm PySem.F.plainAttrs_list PySem.F.slot_list_pop PySem.F.type_list_pop mt_popAt (pe_ix ix_list (pv 0) pe_int (fun _ _ => rfl)) (pa_cons pe_int pa_nil)))) pss_nil)
      (pss_one (ps_ret (pe_op op_mod (pv 2) (pv 1)))))))), ?_⟩
    have hmod : ∀ i : Int, ∃ j, V.int (i % m) = V.int j ∧ 0 ≤ j ∧ j < m := fun i => ⟨i % m, rfl, Int.emod_nonneg _ (by omega), Int.emod_lt_of_pos _ h0⟩
    refine ⟨.ref b, rfl, b, _, 0, .ref l, rfl, rfl, SqL.of hb, atI_nat (j := 0) rfl, Nat.zero_le _, fun p np => ?_⟩
    have kp : ∀ c o, H c = some o → (upd H p (.lst [])) c = some o := fun c o e => by rw [upd_ne (ne_of_none e np)]; exact e
    have hb1 := kp _ _ hb
    have hl1 := kp _ _ hl
    have pp : (upd H p (.lst [])) p = some (.lst []) := upd_same
    generalize upd H p (HO.lst []) = H1 at kp hb1 hl1 pp ⊢
    refine ⟨.list (ns.map PyData.int), .list [], .lst (SqL.of hl1) (dp_ints ns), .lst (SqL.of pp) .nil, sh_ints ns, rfl, _, rfl, ?_⟩
    rw [eqv_nil]
    refine ite2 (fun e => ?_) (fun e => ?_)
    · have e0 : ns = [] := of_decide_eq_true e
      subst e0
      -- the second number turned on
      refine ⟨.ref b, rfl, b, _, 1, .int z, rfl, rfl, SqL.of hb1, atI_nat (j := 1) rfl, _, _, rfl, rfl, .inr (by decide), _, _, rfl, rfl, (by show (0 : Int) < 2147483647; decide), .ref b, rfl, b, _, 1, 1, rfl, rfl, hb1, rfl, ?_⟩
      refine ⟨.ref b, rfl, b, _, 1, .int (z * 48271 % 2147483647), rfl, rfl, SqL.of upd_same, atI_nat (j := 1) rfl, _, _, rfl, rfl, ⟨by decide, by decide⟩, _, rfl, _, _, rfl, rfl, h0, ?_⟩
      refine q _ _ (z * 48271 % 2147483647) [] (hmod _) (fun c o h2 h3 e => by rw [upd_ne h2]; exact kp c o e) upd_same (by rw [upd_ne (Ne.symm hne)]; exact hl1)
    · have e0 : ns ≠ [] := fun z => e (decide_eq_true z)
      obtain ⟨n, r, rfl⟩ : ∃ n r, ns = n :: r := by
        cases ns with
        | nil => exact absurd rfl e0
        | cons n r => exact ⟨n, r, rfl⟩
      refine ⟨.ref b, rfl, b, _, 0, .ref l, rfl, rfl, SqL.of hb1, atI_nat (j := 0) rfl, l, _, 0, .int n, rfl, rfl, SqL.of hl1, atI_nat (j := 0) rfl, ?_⟩
      refine ⟨.int n, rfl, .int m, rfl, _, _, rfl, rfl, ⟨by omega, by omega⟩, .ref b, rfl, b, _, 0, .ref l, rfl, rfl, SqL.of hb1, atI_nat (j := 0) rfl, l, _, 0, 0, rfl, rfl, hl1, ixN_nat (j := 0) (by simp), ?_⟩
      have hb2 : upd H1 l (.lst (((n :: r).map V.int).set 0 (.int (n.fdiv m)))) b = some (.lst [.ref l, .int z]) := by rw [upd_ne hne]; exact hb1
      have hl2 : upd H1 l (.lst (((n :: r).map V.int).set 0 (.int (n.fdiv m)))) l = some (.lst ((n.fdiv m :: r).map V.int)) := upd_same
      have kp2 : ∀ c o, c ≠ l → H c = some o → upd H1 l (.lst (((n :: r).map V.int).set 0 (.int (n.fdiv m)))) c = some o := fun c o h e => by rw [upd_ne h]; exact kp c o e
      generalize upd H1 l (.lst (((n :: r).map V.int).set 0 (.int (n.fdiv m)))) = H2 at hb2 hl2 kp2 ⊢
      have fin : ∀ (H' : Hp) (ns' : List Int), (∀ c o, c ≠ b → c ≠ l → H c = some o → H' c = some o) → H' b = some (.lst [.ref l, .int z]) → H' l = some (.lst (ns'.map V.int)) → Q (.int (n % m)) H' := fun H' ns' h2 h3 h4 => q _ _ z ns' (hmod _) h2 h3 h4
      have fin2 : ∀ (H' : Hp) (ns' : List Int), (∀ c o, c ≠ b → c ≠ l → H c = some o → H' c = some o) → H' b = some (.lst [.ref l, .int z]) → H' l = some (.lst (ns'.map V.int)) →
          tRet (tOp (rI (fun _ j => 0 < j) fun i j => .int (i % j)) (tVar 2) (tVar 1)) { nx := fun _ H' => Q .non H', rt := Q } [some (V.ref b), some (V.int m), some (V.int n)] H' :=
        fun H' ns' h2 h3 h4 => ⟨.int n, rfl, .int m, rfl, _, _, rfl, rfl, h0, fin H' ns' h2 h3 h4⟩
      have pop : tDrop (tBM K "list" rPopAt (tOp (rIxL K) (tVar 0) (tC (.int 0))) (tCons (tC (.int 0)) tNil)) { nx := fun σ H => tRet (tOp (rI (fun _ j => 0 < j) fun i j => .int (i % j)) (tVar 2) (tVar 1)) { nx := fun _ H' => Q .non H', rt := Q } σ H, rt := Q } [some (V.ref b), some (V.int m), some (V.int n)] H2 := by
        refine ⟨.ref b, rfl, b, _, 0, .ref l, rfl, rfl, SqL.of hb2, atI_nat (j := 0) rfl, .inl ⟨rfl, _, SqL.of hl2⟩, l, _, 0, 0, .int (n.fdiv m), rfl, rfl, hl2, by decide, by decide, seq0 _ _, rfl, ?_⟩
        exact fin2 _ r (fun c o _ h3 e => by rw [upd_ne h3]; exact kp2 c o h3 e) (by rw [upd_ne hne]; exact hb2) upd_same
      refine ⟨.ref b, rfl, b, _, 0, .ref l, rfl, rfl, SqL.of hb2, atI_nat (j := 0) rfl, l, _, 0, .int (n.fdiv m), rfl, rfl, SqL.of hl2, atI_nat (j := 0) rfl, rfl, _, rfl, ?_⟩
      refine ite2 (fun _ => iteT pop) (fun _ => ?_)
      refine ⟨.ref b, rfl, b, _, 0, .ref l, rfl, rfl, SqL.of hb2, atI_nat (j := 0) rfl, l, _, 0, .int (n.fdiv m), rfl, rfl, SqL.of hl2, atI_nat (j := 0) rfl, 1, rfl, rfl, _, rfl, ?_⟩
      exact ite2 (fun _ => pop) (fun _ => fin2 H2 _ (fun c o _ h3 e => kp2 c o h3 e) hb2 hl2)
def spTak : Sp := fun vs H Q _ => ∃ (b l : Addr) (m : Int), vs = [.ref b, .int m] ∧ Box H b l ∧ 0 < m ∧ m < 1073741824 ∧ ∀ (i : Int) (H' : Hp), Ex H H' → 0 ≤ i → i < m → Q (.int i) H'
theorem ok_take2 {f : Addr} {fd : FuncData} (F : Fun K "_law_take" "_law_take" sTak f fd) : FnOk P w K mg base CX0 1 f fd ["_law_box", "_law_many_here"] spTak := by
  have G := hide_fn (P := P) (w := w) (K := K) (mg := mg) (base := base) (k := 1) (f := f) (fd := fd) (ps := ["_law_box", "_law_many_here"]) (R := fun r v => ∃ m i, r = [V.int m] ∧ v = V.int i ∧ 0 ≤ i ∧ i < m) (pre := fun r => ∃ m, r = [V.int m] ∧ 0 < m ∧ m < 1073741824)
    (fun r0 ⟨m, e, h0, h1⟩ => (ok_take F m h0 h1).imp fun vs H Q E ⟨b, l, z, ns, rest, e1, e2, e3, e4, e5, q⟩ => ⟨b, l, z, ns, rest, e1, e2.trans e, e3, e4, e5, fun v H' z' ns' ⟨i, x1, x2, x3⟩ => q v H' z' ns' ⟨m, i, e, x1, x2, x3⟩⟩)
    (fun r ⟨m, e, _⟩ => by rw [e]; rfl)
  refine G.imp fun vs H Q E ⟨b, l, m, e, B, h0, h1, q⟩ => ⟨b, l, [.int m], e, ⟨m, rfl, h0, h1⟩, B, fun v H' ⟨m', i, x1, x2, x3, x4⟩ ex => ?_⟩
  have em : m = m' := V.int.inj (List.cons.inj x1).1
  subst em
  subst x2
  exact q i H' ex x3 x4
end
structure CTak (P : Program) (w : World) (K : PySem.W.Frag) (mg : Str → Option Value) (base : Heap) : Prop where
  law_take : Cal P w K mg base "_law_take" 1 ["_law_box", "_law_many_here"] spTak
end Vf
namespace Vf
open PySem PySem.Spec PyProof.Rows L2 Evl
/-! ### numbers within bounds -/
abbrev sIsN : Stmt := topS 1
theorem scIsN : FnScope ["number"] ["number"] (defScope sIsN) := ⟨rfl, rfl, rfl, by decide +kernel, rfl, by decide +kernel, by decide +kernel⟩
abbrev sWit : Stmt := topS 2
theorem scWit : FnScope ["number", "least", "most"] ["number", "least", "most"] (defScope sWit) := ⟨rfl, rfl, rfl, by decide +kernel, rfl, by decide +kernel, by decide +kernel⟩
structure TBnd (mg : Str → Option Value) : Prop where
  z_isinstance : mg "isinstance" = none
  z_bool : mg "bool" = none
/-- a number, or True or False -/
inductive NumV : V → Bool → Prop
  | int (i : Int) : NumV (.int i) true
  | bl (b : Bool) : NumV (.bl b) false
def spIsN : Sp := fun vs H Q _ => ∃ (x : V) (b : Bool), vs = [x] ∧ NumV x b ∧ Q (.bl b) H
def spWit : Sp := fun vs H Q _ => ∃ (x : V) (a b : Int), vs = [x, .int a, .int b] ∧ ((∃ i, x = .int i ∧ Q (.bl (decide (a ≤ i ∧ i ≤ b))) H) ∨ ∃ t, x = .bl t ∧ Q (.bl false) H)
theorem wit_no {p : Prop} [Decidable p] (h : p) : ¬ ((!decide p) = true) := by
  rw [decide_eq_true h]
  exact fun z => by cases z
theorem wit_out {p : Prop} [Decidable p] (h : (!decide p) = true) : ¬ p := fun k => wit_no k h
theorem wit_in {p : Prop} [Decidable p] (h : ¬ ((!decide p) = true)) : p := by
  by_cases k : p
  · exact k
  · exact absurd (by rw [decide_eq_false k]; rfl) h
section
variable {P : Program} {w : World} {K : PySem.W.Frag} {mg : Str → Option Value} {base : Heap}
theorem ok_isn {f : Addr} {fd : FuncData} (F : Fun K "is_number" "is_number" sIsN f fd) (T : TBnd mg) : FnOk P w K mg base CX0 1 f fd ["number"] spIsN := by
  refine F.ok scIsN (fun vs H Q E h => ?_) (fun cdv A outer s H vs Q E hr h => ?_)
  · obtain ⟨x, b, rfl, _⟩ := h
    rfl
  · obtain ⟨x, b, rfl, hx, q⟩ := h
    refine ⟨_, (pss_one (ps_ret (pe_not (pe_callB call_isi (by rfl) T.z_isinstance boot_isinstance (pa_cons (pv 0) (pa_cons (pe_bltn (v := .ty "bool") (by rfl) T.z_bool boot_bool rfl) pa_nil)))))), ?_⟩
    cases hx with
    | int i => exact ⟨.int i, rfl, _, .ty "bool", _, _, false, rfl, .ty "bool", (.base (.int i)), kit_ty (show kitB "int" "bool" = some false by decide +kernel), _, rfl, q⟩
    | bl b => exact ⟨.bl b, rfl, _, .ty "bool", _, _, true, rfl, .ty "bool", (.base (.bl b)), kit_ty (show kitB "bool" "bool" = some true by decide +kernel), _, rfl, q⟩
structure CBnd1 (P : Program) (w : World) (K : PySem.W.Frag) (mg : Str → Option Value) (base : Heap) : Prop where
  is_number : Cal P w K mg base "is_number" 1 ["number"] spIsN
theorem ok_wit {f : Addr} {fd : FuncData} (F : Fun K "is_within" "is_within" sWit f fd) (T : TBnd mg) (C : CBnd1 P w K mg base) : FnOk P w K mg base CX0 2 f fd ["number", "least", "most"] spWit := by
  refine F.ok scWit (fun vs H Q E h => ?_) (fun cdv A outer s H vs Q E hr h => ?_)
  · obtain ⟨x, a, b, rfl, _⟩ := h
    rfl
  · obtain ⟨x, a, b, rfl, h⟩ := h
    refine ⟨_, (pss_one (ps_ret (pe_and (pcall C.is_number (hr.mono (by first | decide | omega)) (pa_cons (pv 0) pa_nil)) (pe_and (pe_cmpR op_ge (pv 0) (pv 1) (nomark _)) (pe_one (pe_cmpR op_le (pv 0) (pv 2) (nomark _))))))), ?_⟩
    rcases h with ⟨i, rfl, q⟩ | ⟨t, rfl, q⟩
    · refine ⟨.int i, rfl, .int i, true, rfl, .int i, true, rfl, iteT ⟨_, rfl, _, rfl, _, _, rfl, rfl, _, rfl, ?_⟩⟩
      refine ite2 (fun e => ⟨_, rfl, _, rfl, _, _, rfl, rfl, ?_⟩) (fun e => ?_)
      · have h1 := of_decide_eq_true e
        rw [show decide (a ≤ i ∧ i ≤ b) = decide (i ≤ b) from decide_eq_decide.mpr ⟨fun k => k.2, fun k => ⟨h1, k⟩⟩] at q
        exact q
      · have h1 := of_decide_eq_false (Bool.eq_false_iff.mpr e)
        rw [show decide (a ≤ i ∧ i ≤ b) = false from decide_eq_false fun k => h1 k.1] at q
        exact q
    · refine ⟨.bl t, rfl, .bl t, false, rfl, .bl t, false, rfl, iteF q⟩
end
structure CBnd (P : Program) (w : World) (K : PySem.W.Frag) (mg : Str → Option Value) (base : Heap) : Prop where
  is_within : Cal P w K mg base "is_within" 2 ["number", "least", "most"] spWit
end Vf
namespace Vf
open PySem PySem.Spec PyProof.Rows L2 Evl
/-! ### the same data -/
abbrev sAli : Stmt := topS 22
theorem scAli : FnScope ["_law_found", "_law_due", "_law_k"] ["_law_found", "_law_due"] (defScope sAli) := ⟨rfl, rfl, rfl, by decide +kernel, rfl, by decide +kernel, by decide +kernel⟩
structure TAli (mg : Str → Option Value) : Prop where
  z_bool : mg "bool" = none
  z_int : mg "int" = none
  z_str : mg "str" = none
  z_list : mg "list" = none
  z_tuple : mg "tuple" = none
  z_isinstance : mg "isinstance" = none
  z_len : mg "len" = none
  z_range : mg "range" = none
def spAli (K : PySem.W.Frag) (n : Nat) : Sp := fun vs H Q _ => ∃ (x y : V) (d : PyData), vs = [x, y] ∧ Dp K H x d ∧ Dp K H y d ∧ good n d = true ∧ n ≤ 60 ∧ Q (.bl true) H
theorem isi_of {K : PySem.W.Frag} {H : Hp} {x : V} {t u : String} {b : Bool} {Q : VK} (ty : TyX K H x (.type t)) (h : kitB t u = some b) (q : Q (.bl b) H) : rIsi K [x, .ty u] H Q := ⟨x, .ty u, _, _, b, rfl, .ty u, ty, kit_ty h, q⟩
theorem sh_of {d : PyData} {n : Nat} (h : PyData.canLay0 d = true) (hd : PyData.depth d ≤ n) (hn : n ≤ 60) : SeqAt.shaped d = true := by
  show (PyData.canLay0 d && decide (PyData.depth d ≤ 64)) = true
  rw [h, decide_eq_true (by omega)]
  rfl
theorem dpall_get {K : PySem.W.Frag} {H : Hp} : ∀ {xs : List V} {ds : List PyData} {i : Nat} {d : PyData}, DpAll K H xs ds → ds[i]? = some d → ∃ x, xs[i]? = some x ∧ Dp K H x d
  | _, _, _, _, .nil, e => by simp at e
  | _, _, 0, _, .cons h _, e => by
    simp at e
    subst e
    exact ⟨_, rfl, h⟩
  | _, _, i + 1, _, .cons _ t, e => by
    obtain ⟨x, h1, h2⟩ := dpall_get (i := i) t (by simpa using e)
    exact ⟨x, by simpa using h1, h2⟩
theorem dpall_len {K : PySem.W.Frag} {H : Hp} : ∀ {xs : List V} {ds : List PyData}, DpAll K H xs ds → xs.length = ds.length
  | _, _, .nil => rfl
  | _, _, .cons _ t => by rw [List.length_cons, List.length_cons, dpall_len t]
theorem depth_get : ∀ {ds : List PyData} {i : Nat} {d : PyData}, ds[i]? = some d → PyData.depth d ≤ PyData.depthAll ds
  | [], _, _, e => by simp at e
  | x :: r, 0, d, e => by
    simp at e
    subst e
    exact Nat.le_max_left _ _
  | x :: r, i + 1, d, e => Nat.le_trans (depth_get (ds := r) (i := i) (by simpa using e)) (Nat.le_max_right _ _)
theorem lay_get : ∀ {ds : List PyData} {i : Nat} {d : PyData}, PyData.canLayAll0 ds = true → ds[i]? = some d → PyData.canLay0 d = true
  | [], _, _, _, e => by simp at e
  | x :: r, 0, d, h, e => by
    simp at e
    subst e
    exact (Bool.and_eq_true_iff.mp (show (PyData.canLay0 x && PyData.canLayAll0 r) = true from h)).1
  | x :: r, i + 1, d, h, e => lay_get (ds := r) (i := i) (Bool.and_eq_true_iff.mp (show (PyData.canLay0 x && PyData.canLayAll0 r) = true from h)).2 (by simpa using e)
theorem ty_list {K : PySem.W.Frag} {H : Hp} {a : Addr} {xs : List V} (h : SqL K H a xs) : TyX K H (.ref a) (.type "list") := by
  rcases h with (h | ⟨o, h⟩) | h
  · exact .base (.lst h)
  · exact .base (.frz h)
  · obtain ⟨_, _, _, h, c, _⟩ := h
    exact .kList h c
theorem ty_tup {K : PySem.W.Frag} {H : Hp} {a : Addr} {xs : List V} (h : SqT K H a xs) : TyX K H (.ref a) (.type "tuple") := by
  rcases h with (h | ⟨o, h⟩) | h
  · exact .base (.tup h)
  · exact .fTuple h
  · obtain ⟨_, _, _, h, c, _⟩ := h
    exact .kTuple h c
section
variable {P : Program} {w : World} {K : PySem.W.Frag} {mg : Str → Option Value} {base : Heap}
structure CAli (P : Program) (w : World) (K : PySem.W.Frag) (mg : Str → Option Value) (base : Heap) (k : Nat) (sp : Sp) : Prop where
  law_alike : Cal P w K mg base "_law_alike" k ["_law_found", "_law_due"] sp
theorem ok_alike1 {f : Addr} {fd : FuncData} {k n : Nat} {sp : Sp} (F : Fun K "_law_alike" "_law_alike" sAli f fd) (T : TAli mg) (C : CAli P w K mg base k sp)
    (hC : ∀ (x y : V) (d : PyData) (H : Hp) (Q : VK) (E : XK), Dp K H x d → Dp K H y d → (∃ m, n = m + 1 ∧ good m d = true) → n ≤ 60 → Q (.bl true) H → sp [x, y] H Q E) : FnOk P w K mg base CX0 (k + 1) f fd ["_law_found", "_law_due"] (spAli K n) := by
  refine F.ok scAli (fun vs H Q E h => ?_) (fun cdv A outer s H vs Q E hr h => ?_)
  · obtain ⟨x, y, d, rfl, _⟩ := h
    rfl
  · obtain ⟨x, y, d, rfl, hx, hy, hg, hn, q⟩ := h
    obtain ⟨hl, hd⟩ := good_lay n d hg
    refine ⟨_, (pss_cons (ps_if (pt_cmpR op_isN (pv 1) pe_non (nomark _)) (pss_one (ps_ret (pe_cmpR op_isN (pv 0) pe_non (nomark _)))) pss_nil)
      (pss_cons (ps_if (pt_val (pe_callB call_isi (by rfl) T.z_isinstance boot_isinstance (pa_cons (pv 1) (pa_cons (pe_bltn (v := .ty "bool") (by rfl) T.z_bool boot_bool rfl) pa_nil)))) (pss_one (ps_ret (pe_and (pe_callB call_isi (by rfl) T.z_isinstance boot_isinstance (pa_cons (pv 0) (pa_cons (pe_bltn (v := .ty "bool") (by rfl) T.z_bool boot_bool rfl) pa_nil))) (pe_one (pe_cmpR (op_eqD hr.units) (pv 0) (pv 1) (nomark _)))))) pss_nil)
      (pss_cons (ps_if (pt_val (pe_callB call_isi (by rfl) T.z_isinstance boot_isinstance (pa_cons (pv 1) (pa_cons (pe_bltn (v := .ty "int") (by rfl) T.z_int boot_int rfl) pa_nil)))) (pss_one (ps_ret (pe_and (pe_callB call_isi (by rfl) T.z_isinstance boot_isinstance (pa_cons (pv 0) (pa_cons (pe_bltn (v := .ty "int") (by rfl) T.z_int boot_int rfl) pa_nil))) (pe_and (pe_not (pe_callB call_isi (by rfl) T.z_isinstance boot_isinstance (pa_cons (pv 0) (pa_cons (pe_bltn (v := .ty "bool") (by rfl) T.z_bool boot_bool rfl) pa_nil)))) (pe_one (pe_cmpR (op_eqD hr.units) (pv 0) (pv 1) (nomark _))))))) pss_nil)
      (pss_cons (ps_if (pt_val (pe_callB call_isi (by rfl) T.z_isinstance boot_isinstance (pa_cons (pv 1) (pa_cons (pe_bltn (v := .ty "str") (by rfl) T.z_str boot_str rfl) pa_nil)))) (pss_one (ps_ret (pe_and (pe_callB call_isi (by rfl) T.z_isinstance boot_isinstance (pa_cons (pv 0) (pa_cons (pe_bltn (v := .ty "str") (by rfl) T.z_str boot_str rfl) pa_nil))) (pe_one (pe_cmpR (op_eqD hr.units) (pv 0) (pv 1) (nomark _)))))) pss_nil)
      (pss_cons (ps_if (PW.pt (pw_or (pt_cmpR op_ne (pe_callB call_isi (by rfl) T.z_isinstance boot_isinstance (pa_cons (pv 1) (pa_cons (pe_bltn (v := .ty "tuple") (by rfl) T.z_tuple boot_tuple rfl) pa_nil))) (pe_callB call_isi (by rfl) T.z_isinstance boot_isinstance (pa_cons (pv 0) (pa_cons (pe_bltn (v := .ty "tuple") (by rfl) T.z_tuple boot_tuple rfl) pa_nil))) (nomark _)) (pw_or1 (pt_cmpR op_ne (pe_callB call_isi (by rfl) T.z_isinstance boot_isinstance (pa_cons (pv 1) (pa_cons (pe_bltn (v := .ty "list") (by rfl) T.z_list boot_list rfl) pa_nil))) (pe_callB call_isi (by rfl) T.z_isinstance boot_isinstance (pa_cons (pv 0) (pa_cons (pe_bltn (v := .ty "list") (by rfl) T.z_list boot_list rfl) pa_nil))) (nomark _))))) (pss_one (ps_ret pe_bl)) pss_nil)
      (pss_cons (ps_if (pt_cmpR op_ne (pe_callB call_len_seq (by rfl) T.z_len PySem.boot_len (pa_cons (pv 0) pa_nil)) (pe_callB call_len_seq (by rfl) T.z_len PySem.boot_len (pa_cons (pv 1) pa_nil)) (nomark _)) (pss_one (ps_ret pe_bl)) pss_nil)
      (pss_cons (ps_for PassesOwn.never rfl (pi_range1 rfl T.z_range (pa_cons (pe_callB call_len_seq (by rfl) T.z_len PySem.boot_len (pa_cons (pv 1) pa_nil)) pa_nil)) (pg_name (i := 2) scAli.nd rfl (Or.inl rfl)) (pss_one (ps_if (pt_not (pt_val (pcall C.law_alike (hr.mono (by first | decide | omega)) (pa_cons (pe_ix ix_seq (pv 0) (pv 2) (fun _ _ => rfl)) (pa_cons (pe_ix ix_seq (pv 1) (pv 2) (fun _ _ => rfl)) pa_nil))))) (pss_one (ps_ret pe_bl)) pss_nil)))
      (pss_one (ps_ret pe_bl))))))))), ?_⟩
    refine ⟨y, rfl, rfl, _, rfl, ?_⟩
    cases d with
    | none =>
      cases hx
      cases hy
      rw [decide_eq_true rfl]
      refine iteT ?_
      exact ⟨.non, rfl, rfl, q⟩
    | bool b =>
      cases hx
      cases hy
      refine iteF ?_
      refine ⟨.bl b, rfl, ?_⟩
      refine ⟨_, .ty "bool", _, _, true, rfl, .ty "bool", (.base (.bl b)), kit_ty (show kitB "bool" "bool" = some true by decide +kernel), ?_⟩
      refine ⟨_, rfl, iteT ?_⟩
      refine ⟨.bl b, rfl, ?_⟩
      refine ⟨_, .ty "bool", _, _, true, rfl, .ty "bool", (.base (.bl b)), kit_ty (show kitB "bool" "bool" = some true by decide +kernel), ?_⟩
      refine ⟨_, rfl, iteT ?_⟩
      refine ⟨.bl b, rfl, .bl b, rfl, .bool b, .bool b, .bl b, .bl b, rfl, rfl, ?_⟩
      rw [SeqAt.eqv_refl _ rfl]
      exact q
    | int i =>
      cases hx
      cases hy
      refine iteF ?_
      refine ⟨.int i, rfl, ?_⟩
      refine ⟨_, .ty "bool", _, _, false, rfl, .ty "bool", (.base (.int i)), kit_ty (show kitB "int" "bool" = some false by decide +kernel), ?_⟩
      refine ⟨_, rfl, iteF ?_⟩
      refine ⟨.int i, rfl, ?_⟩
      refine ⟨_, .ty "int", _, _, true, rfl, .ty "int", (.base (.int i)), kit_ty (show kitB "int" "int" = some true by decide +kernel), ?_⟩
      refine ⟨_, rfl, iteT ?_⟩
      refine ⟨.int i, rfl, ?_⟩
      refine ⟨_, .ty "int", _, _, true, rfl, .ty "int", (.base (.int i)), kit_ty (show kitB "int" "int" = some true by decide +kernel), ?_⟩
      refine ⟨_, rfl, iteT ?_⟩
      refine ⟨.int i, rfl, ?_⟩
      refine ⟨_, .ty "bool", _, _, false, rfl, .ty "bool", (.base (.int i)), kit_ty (show kitB "int" "bool" = some false by decide +kernel), ?_⟩
      refine ⟨_, rfl, _, rfl, iteT ?_⟩
      refine ⟨.int i, rfl, .int i, rfl, .int i, .int i, .int i, .int i, rfl, rfl, ?_⟩
      rw [SeqAt.eqv_refl _ rfl]
      exact q
    | str z =>
      cases hx
      cases hy
      have hs := sh_of hl hd hn
      refine iteF ?_
      refine ⟨.str z, rfl, ?_⟩
      refine ⟨_, .ty "bool", _, _, false, rfl, .ty "bool", (.base (.str z)), kit_ty (show kitB "str" "bool" = some false by decide +kernel), ?_⟩
      refine ⟨_, rfl, iteF ?_⟩
      refine ⟨.str z, rfl, ?_⟩
      refine ⟨_, .ty "int", _, _, false, rfl, .ty "int", (.base (.str z)), kit_ty (show kitB "str" "int" = some false by decide +kernel), ?_⟩
      refine ⟨_, rfl, iteF ?_⟩
      refine ⟨.str z, rfl, ?_⟩
      refine ⟨_, .ty "str", _, _, true, rfl, .ty "str", (.base (.str z)), kit_ty (show kitB "str" "str" = some true by decide +kernel), ?_⟩
      refine ⟨_, rfl, iteT ?_⟩
      refine ⟨.str z, rfl, ?_⟩
      refine ⟨_, .ty "str", _, _, true, rfl, .ty "str", (.base (.str z)), kit_ty (show kitB "str" "str" = some true by decide +kernel), ?_⟩
      refine ⟨_, rfl, iteT ?_⟩
      refine ⟨.str z, rfl, .str z, rfl, .str z, .str z, .str z, .str z, hs, hs, ?_⟩
      rw [SeqAt.eqv_refl _ hl]
      exact q
    | dict _ => cases hx
    | list ds =>
      cases hx with
      | @lst a xs _ ha hA =>
      cases hy with
      | @lst b ys _ hb hB =>
      have ta := ty_list ha
      have tb := ty_list hb
      refine iteF ?_
      refine ⟨.ref b, rfl, ?_⟩
      refine ⟨_, .ty "bool", _, _, false, rfl, .ty "bool", tb, kit_ty (show kitB "list" "bool" = some false by decide +kernel), ?_⟩
      refine ⟨_, rfl, iteF ?_⟩
      refine ⟨.ref b, rfl, ?_⟩
      refine ⟨_, .ty "int", _, _, false, rfl, .ty "int", tb, kit_ty (show kitB "list" "int" = some false by decide +kernel), ?_⟩
      refine ⟨_, rfl, iteF ?_⟩
      refine ⟨.ref b, rfl, ?_⟩
      refine ⟨_, .ty "str", _, _, false, rfl, .ty "str", tb, kit_ty (show kitB "list" "str" = some false by decide +kernel), ?_⟩
      refine ⟨_, rfl, iteF ?_⟩
      refine ⟨.ref b, rfl, ?_⟩
      refine ⟨_, .ty "tuple", _, _, false, rfl, .ty "tuple", tb, kit_ty (show kitB "list" "tuple" = some false by decide +kernel), ?_⟩
      refine ⟨.ref a, rfl, ?_⟩
      refine ⟨_, .ty "tuple", _, _, false, rfl, .ty "tuple", ta, kit_ty (show kitB "list" "tuple" = some false by decide +kernel), ?_⟩
      refine ⟨rfl, _, rfl, iteF ?_⟩
      refine ⟨.ref b, rfl, ?_⟩
      refine ⟨_, .ty "list", _, _, true, rfl, .ty "list", tb, kit_ty (show kitB "list" "list" = some true by decide +kernel), ?_⟩
      refine ⟨.ref a, rfl, ?_⟩
      refine ⟨_, .ty "list", _, _, true, rfl, .ty "list", ta, kit_ty (show kitB "list" "list" = some true by decide +kernel), ?_⟩
      refine ⟨rfl, _, rfl, iteF ?_⟩
      have el : xs.length = ys.length := (dpall_len hA).trans (dpall_len hB).symm
      refine ⟨.ref a, rfl, a, xs, rfl, .inl ha, .ref b, rfl, b, ys, rfl, .inl hb, rfl, _, rfl, ?_⟩
      rw [el]
      refine iteNS rfl ?_
      cases n with
      | zero => cases hg
      | succ m =>
      have hg2 : (decide (ds.length ≤ 16777216) && ds.all (good m)) = true := hg
      have hlen : ys.length ≤ 16777216 := by
        rw [dpall_len hB]
        exact good_len hg2
      refine ⟨.ref b, rfl, b, ys, rfl, .inl hb, _, rfl, by omega, by omega, ?_⟩
      refine for_range (lo := 0) (n := ((ys.length : Nat) : Int).toNat) (fun i σ H' => ∃ c, σ = [some (.ref a), some (.ref b), c] ∧ H' = H) ⟨none, rfl, rfl⟩ ?_ ?_
      · rintro i σ H' hi ⟨c, rfl, rfl⟩
        have hi2 : i < ds.length := by rw [← dpall_len hB]; omega
        obtain ⟨x, gx, dx⟩ := dpall_get hA (List.getElem?_eq_getElem hi2)
        obtain ⟨y, gy, dy⟩ := dpall_get hB (List.getElem?_eq_getElem hi2)
        refine ⟨.ref a, rfl, _, rfl, .inl ⟨a, xs, _, x, rfl, rfl, ha, at_of (by omega) gx, .ref b, rfl, _, rfl, .inl ⟨b, ys, _, y, rfl, rfl, hb, at_of (by omega) gy, ?_⟩⟩⟩
        exact hC x y _ _ _ _ dx dy ⟨m, rfl, good_get hg2 (List.getElem?_eq_getElem hi2)⟩ hn ⟨_, rfl, iteF ⟨_, rfl, rfl⟩⟩
      · rintro σ H' ⟨c, rfl, rfl⟩
        exact q
    | tuple ds =>
      cases hx with
      | @tup a xs _ ha hA =>
      cases hy with
      | @tup b ys _ hb hB =>
      have ta := ty_tup ha
      have tb := ty_tup hb
      refine iteF ?_
      refine ⟨.ref b, rfl, ?_⟩
      refine ⟨_, .ty "bool", _, _, false, rfl, .ty "bool", tb, kit_ty (show kitB "tuple" "bool" = some false by decide +kernel), ?_⟩
      refine ⟨_, rfl, iteF ?_⟩
      refine ⟨.ref b, rfl, ?_⟩
      refine ⟨_, .ty "int", _, _, false, rfl, .ty "int", tb, kit_ty (show kitB "tuple" "int" = some false by decide +kernel), ?_⟩
      refine ⟨_, rfl, iteF ?_⟩
      refine ⟨.ref b, rfl, ?_⟩
      refine ⟨_, .ty "str", _, _, false, rfl, .ty "str", tb, kit_ty (show kitB "tuple" "str" = some false by decide +kernel), ?_⟩
      refine ⟨_, rfl, iteF ?_⟩
      refine ⟨.ref b, rfl, ?_⟩
      refine ⟨_, .ty "tuple", _, _, true, rfl, .ty "tuple", tb, kit_ty (show kitB "tuple" "tuple" = some true by decide +kernel), ?_⟩
      refine ⟨.ref a, rfl, ?_⟩
      refine ⟨_, .ty "tuple", _, _, true, rfl, .ty "tuple", ta, kit_ty (show kitB "tuple" "tuple" = some true by decide +kernel), ?_⟩
      refine ⟨rfl, _, rfl, iteF ?_⟩
      refine ⟨.ref b, rfl, ?_⟩
      refine ⟨_, .ty "list", _, _, false, rfl, .ty "list", tb, kit_ty (show kitB "tuple" "list" = some false by decide +kernel), ?_⟩
      refine ⟨.ref a, rfl, ?_⟩
      refine ⟨_, .ty "list", _, _, false, rfl, .ty "list", ta, kit_ty (show kitB "tuple" "list" = some false by decide +kernel), ?_⟩
      refine ⟨rfl, _, rfl, iteF ?_⟩
      have el : xs.length = ys.length := (dpall_len hA).trans (dpall_len hB).symm
      refine ⟨.ref a, rfl, a, xs, rfl, .inr ha, .ref b, rfl, b, ys, rfl, .inr hb, rfl, _, rfl, ?_⟩
      rw [el]
      refine iteNS rfl ?_
      cases n with
      | zero => cases hg
      | succ m =>
      have hg2 : (decide (ds.length ≤ 16777216) && ds.all (good m)) = true := hg
      have hlen : ys.length ≤ 16777216 := by
        rw [dpall_len hB]
        exact good_len hg2
      refine ⟨.ref b, rfl, b, ys, rfl, .inr hb, _, rfl, by omega, by omega, ?_⟩
      refine for_range (lo := 0) (n := ((ys.length : Nat) : Int).toNat) (fun i σ H' => ∃ c, σ = [some (.ref a), some (.ref b), c] ∧ H' = H) ⟨none, rfl, rfl⟩ ?_ ?_
      · rintro i σ H' hi ⟨c, rfl, rfl⟩
        have hi2 : i < ds.length := by rw [← dpall_len hB]; omega
        obtain ⟨x, gx, dx⟩ := dpall_get hA (List.getElem?_eq_getElem hi2)
        obtain ⟨y, gy, dy⟩ := dpall_get hB (List.getElem?_eq_getElem hi2)
        refine ⟨.ref a, rfl, _, rfl, .inr (.inl ⟨a, xs, _, x, rfl, rfl, ha, at_of (by omega) gx, .ref b, rfl, _, rfl, .inr (.inl ⟨b, ys, _, y, rfl, rfl, hb, at_of (by omega) gy, ?_⟩)⟩)⟩
        exact hC x y _ _ _ _ dx dy ⟨m, rfl, good_get hg2 (List.getElem?_eq_getElem hi2)⟩ hn ⟨_, rfl, iteF ⟨_, rfl, rfl⟩⟩
      · rintro σ H' ⟨c, rfl, rfl⟩
        exact q
theorem ok_alike {f : Addr} {fd : FuncData} (F : Fun K "_law_alike" "_law_alike" sAli f fd) (T : TAli mg) (hm : mg "_law_alike" = some (.ref f)) (hb : Binds K fd ["_law_found", "_law_due"] []) : ∀ n : Nat, FnOk P w K mg base CX0 (n + 1) f fd ["_law_found", "_law_due"] (spAli K n)
  | 0 => ok_alike1 (sp := fun _ _ _ _ => False) F T ⟨⟨f, fd, ⟨fun _ _ _ _ h => h.elim, fun _ _ _ _ _ _ _ _ _ _ _ _ _ h => h.elim⟩, hm, F.kp, hb⟩⟩ fun _ _ _ _ _ _ _ _ h => by
      obtain ⟨m, h, _⟩ := h
      exact absurd h (by omega)
  | n + 1 => ok_alike1 F T ⟨⟨f, fd, ok_alike F T hm hb n, hm, F.kp, hb⟩⟩ fun x y d H Q E hx hy h hn q => by
      obtain ⟨m, h, hg⟩ := h
      obtain rfl : m = n := by omega
      exact ⟨x, y, d, rfl, hx, hy, hg, by omega, q⟩
end
end Vf
namespace Vf
open PySem PySem.Spec PyProof.Rows L2 Evl
/-! ### numbers as they stand in texts -/
abbrev sNum : Stmt := topS 7
theorem scNum : FnScope ["text", "most"] ["text", "most"] (defScope sNum) := ⟨rfl, rfl, rfl, by decide +kernel, rfl, by decide +kernel, by decide +kernel⟩
abbrev sWrp : Stmt := topS 16
theorem scWrp : FnScope ["signs", "place", "sign"] ["signs"] (defScope sWrp) := ⟨rfl, rfl, rfl, by decide +kernel, rfl, by decide +kernel, by decide +kernel⟩
def KEY : Str := litOf (topS 9)
structure TFig (mg : Str → Option Value) : Prop where
  z_enumerate : mg "enumerate" = none
  mg_KEYS : ∃ t, mg "KEYS" = some (.str KEY t)
  z_len : mg "len" = none
  z_int : mg "int" = none
def Asc (z : Str) : Prop := ∀ c ∈ z.cps.toList, c < 128
open NumText in
/-- the number that a text of figures writes -/
def figV (z : Str) : Nat := digitsVal z.cps.toList
theorem dig_low : ((List.range 128).all fun c => !Unicode.isDigit c || (decide (48 ≤ c) && decide (c ≤ 57))) = true := by decide +kernel
open NumText in
theorem dig_all {z : Str} (h : Asc z) (hd : Txt.isdigit z = true) : AllDigits z.cps.toList ∧ z.cps.toList ≠ [] := by
  have hd2 : (decide (z.length > 0) && z.cps.all Unicode.isDigit) = true := hd
  rw [Bool.and_eq_true, decide_eq_true_iff, ← Array.all_toList, List.all_eq_true] at hd2
  refine ⟨fun c hc => ?_, fun e => ?_⟩
  · have q := List.all_eq_true.mp dig_low c (List.mem_range.mpr (h c hc))
    rw [hd2.2 c hc] at q
    simpa using q
  · have := hd2.1
    rw [← str_len, e] at this
    cases this
theorem asc_iff {z : Str} : Txt.isascii z = true ↔ Asc z := by
  unfold Txt.isascii Asc
  rw [← Array.all_toList, List.all_eq_true]
  exact ⟨fun h c hc => of_decide_eq_true (h c hc), fun h c hc => decide_eq_true (h c hc)⟩
theorem vstr0 {x y : Str} : decide (V.str x = V.str y) = true ↔ x = y := by
  rw [decide_eq_true_iff]
  exact ⟨fun h => V.str.inj h, fun h => by rw [h]⟩
/-- the number of a text of one to m figures, none needless -/
def numOf (z : Str) (m : Nat) : Option Nat :=
  if Txt.isascii z = false ∨ Txt.isdigit z = false ∨ m < z.length then none
  else if Txt.startswith z "0" = true ∧ ¬ z = "0" then none else some (figV z)
def numV : Option Nat → V
  | none => .non
  | some n => .int n
def spNum : Sp := fun vs H Q _ => ∃ (z : Str) (m : Nat), vs = [.str z, .int m] ∧ m ≤ 640 ∧ z.length ≤ 1000000 ∧ Q (numV (numOf z m)) H
section
variable {P : Program} {w : World} {K : PySem.W.Frag} {mg : Str → Option Value} {base : Heap}
theorem bne {b : Bool} : (!b) = true ↔ b = false := by cases b <;> simp
theorem ok_num {f : Addr} {fd : FuncData} (F : Fun K "number_of" "number_of" sNum f fd) (T : TFig mg) : FnOk P w K mg base CX0 1 f fd ["text", "most"] spNum := by
  refine F.ok scNum (fun vs H Q E h => ?_) (fun cdv A outer s H vs Q E hr h => ?_)
  · obtain ⟨z, m, rfl, _⟩ := h
    rfl
  · obtain ⟨z, m, rfl, hm, hz, q⟩ := h
    refine ⟨_, (pss_cons (ps_if (PW.pt (pw_or (pt_not (pt_val (pe_m0 PySem.F.slot_str_isascii PySem.F.type_str_isascii mt_isascii (pv 0)))) (pw_or (pt_not (pt_val (pe_m0 PySem.F.slot_str_isdigit PySem.F.type_str_isdigit mt_isdigit (pv 0)))) (pw_or1 (pt_cmpR op_gt (pe_callB call_len_str (by rfl) T.z_len PySem.boot_len (pa_cons (pv 0) pa_nil)) (pv 1) (nomark _)))))) (pss_one (ps_ret pe_non)) pss_nil)
      (pss_cons (ps_if (PW.pt (pw_and (pt_val (pe_m1 PySem.F.slot_str_startswith PySem.F.type_str_startswith mt_startswith (pv 0) pe_str)) (pw_and1 (pt_cmpR op_ne (pv 0) pe_str (nomark _))))) (pss_one (ps_ret pe_non)) pss_nil)
      (pss_one (ps_ret (pe_callTy call_int_str (by rfl) T.z_int boot_int (pa_cons (pv 0) pa_nil)))))), ?_⟩
    have qn : numOf z m = none → Q .non H := fun e => by rw [e] at q; exact q
    have big : z.length ≤ sizeLine := Nat.le_trans hz (by decide)
    have n1 : (Txt.isascii z = false ∨ Txt.isdigit z = false ∨ m < z.length) → Q .non H := fun e => qn (if_pos e)
    refine ⟨_, rfl, ⟨_, rfl⟩, _, rfl, rfl, trivial, _, rfl, ite2 (fun e => iteT (n1 (.inl (bne.mp e)))) (fun e1 => ?_)⟩
    refine ⟨_, rfl, ⟨_, rfl⟩, _, rfl, rfl, trivial, _, rfl, ite2 (fun e => iteT (n1 (.inr (.inl (bne.mp e))))) (fun e2 => ?_)⟩
    refine ⟨_, rfl, _, rfl, big, _, rfl, _, _, rfl, rfl, _, rfl, ite2 (fun e => n1 (.inr (.inr (Int.ofNat_lt.mp (of_decide_eq_true e))))) (fun e3 => ?_)⟩
    have a1 : Txt.isascii z = true := by simpa using e1
    have a2 : Txt.isdigit z = true := by simpa using e2
    have a3 : ¬ m < z.length := fun k => e3 (decide_eq_true (Int.ofNat_lt.mpr k))
    have n2 : ¬ (Txt.isascii z = false ∨ Txt.isdigit z = false ∨ m < z.length) := by
      rintro (k | k | k)
      · rw [a1] at k; cases k
      · rw [a2] at k; cases k
      · exact a3 k
    have a4 : Asc z := asc_iff.mp a1
    obtain ⟨d1, d2⟩ := dig_all a4 a2
    have hl : z.length ≤ 640 := by omega
    have qs : ¬ (Txt.startswith z "0" = true ∧ ¬ z = "0") → Q (.int (figV z : Nat)) H := fun k => by
      have e : numOf z m = some (figV z) := by unfold numOf; rw [if_neg n2, if_neg k]
      rw [e] at q
      exact q
    refine ⟨_, rfl, ⟨_, rfl⟩, _, _, rfl, rfl, _, rfl, ite2 (fun e4 => ?_) (fun e4 => ?_)⟩
    · refine ⟨_, rfl, rfl, _, rfl, ite2 (fun e5 => ?_) (fun e5 => ?_)⟩
      · have e6 : ¬ z = "0" := fun k => by
          have e5' : (!decide (V.str z = V.str "0")) = true := e5
          rw [decide_eq_true (by rw [k])] at e5'
          cases e5'
        refine qn ?_
        unfold numOf
        rw [if_neg n2, if_pos ⟨e4, e6⟩]
      · refine ⟨_, rfl, _, _, rfl, PySem.intText_digits d1 d2 (Nat.le_trans hl (by decide)), hl, qs ?_⟩
        rintro ⟨_, k⟩
        exact e5 (by
          show (!decide (V.str z = V.str "0")) = true
          rw [decide_eq_false fun h => k (V.str.inj h)]
          rfl)
    · refine ⟨_, rfl, _, _, rfl, PySem.intText_digits d1 d2 (Nat.le_trans hl (by decide)), hl, qs ?_⟩
      rintro ⟨k, _⟩
      exact e4 k
end
/-! ### the first sign that cannot be typed -/
def isK (c : Nat) : Bool := decide (c ∈ KEY.cps.toList)
def wrongAt (l : List Nat) : Option Nat := l.findIdx? fun c => !isK c
def spWrp : Sp := fun vs H Q _ => ∃ z : Str, vs = [.str z] ∧ ∀ H', Ex H H' → Q (numV (wrongAt z.cps.toList)) H'
theorem wrong_none {l : List Nat} (h : ∀ c ∈ l, isK c = true) : wrongAt l = none := by
  unfold wrongAt
  rw [List.findIdx?_eq_none_iff]
  intro c hc
  rw [h c hc]
  rfl
theorem wrong_all {l : List Nat} (h : wrongAt l = none) : ∀ c ∈ l, isK c = true := by
  unfold wrongAt at h
  rw [List.findIdx?_eq_none_iff] at h
  intro c hc
  have := h c hc
  simpa using this
section
variable {P : Program} {w : World} {K : PySem.W.Frag} {mg : Str → Option Value} {base : Heap}
theorem ok_wrp {f : Addr} {fd : FuncData} (F : Fun K "wrong_place" "wrong_place" sWrp f fd) (T : TFig mg) : FnOk P w K mg base CX0 1 f fd ["signs"] spWrp := by
  refine F.ok scWrp (fun vs H Q E h => ?_) (fun cdv A outer s H vs Q E hr h => ?_)
  · obtain ⟨z, rfl, _⟩ := h
    rfl
  · obtain ⟨z, rfl, q⟩ := h
    refine ⟨_, (pss_cons (ps_for PassesOwn.never rfl (pi_enumS (by rfl) T.z_enumerate (pa_cons (pv 0) pa_nil)) (pg_tup rfl (pgs_cons (pg_name (i := 1) scWrp.nd rfl (Or.inl rfl)) (pgs_cons (pg_name (i := 2) scWrp.nd rfl (Or.inl rfl)) pgs_nil))) (pss_one (ps_if (pt_cmpR op_notIn_sign (pv 2) (pgS T.mg_KEYS) rfl) (pss_one (ps_ret (pv 1))) pss_nil)))
      (pss_one (ps_ret pe_non))), ?_⟩
    refine ⟨_, rfl, z, rfl, for_it walk_enumS (fun i σ H' => ∃ c d, σ = [some (.str z), c, d] ∧ Ex H H' ∧ ∀ j, j < i → ∀ c, z.cps.toList[j]? = some c → isK c = true)
      ⟨none, none, rfl, .refl _, fun j hj => absurd hj (by omega)⟩ (fun _ _ _ _ _ => trivial) ?_ ?_⟩
    · rintro i x σ H1 H2 hi ⟨c0, d0, rfl, e1, hk⟩ ⟨T', c, rfl, nT, hc, rfl⟩
      have e2 : Ex H (upd H1 T' (.tup [.int (i : Nat), .str ⟨#[c]⟩])) := e1.trans (Ex.new nT)
      have hc' : z.cps.toList[i]? = some c := by rw [Array.getElem?_toList]; exact hc
      refine ⟨T', _, rfl, SqT.of upd_same, rfl, _, _, rfl, _, _, rfl, rfl, ?_⟩
      refine ⟨_, rfl, c, KEY, rfl, rfl, _, rfl, ite2 (fun e => ?_) (fun e => ?_)⟩
      · have hw : wrongAt z.cps.toList = some i := by
          unfold wrongAt
          rw [List.findIdx?_eq_some_iff_getElem]
          have hl : i < z.cps.toList.length := by simpa using hi
          refine ⟨hl, ?_, fun j hj => ?_⟩
          · have : z.cps.toList[i] = c := by
              rw [List.getElem?_eq_getElem hl] at hc'
              exact Option.some.inj hc'
            rw [this]
            exact e
          · have := hk j hj _ (List.getElem?_eq_getElem (by omega))
            simpa using this
        rw [hw] at q
        exact ⟨_, rfl, q _ e2⟩
      · refine ⟨_, _, rfl, e2, fun j hj c' hc2 => ?_⟩
        by_cases hji : j = i
        · subst hji
          rw [hc'] at hc2
          cases hc2
          unfold isK
          simpa using e
        · exact hk j (by omega) c' hc2
    · rintro σ H1 ⟨c0, d0, rfl, e1, hk⟩
      have hw : wrongAt z.cps.toList = none := wrong_none fun c hc => by
        obtain ⟨j, hj, ej⟩ := List.getElem_of_mem hc
        exact hk j (by simpa using hj) c (by rw [List.getElem?_eq_getElem hj, ej])
      rw [hw] at q
      exact q _ e1
end
structure CWrp (P : Program) (w : World) (K : PySem.W.Frag) (mg : Str → Option Value) (base : Heap) : Prop where
  wrong_place : Cal P w K mg base "wrong_place" 1 ["signs"] spWrp
structure CNum (P : Program) (w : World) (K : PySem.W.Frag) (mg : Str → Option Value) (base : Heap) : Prop where
  number_of : Cal P w K mg base "number_of" 1 ["text", "most"] spNum
end Vf
namespace Vf
open PySem PySem.Spec PyProof.Rows L2 Evl
abbrev sPIn : Stmt := inClass (topS 18) 0
theorem scPIn : FnScope ["self"] ["self"] (defScope sPIn) := ⟨rfl, rfl, rfl, by decide +kernel, rfl, by decide +kernel, by decide +kernel⟩
abbrev sPRo : Stmt := inClass (topS 18) 3
theorem scPRo : FnScope ["self"] ["self"] (defScope sPRo) := ⟨rfl, rfl, rfl, by decide +kernel, rfl, by decide +kernel, by decide +kernel⟩
abbrev sPLi : Stmt := inClass (topS 18) 4
theorem scPLi : FnScope ["self"] ["self"] (defScope sPLi) := ⟨rfl, rfl, rfl, by decide +kernel, rfl, by decide +kernel, by decide +kernel⟩
abbrev sPJo : Stmt := inClass (topS 18) 5
theorem scPJo : FnScope ["self"] ["self"] (defScope sPJo) := ⟨rfl, rfl, rfl, by decide +kernel, rfl, by decide +kernel, by decide +kernel⟩
abbrev sPCh : Stmt := inClass (topS 18) 6
theorem scPCh : FnScope ["self"] ["self"] (defScope sPCh) := ⟨rfl, rfl, rfl, by decide +kernel, rfl, by decide +kernel, by decide +kernel⟩
abbrev sPTy : Stmt := inClass (topS 18) 7
theorem scPTy : FnScope ["self"] ["self"] (defScope sPTy) := ⟨rfl, rfl, rfl, by decide +kernel, rfl, by decide +kernel, by decide +kernel⟩
abbrev sPSi : Stmt := inClass (topS 18) 8
theorem scPSi : FnScope ["self", "number", "first"] ["self", "number"] (defScope sPSi) := ⟨rfl, rfl, rfl, by decide +kernel, rfl, by decide +kernel, by decide +kernel⟩
abbrev sPAr : Stmt := inClass (topS 18) 10
theorem scPAr : FnScope ["self", "row"] ["self", "row"] (defScope sPAr) := ⟨rfl, rfl, rfl, by decide +kernel, rfl, by decide +kernel, by decide +kernel⟩
abbrev sPCl : Stmt := inClass (topS 18) 11
theorem scPCl : FnScope ["self"] ["self"] (defScope sPCl) := ⟨rfl, rfl, rfl, by decide +kernel, rfl, by decide +kernel, by decide +kernel⟩
abbrev sPSl : Stmt := inClass (topS 18) 12
theorem scPSl : FnScope ["self", "line"] ["self", "line"] (defScope sPSl) := ⟨rfl, rfl, rfl, by decide +kernel, rfl, by decide +kernel, by decide +kernel⟩
abbrev sPAc : Stmt := inClass (topS 18) 13
theorem scPAc : FnScope ["self", "kind", "text"] ["self", "kind", "text"] (defScope sPAc) := ⟨rfl, rfl, rfl, by decide +kernel, rfl, by decide +kernel, by decide +kernel⟩
/-! ### what a pane holds -/
structure Pn where
  rows : List Str
  line : Str
  job : Option (Int × Int)
  typed : List (List V)
  log : List (Str × Str)
def Pn.new : Pn := ⟨[], ⟨#[]⟩, none, [], []⟩
def chV (c : Str × Str) : List V := [.str c.1, .str c.2]
def Pn.chg (s : Pn) (k x : Str) : Pn := { s with log := s.log ++ [(k, x)] }
def Pn.addRow (s : Pn) (r : Str) : Pn := Pn.chg { s with rows := lst 40 (s.rows ++ [r]) } "row" r
def Pn.clr (s : Pn) : Pn := Pn.chg { s with rows := [] } "clear" ⟨#[]⟩
def Pn.setLine (s : Pn) (l : Str) : Pn := if l = s.line then s else Pn.chg { s with line := l } "line" l
structure TPn (mg : Str → Option Value) : Prop where
  z_len : mg "len" = none
  z_int : mg "int" = none
  z_list : mg "list" = none
  mg_SAY : ∃ t, mg "SAY" = some (.str "say " t)
  mg_MANY : ∃ t, mg "MANY" = some (.str "many " t)
  mg_LINE_SIGNS : ∃ t, mg "LINE_SIGNS" = some (.int 30 t)
  mg_ROWS_KEPT : ∃ t, mg "ROWS_KEPT" = some (.int 40 t)
  mg_TYPED_KEPT : ∃ t, mg "TYPED_KEPT" = some (.int 100 t)
  mg_CHANGES_KEPT : ∃ t, mg "CHANGES_KEPT" = some (.int 30 t)
structure TPan (K : PySem.W.Frag) (mg : Str → Option Value) (cP : Addr) : Prop extends TPn mg where
  cl : Cls K cP
  nR : NoAttr K cP "_rows"
  nL : NoAttr K cP "_line"
  nJ : NoAttr K cP "_job"
  nT : NoAttr K cP "_typed"
  nC : NoAttr K cP "_changes"
  nU : NoAttr K cP "_latest"
theorem ex_free {H H' : Hp} {a : Addr} (e : Ex H H') (n : H' a = none) : H a = none := by
  cases h : H a with
  | none => rfl
  | some o =>
    rw [e _ _ h] at n
    cases n
/-- the fields in their order -/
def pf (r : Addr) (line : Str) (jv : V) (t : Addr) (n : Int) (u : Addr) : List (Str × V) :=
  [("_rows", .ref r), ("_line", .str line), ("_job", jv), ("_typed", .ref t), ("_changes", .int n), ("_latest", .ref u)]
theorem q12 : (("_line" : Str) == "_rows") = false := by decide +kernel
theorem q13 : (("_job" : Str) == "_rows") = false := by decide +kernel
theorem q14 : (("_typed" : Str) == "_rows") = false := by decide +kernel
theorem q15 : (("_changes" : Str) == "_rows") = false := by decide +kernel
theorem q16 : (("_latest" : Str) == "_rows") = false := by decide +kernel
theorem q23 : (("_job" : Str) == "_line") = false := by decide +kernel
theorem q24 : (("_typed" : Str) == "_line") = false := by decide +kernel
theorem q25 : (("_changes" : Str) == "_line") = false := by decide +kernel
theorem q26 : (("_latest" : Str) == "_line") = false := by decide +kernel
theorem q34 : (("_typed" : Str) == "_job") = false := by decide +kernel
theorem q35 : (("_changes" : Str) == "_job") = false := by decide +kernel
theorem q36 : (("_latest" : Str) == "_job") = false := by decide +kernel
theorem q45 : (("_changes" : Str) == "_typed") = false := by decide +kernel
theorem q46 : (("_latest" : Str) == "_typed") = false := by decide +kernel
theorem q56 : (("_latest" : Str) == "_changes") = false := by decide +kernel
theorem nq {a b : Str} (h : (a == b) = false) : ¬ b = a := fun e => by
  rw [e, beq_self_eq_true] at h
  cases h
section
variable {r t u : Addr} {line : Str} {jv : V} {n : Int}
theorem pf_rows : (pf r line jv t n u).lookup ("_rows" : Str) = some (.ref r) := lk_hd
theorem pf_line : (pf r line jv t n u).lookup ("_line" : Str) = some (.str line) := (lk_tl q12).trans lk_hd
theorem pf_job : (pf r line jv t n u).lookup ("_job" : Str) = some jv := (lk_tl q13).trans ((lk_tl q23).trans lk_hd)
theorem pf_typed : (pf r line jv t n u).lookup ("_typed" : Str) = some (.ref t) := (lk_tl q14).trans ((lk_tl q24).trans ((lk_tl q34).trans lk_hd))
theorem pf_changes : (pf r line jv t n u).lookup ("_changes" : Str) = some (.int n) := (lk_tl q15).trans ((lk_tl q25).trans ((lk_tl q35).trans ((lk_tl q45).trans lk_hd)))
theorem pf_latest : (pf r line jv t n u).lookup ("_latest" : Str) = some (.ref u) := (lk_tl q16).trans ((lk_tl q26).trans ((lk_tl q36).trans ((lk_tl q46).trans ((lk_tl q56).trans lk_hd))))
theorem pf_no {m : Str} (h1 : (m == "_rows") = false) (h2 : (m == "_line") = false) (h3 : (m == "_job") = false) (h4 : (m == "_typed") = false) (h5 : (m == "_changes") = false) (h6 : (m == "_latest") = false) : (pf r line jv t n u).lookup m = none :=
  (lk_tl h1).trans ((lk_tl h2).trans ((lk_tl h3).trans ((lk_tl h4).trans ((lk_tl h5).trans ((lk_tl h6).trans rfl)))))
theorem put_rows {a : Addr} : putF "_rows" (.ref a) (pf r line jv t n u) = pf a line jv t n u := put_hd
theorem put_line {z : Str} : putF "_line" (.str z) (pf r line jv t n u) = pf r z jv t n u := by
  unfold pf
  rw [put_tl (nq q12), put_hd]
theorem put_job {z : V} : putF "_job" z (pf r line jv t n u) = pf r line z t n u := by
  unfold pf
  rw [put_tl (nq q13), put_tl (nq q23), put_hd]
theorem put_changes {z : Int} : putF "_changes" (.int z) (pf r line jv t n u) = pf r line jv t z u := by
  unfold pf
  rw [put_tl (nq q15), put_tl (nq q25), put_tl (nq q35), put_tl (nq q45), put_hd]
theorem pf_made : putF "_latest" (.ref u) (putF "_changes" (.int n) (putF "_typed" (.ref t) (putF "_job" jv (putF "_line" (.str line) (putF "_rows" (.ref r) []))))) = pf r line jv t n u := by
  unfold pf
  rw [put_nil, put_tl (nq q12), put_nil, put_tl (nq q13), put_tl (nq q23), put_nil, put_tl (nq q14), put_tl (nq q24), put_tl (nq q34), put_nil, put_tl (nq q15), put_tl (nq q25), put_tl (nq q35), put_tl (nq q45), put_nil,
    put_tl (nq q16), put_tl (nq q26), put_tl (nq q36), put_tl (nq q46), put_tl (nq q56), put_nil]
theorem pf_short : (pf r line jv t n u).length < 1000 := by show 6 < 1000; decide
end
def JobAt (H : Hp) (jv : V) : Option (Int × Int) → Prop
  | none => jv = .non
  | some (b, n) => ∃ a, jv = .ref a ∧ H a = some (.tup [.int b, .int n])
theorem JobAt.mono {H H' : Hp} {jv : V} (e : TupEx H H') : ∀ {j : Option (Int × Int)}, JobAt H jv j → JobAt H' jv j
  | none, h => h
  | some (b, n), ⟨a, h1, h2⟩ => ⟨a, h1, e _ _ h2⟩
/-- the pane at p, its lists at r, t, u -/
structure PanAt (C : Addr) (H : Hp) (p dx r t u : Addr) (s : Pn) : Prop where
  ex : ∃ (jv : V) (ts us : List V), H p = some (.ins C dx (pf r s.line jv t s.log.length u)) ∧ H t = some (.lst ts) ∧ H u = some (.lst us) ∧ JobAt H jv s.job ∧ Tups H ts s.typed ∧ Tups H us ((lst 30 s.log).map chV)
  hr : H r = some (.lst (s.rows.map V.str))
  rt : r ≠ t
  ru : r ≠ u
  tu : t ≠ u
/-- behind the heap H0 a pane stands at p: which lists it has is left open -/
def Pan (C : Addr) (H0 H : Hp) (p : Addr) (s : Pn) : Prop :=
  Ex H0 H ∧ H0 p = none ∧ ∃ dx r t u : Addr, H0 r = none ∧ H0 t = none ∧ H0 u = none ∧ PanAt C H p dx r t u s
/-- what every pane's state keeps -/
structure POk (s : Pn) : Prop where
  line : s.line.length ≤ 30
  lasc : Asc s.line
  rows : s.rows.length ≤ 40
  rasc : ∀ z ∈ s.rows, Asc z ∧ z.length ≤ 100
  gasc : ∀ c ∈ s.log, Asc c.1 ∧ Asc c.2
  typed : s.typed.length ≤ 100
  job : ∀ b n, s.job = some (b, n) → 0 ≤ b ∧ b < n ∧ n ≤ 99
theorem Pan.ex {C : Addr} {H0 H H' : Hp} {p : Addr} {s : Pn} (h : Pan C H0 H p s) (e : Ex H H') : Pan C H0 H' p s := by
  obtain ⟨h1, h2, dx, r, t, u, h3, h4, h5, ⟨⟨jv, ts, us, a1, a2, a3, a4, a5, a6⟩, a7, a8, a9, a10⟩⟩ := h
  exact ⟨h1.trans e, h2, dx, r, t, u, h3, h4, h5, ⟨⟨jv, ts, us, e _ _ a1, e _ _ a2, e _ _ a3, a4.mono (TupEx.ex e), a5.mono (TupEx.ex e), a6.mono (TupEx.ex e)⟩, e _ _ a7, a8, a9, a10⟩⟩
section
variable {P : Program} {w : World} {K : PySem.W.Frag} {mg : Str → Option Value} {base : Heap}
/-- a method that changes the pane and tells nothing -/
def spMut (C : Addr) (A : List V → Pn → Prop) (F : List V → Pn → Pn) : Sp := fun vs H Q _ => ∃ (H0 : Hp) (p : Addr) (s : Pn) (r : List V), vs = .ref p :: r ∧ Pan C H0 H p s ∧ POk s ∧ A r s ∧ ∀ H', Pan C H0 H' p (F r s) → Q .non H'
def spAc (C : Addr) : Sp := fun vs H Q _ => ∃ (H0 : Hp) (p : Addr) (s : Pn) (k x : Str), vs = [.ref p, .str k, .str x] ∧ Pan C H0 H p s ∧ ∀ H', Pan C H0 H' p (s.chg k x) → Q .non H'
theorem ok_ac {f cP : Addr} {fd : FuncData} (F : Fun K "_add_change" "Pane._add_change" sPAc f fd) (T : TPan K mg cP) : FnOk P w K mg base CX0 1 f fd ["self", "kind", "text"] (spAc cP) := by
  refine F.ok scPAc (fun vs H Q E h => ?_) (fun cdv A outer s H vs Q E hr h => ?_)
  · obtain ⟨H0, p, s, k, x, rfl, _⟩ := h
    rfl
  · obtain ⟨H0, p, st, k, x, rfl, ⟨h1, h2, dx, r, t, u, h3, h4, h5, ⟨⟨jv, ts, us, a1, a2, a3, a4, a5, a6⟩, a7, a8, a9, a10⟩⟩, q⟩ := h
    refine ⟨_, (pss_cons (ps_fldaug (pv 0) pe_int in_add)
      (pss_cons (ps_expr (pe_bm PySem.F.plainAttrs_list PySem.F.slot_list_append PySem.F.type_list_append mt_append (pe_fld (pv 0) rfl) (pa_cons (pe_tup (pa_cons (pv 1) (pa_cons (pv 2) pa_nil))) pa_nil)))
      (pss_one (ps_delS (pe_fld (pv 0) rfl) (po_some (pe_un un_neg (pgI T.mg_CHANGES_KEPT))))))), ?_⟩
    have nup : u ≠ p := ne_of a3 a1 (by intro z; cases z)
    have ntp : t ≠ p := ne_of a2 a1 (by intro z; cases z)
    have nrp : r ≠ p := ne_of a7 a1 (by intro z; cases z)
    have lu : us.length ≤ 30 := by rw [a6.len, List.length_map]; exact lst_le
    refine ⟨_, rfl, p, cP, dx, _, _, rfl, a1, T.cl, T.nC, pf_changes, _, _, rfl, rfl, dx, _, a1, pf_short, ?_⟩
    rw [put_changes]
    have b1 : upd H p (.ins cP dx (pf r st.line jv t (st.log.length + 1) u)) u = some (.lst us) := by rw [upd_ne nup]; exact a3
    refine ⟨_, rfl, p, cP, dx, _, _, rfl, upd_same, T.cl, T.nU, pf_latest, .inl ⟨rfl, _, SqL.of b1⟩, _, rfl, _, rfl, (by show 2 ≤ sizeLine; decide), fun l nl => ?_⟩
    have nlp : p ≠ l := ne_of_none upd_same nl
    have nlu : u ≠ l := ne_of_none b1 nl
    have nl0 : H l = none := by rw [upd_ne nlp.symm] at nl; exact nl
    have nlt : t ≠ l := ne_of_none a2 nl0
    have nlr : r ≠ l := ne_of_none a7 nl0
    have b2 : upd (upd H p (.ins cP dx (pf r st.line jv t (st.log.length + 1) u))) l (.tup [.str k, .str x]) u = some (.lst us) := by rw [upd_ne nlu]; exact b1
    refine ⟨u, us, _, rfl, rfl, b2, Nat.lt_of_le_of_lt lu (by decide), ?_⟩
    refine ⟨_, rfl, p, cP, dx, _, _, rfl, (by rw [upd_ne nup.symm, upd_ne nlp, upd_same]), T.cl, T.nU, pf_latest, _, rfl, _, rfl, u, _, 30, rfl, rfl, by decide, upd_same, ?_⟩
    refine q _ ⟨ex_set (ex_set (ex_set (ex_set h1 h2) (ex_free h1 nl0)) h5) h5, h2, dx, r, t, u, h3, h4, h5, ⟨⟨jv, ts, _, ?_, ?_, upd_same, ?_, ?_, ?_⟩, ?_, a8, a9, a10⟩⟩
    · rw [upd_ne nup.symm, upd_ne nup.symm, upd_ne nlp, upd_same]
      show some (HO.ins cP dx (pf r st.line jv t ((st.log.length : Int) + 1) u)) = some (HO.ins cP dx (pf r st.line jv t (((st.log ++ [(k, x)]).length : Nat) : Int) u))
      rw [List.length_append, List.length_singleton, Int.natCast_add]
      rfl
    · rw [upd_ne a10, upd_ne a10, upd_ne nlt, upd_ne ntp]
      exact a2
    · exact a4.mono (TupEx.trans (TupEx.ins a1) (TupEx.trans (TupEx.new nl) (TupEx.trans (TupEx.lst b2) (TupEx.lst upd_same))))
    · exact a5.mono (TupEx.trans (TupEx.ins a1) (TupEx.trans (TupEx.new nl) (TupEx.trans (TupEx.lst b2) (TupEx.lst upd_same))))
    · have e : (lst 30 (st.log ++ [(k, x)])).map chV = lst 30 ((lst 30 st.log).map chV ++ [chV (k, x)]) := by
        rw [← lst_snoc, ← lst_map, List.map_append]
        rfl
      show Tups _ _ ((lst 30 (st.log ++ [(k, x)])).map chV)
      rw [e]
      refine Tups.lst (Tups.snoc ?_ (a6.mono (TupEx.trans (TupEx.ins a1) (TupEx.trans (TupEx.new nl) (TupEx.trans (TupEx.lst b2) (TupEx.lst upd_same))))))
      rw [upd_ne nlu.symm, upd_ne nlu.symm, upd_same]
      rfl
    · rw [upd_ne a9, upd_ne a9, upd_ne nlr, upd_ne nrp]
      exact a7
def spAr (C : Addr) : Sp := fun vs H Q _ => ∃ (H0 : Hp) (p : Addr) (s : Pn) (x : Str), vs = [.ref p, .str x] ∧ Pan C H0 H p s ∧ s.rows.length ≤ 40 ∧ ∀ H', Pan C H0 H' p (s.addRow x) → Q .non H'
structure CAc (P : Program) (w : World) (K : PySem.W.Frag) (mg : Str → Option Value) (base : Heap) (cP : Addr) : Prop where
  add_change : MCal P w K mg base cP "_add_change" 1 ["self", "kind", "text"] (spAc cP)
theorem ok_ar {f cP : Addr} {fd : FuncData} (F : Fun K "_add_row" "Pane._add_row" sPAr f fd) (T : TPan K mg cP) (C : CAc P w K mg base cP) : FnOk P w K mg base CX0 2 f fd ["self", "row"] (spAr cP) := by
  refine F.ok scPAr (fun vs H Q E h => ?_) (fun cdv A outer s H vs Q E hr h => ?_)
  · obtain ⟨H0, p, s, x, rfl, _⟩ := h
    rfl
  · obtain ⟨H0, p, st, x, rfl, ⟨h1, h2, dx, r, t, u, h3, h4, h5, ⟨⟨jv, ts, us, a1, a2, a3, a4, a5, a6⟩, a7, a8, a9, a10⟩⟩, hR, q⟩ := h
    refine ⟨_, (pss_cons (ps_expr (pe_bm PySem.F.plainAttrs_list PySem.F.slot_list_append PySem.F.type_list_append mt_append (pe_fld (pv 0) rfl) (pa_cons (pv 1) pa_nil)))
      (pss_cons (ps_delS (pe_fld (pv 0) rfl) (po_some (pe_un un_neg (pgI T.mg_ROWS_KEPT))))
      (pss_one (ps_expr (pmeth (pv 0) T.cl C.add_change (hr.mono (by first | decide | omega)) (pa_cons pe_str (pa_cons (pv 1) pa_nil))))))), ?_⟩
    have nrp : r ≠ p := ne_of a7 a1 (by intro z; cases z)
    refine ⟨_, rfl, p, cP, dx, _, _, rfl, a1, T.cl, T.nR, pf_rows, .inl ⟨rfl, _, SqL.of a7⟩, _, rfl, r, _, _, rfl, rfl, a7, Nat.lt_of_le_of_lt (by rw [List.length_map]; exact hR) (show 40 < sizeLine by decide), ?_⟩
    have c1 : ∀ o, upd H r o p = some (.ins cP dx (pf r st.line jv t st.log.length u)) := fun o => by rw [upd_ne nrp.symm]; exact a1
    have c2 : ∀ o o', upd (upd H r o) r o' p = some (.ins cP dx (pf r st.line jv t st.log.length u)) := fun o o' => by rw [upd_ne nrp.symm]; exact c1 o
    refine ⟨_, rfl, p, cP, dx, _, _, rfl, c1 _, T.cl, T.nR, pf_rows, _, rfl, _, rfl, r, _, 40, rfl, rfl, by decide, upd_same, ?_⟩
    refine ⟨_, rfl, p, dx, _, rfl, c2 _ _, pf_no (by decide +kernel) (by decide +kernel) (by decide +kernel) (by decide +kernel) (by decide +kernel) (by decide +kernel), _, rfl, H0, p, { st with rows := lst 40 (st.rows ++ [x]) }, _, _, rfl, ?_, q⟩
    refine ⟨ex_set (ex_set h1 h3) h3, h2, dx, r, t, u, h3, h4, h5, ⟨⟨jv, ts, us, c2 _ _, ?_, ?_, ?_, ?_, ?_⟩, ?_, a8, a9, a10⟩⟩
    · rw [upd_ne a8.symm, upd_ne a8.symm]
      exact a2
    · rw [upd_ne a9.symm, upd_ne a9.symm]
      exact a3
    · exact a4.mono (TupEx.trans (TupEx.lst a7) (TupEx.lst upd_same))
    · exact a5.mono (TupEx.trans (TupEx.lst a7) (TupEx.lst upd_same))
    · exact a6.mono (TupEx.trans (TupEx.lst a7) (TupEx.lst upd_same))
    · rw [upd_same]
      show some (HO.lst (lst 40 (st.rows.map V.str ++ [V.str x]))) = some (HO.lst ((lst 40 (st.rows ++ [x])).map V.str))
      rw [← lst_map, List.map_append]
      rfl
def spCl (C : Addr) : Sp := fun vs H Q _ => ∃ (H0 : Hp) (p : Addr) (s : Pn), vs = [.ref p] ∧ Pan C H0 H p s ∧ ∀ H', Pan C H0 H' p s.clr → Q .non H'
theorem ok_cl {f cP : Addr} {fd : FuncData} (F : Fun K "_clear_rows" "Pane._clear_rows" sPCl f fd) (T : TPan K mg cP) (C : CAc P w K mg base cP) : FnOk P w K mg base CX0 2 f fd ["self"] (spCl cP) := by
  refine F.ok scPCl (fun vs H Q E h => ?_) (fun cdv A outer s H vs Q E hr h => ?_)
  · obtain ⟨H0, p, s, rfl, _⟩ := h
    rfl
  · obtain ⟨H0, p, st, rfl, ⟨h1, h2, dx, r, t, u, h3, h4, h5, ⟨⟨jv, ts, us, a1, a2, a3, a4, a5, a6⟩, a7, a8, a9, a10⟩⟩, q⟩ := h
    refine ⟨_, (pss_cons (ps_fld (pv 0) (pe_lst pa_nil) rfl)
      (pss_one (ps_expr (pmeth (pv 0) T.cl C.add_change (hr.mono (by first | decide | omega)) (pa_cons pe_str (pa_cons pe_str pa_nil)))))), ?_⟩
    have ntp : t ≠ p := ne_of a2 a1 (by intro z; cases z)
    have nup : u ≠ p := ne_of a3 a1 (by intro z; cases z)
    refine ⟨Nat.zero_le _, fun l nl => ?_⟩
    have npl : p ≠ l := ne_of_none a1 nl
    refine ⟨_, rfl, p, cP, dx, _, rfl, (by rw [upd_ne npl]; exact a1), T.cl, T.nR, pf_short, ?_⟩
    rw [put_rows]
    refine ⟨_, rfl, p, dx, _, rfl, upd_same, pf_no (by decide +kernel) (by decide +kernel) (by decide +kernel) (by decide +kernel) (by decide +kernel) (by decide +kernel), H0, p, { st with rows := [] }, _, _, rfl, ?_, q⟩
    refine ⟨ex_set (ex_set h1 (ex_free h1 nl)) h2, h2, dx, l, t, u, ex_free h1 nl, h4, h5, ⟨⟨jv, ts, us, upd_same, ?_, ?_, ?_, ?_, ?_⟩, ?_, (ne_of_none a2 nl).symm, (ne_of_none a3 nl).symm, a10⟩⟩
    · rw [upd_ne ntp, upd_ne (ne_of_none a2 nl)]
      exact a2
    · rw [upd_ne nup, upd_ne (ne_of_none a3 nl)]
      exact a3
    · exact a4.mono (TupEx.trans (TupEx.new nl) (TupEx.ins (by rw [upd_ne npl]; exact a1)))
    · exact a5.mono (TupEx.trans (TupEx.new nl) (TupEx.ins (by rw [upd_ne npl]; exact a1)))
    · exact a6.mono (TupEx.trans (TupEx.new nl) (TupEx.ins (by rw [upd_ne npl]; exact a1)))
    · rw [upd_ne npl.symm, upd_same]
      rfl
theorem vstr {x y : Str} : (decide (V.str x = V.str y) = true) ↔ x = y := by
  rw [decide_eq_true_iff]
  exact ⟨fun h => V.str.inj h, fun h => by rw [h]⟩
def spSl (C : Addr) : Sp := fun vs H Q _ => ∃ (H0 : Hp) (p : Addr) (s : Pn) (x : Str), vs = [.ref p, .str x] ∧ Pan C H0 H p s ∧ ∀ H', Pan C H0 H' p (s.setLine x) → Q .non H'
theorem ok_sl {f cP : Addr} {fd : FuncData} (F : Fun K "_set_line" "Pane._set_line" sPSl f fd) (T : TPan K mg cP) (C : CAc P w K mg base cP) : FnOk P w K mg base CX0 2 f fd ["self", "line"] (spSl cP) := by
  refine F.ok scPSl (fun vs H Q E h => ?_) (fun cdv A outer s H vs Q E hr h => ?_)
  · obtain ⟨H0, p, s, x, rfl, _⟩ := h
    rfl
  · obtain ⟨H0, p, st, x, rfl, ⟨h1, h2, dx, r, t, u, h3, h4, h5, ⟨⟨jv, ts, us, a1, a2, a3, a4, a5, a6⟩, a7, a8, a9, a10⟩⟩, q⟩ := h
    refine ⟨_, (pss_cons (ps_if (pt_cmpR op_eq (pv 1) (pe_fld (pv 0) rfl) (nomark _)) (pss_one ps_retN) pss_nil)
      (pss_cons (ps_fld (pv 0) (pv 1) rfl)
      (pss_one (ps_expr (pmeth (pv 0) T.cl C.add_change (hr.mono (by first | decide | omega)) (pa_cons pe_str (pa_cons (pv 1) pa_nil))))))), ?_⟩
    have nrp : r ≠ p := ne_of a7 a1 (by intro z; cases z)
    have ntp : t ≠ p := ne_of a2 a1 (by intro z; cases z)
    have nup : u ≠ p := ne_of a3 a1 (by intro z; cases z)
    refine ⟨_, rfl, _, rfl, p, cP, dx, _, _, rfl, a1, T.cl, T.nL, pf_line, rfl, _, rfl, ite2 (fun e => ?_) (fun e => ?_)⟩
    · refine q _ ?_
      rw [show st.setLine x = st from if_pos (vstr.mp e)]
      exact ⟨h1, h2, dx, r, t, u, h3, h4, h5, ⟨⟨jv, ts, us, a1, a2, a3, a4, a5, a6⟩, a7, a8, a9, a10⟩⟩
    · refine ⟨_, rfl, _, rfl, p, cP, dx, _, rfl, a1, T.cl, T.nL, pf_short, ?_⟩
      rw [put_line]
      refine ⟨_, rfl, p, dx, _, rfl, upd_same, pf_no (by decide +kernel) (by decide +kernel) (by decide +kernel) (by decide +kernel) (by decide +kernel) (by decide +kernel), _, rfl, H0, p, { st with line := x }, _, _, rfl, ?_, fun H' z => q H' (by rw [show st.setLine x = Pn.chg { st with line := x } "line" x from if_neg fun e2 => e (vstr.mpr e2)]; exact z)⟩
      refine ⟨ex_set h1 h2, h2, dx, r, t, u, h3, h4, h5, ⟨⟨jv, ts, us, upd_same, ?_, ?_, ?_, ?_, ?_⟩, ?_, a8, a9, a10⟩⟩
      · rw [upd_ne ntp]
        exact a2
      · rw [upd_ne nup]
        exact a3
      · exact a4.mono (TupEx.ins a1)
      · exact a5.mono (TupEx.ins a1)
      · exact a6.mono (TupEx.ins a1)
      · rw [upd_ne nrp]
        exact a7
/-! ### what is told -/
def spRo (C : Addr) : Sp := fun vs H Q _ => ∃ (H0 : Hp) (p : Addr) (s : Pn), vs = [.ref p] ∧ Pan C H0 H p s ∧ ∀ l, H l = none → Q (.ref l) (upd H l (.lst (s.rows.map V.str)))
theorem ok_ro {f cP : Addr} {fd : FuncData} (F : Fun K "rows" "Pane.rows" sPRo f fd) (T : TPan K mg cP) : FnOk P w K mg base CX0 1 f fd ["self"] (spRo cP) := by
  refine F.ok scPRo (fun vs H Q E h => ?_) (fun cdv A outer s H vs Q E hr h => ?_)
  · obtain ⟨H0, p, s, rfl, _⟩ := h
    rfl
  · obtain ⟨H0, p, st, rfl, ⟨h1, h2, dx, r, t, u, h3, h4, h5, ⟨⟨jv, ts, us, a1, a2, a3, a4, a5, a6⟩, a7, a8, a9, a10⟩⟩, q⟩ := h
    refine ⟨_, (pss_one (ps_ret (pe_callTy call_list_of (by rfl) T.z_list boot_list (pa_cons (pe_fld (pv 0) rfl) pa_nil)))), ?_⟩
    exact ⟨_, rfl, p, cP, dx, _, _, rfl, a1, T.cl, T.nR, pf_rows, r, _, rfl, .inl (SqL.of a7), q⟩
def spLi (C : Addr) : Sp := fun vs H Q _ => ∃ (H0 : Hp) (p : Addr) (s : Pn), vs = [.ref p] ∧ Pan C H0 H p s ∧ Q (.str s.line) H
theorem ok_li {f cP : Addr} {fd : FuncData} (F : Fun K "line" "Pane.line" sPLi f fd) (T : TPan K mg cP) : FnOk P w K mg base CX0 1 f fd ["self"] (spLi cP) := by
  refine F.ok scPLi (fun vs H Q E h => ?_) (fun cdv A outer s H vs Q E hr h => ?_)
  · obtain ⟨H0, p, s, rfl, _⟩ := h
    rfl
  · obtain ⟨H0, p, st, rfl, ⟨h1, h2, dx, r, t, u, h3, h4, h5, ⟨⟨jv, ts, us, a1, a2, a3, a4, a5, a6⟩, a7, a8, a9, a10⟩⟩, q⟩ := h
    refine ⟨_, (pss_one (ps_ret (pe_fld (pv 0) rfl))), ?_⟩
    exact ⟨_, rfl, p, cP, dx, _, _, rfl, a1, T.cl, T.nL, pf_line, q⟩
def spJo (C : Addr) : Sp := fun vs H Q _ => ∃ (H0 : Hp) (p : Addr) (s : Pn), vs = [.ref p] ∧ Pan C H0 H p s ∧ ∀ jv, JobAt H jv s.job → Q jv H
theorem ok_jo {f cP : Addr} {fd : FuncData} (F : Fun K "job" "Pane.job" sPJo f fd) (T : TPan K mg cP) : FnOk P w K mg base CX0 1 f fd ["self"] (spJo cP) := by
  refine F.ok scPJo (fun vs H Q E h => ?_) (fun cdv A outer s H vs Q E hr h => ?_)
  · obtain ⟨H0, p, s, rfl, _⟩ := h
    rfl
  · obtain ⟨H0, p, st, rfl, ⟨h1, h2, dx, r, t, u, h3, h4, h5, ⟨⟨jv, ts, us, a1, a2, a3, a4, a5, a6⟩, a7, a8, a9, a10⟩⟩, q⟩ := h
    refine ⟨_, (pss_one (ps_ret (pe_fld (pv 0) rfl))), ?_⟩
    exact ⟨_, rfl, p, cP, dx, _, _, rfl, a1, T.cl, T.nJ, pf_job, q _ a4⟩
def spCh (C : Addr) : Sp := fun vs H Q _ => ∃ (H0 : Hp) (p : Addr) (s : Pn), vs = [.ref p] ∧ Pan C H0 H p s ∧ Q (.int s.log.length) H
theorem ok_ch {f cP : Addr} {fd : FuncData} (F : Fun K "changes" "Pane.changes" sPCh f fd) (T : TPan K mg cP) : FnOk P w K mg base CX0 1 f fd ["self"] (spCh cP) := by
  refine F.ok scPCh (fun vs H Q E h => ?_) (fun cdv A outer s H vs Q E hr h => ?_)
  · obtain ⟨H0, p, s, rfl, _⟩ := h
    rfl
  · obtain ⟨H0, p, st, rfl, ⟨h1, h2, dx, r, t, u, h3, h4, h5, ⟨⟨jv, ts, us, a1, a2, a3, a4, a5, a6⟩, a7, a8, a9, a10⟩⟩, q⟩ := h
    refine ⟨_, (pss_one (ps_ret (pe_fld (pv 0) rfl))), ?_⟩
    exact ⟨_, rfl, p, cP, dx, _, _, rfl, a1, T.cl, T.nC, pf_changes, q⟩
def spTy (C : Addr) : Sp := fun vs H Q _ => ∃ (H0 : Hp) (p : Addr) (s : Pn), vs = [.ref p] ∧ Pan C H0 H p s ∧ ∀ l ts, H l = none → Tups H ts s.typed → Q (.ref l) (upd H l (.lst ts))
theorem ok_ty {f cP : Addr} {fd : FuncData} (F : Fun K "typed" "Pane.typed" sPTy f fd) (T : TPan K mg cP) : FnOk P w K mg base CX0 1 f fd ["self"] (spTy cP) := by
  refine F.ok scPTy (fun vs H Q E h => ?_) (fun cdv A outer s H vs Q E hr h => ?_)
  · obtain ⟨H0, p, s, rfl, _⟩ := h
    rfl
  · obtain ⟨H0, p, st, rfl, ⟨h1, h2, dx, r, t, u, h3, h4, h5, ⟨⟨jv, ts, us, a1, a2, a3, a4, a5, a6⟩, a7, a8, a9, a10⟩⟩, q⟩ := h
    refine ⟨_, (pss_one (ps_ret (pe_callTy call_list_of (by rfl) T.z_list boot_list (pa_cons (pe_fld (pv 0) rfl) pa_nil)))), ?_⟩
    exact ⟨_, rfl, p, cP, dx, _, _, rfl, a1, T.cl, T.nT, pf_typed, t, _, rfl, .inl (SqL.of a2), fun l hl => q l ts hl a5⟩
theorem cutV_last {xs : List V} {c : Nat} (hc : 0 < c) : cutV xs (some (-(c : Int))) none = xs.drop (xs.length - c) := by
  unfold cutV
  have e : HT.sIx xs.length 0 (some (-(c : Int))) = xs.length - c := by
    show (if (-(c : Int)) < 0 then ((-(c : Int)) + (xs.length : Int)).toNat else min (-(c : Int)).toNat xs.length) = _
    rw [if_pos (by omega)]
    omega
  rw [e, HT.sIx_none, List.take_of_length_le (by rw [List.length_drop]; omega)]
theorem cutV_rest {xs : List V} {w : Nat} : cutV xs (some (w : Int)) none = xs.drop w := by
  unfold cutV
  rw [HT.sIx_nat, HT.sIx_none]
  by_cases hh : w ≤ xs.length
  · rw [Nat.min_eq_left hh, List.take_of_length_le (by rw [List.length_drop]; omega)]
  · rw [Nat.min_eq_right (by omega), Nat.sub_self, List.take_zero, List.drop_eq_nil_of_le (by omega)]
def spSi (C : Addr) : Sp := fun vs H Q _ => ∃ (H0 : Hp) (p : Addr) (s : Pn) (n : Int), vs = [.ref p, .int n] ∧ Pan C H0 H p s ∧
  ((n < s.log.length - min 30 s.log.length ∨ (s.log.length : Int) < n) → Q .non H) ∧
  (∀ (m : Nat) (l : Addr) (us : List V), n = m → s.log.length ≤ m + 30 → m ≤ s.log.length → H l = none → Tups H us ((s.log.drop m).map chV) → Q (.ref l) (upd H l (.lst us)))
theorem ok_si {f cP : Addr} {fd : FuncData} (F : Fun K "since" "Pane.since" sPSi f fd) (T : TPan K mg cP) (C : CBnd P w K mg base) : FnOk P w K mg base CX0 3 f fd ["self", "number"] (spSi cP) := by
  refine F.ok scPSi (fun vs H Q E h => ?_) (fun cdv A outer s H vs Q E hr h => ?_)
  · obtain ⟨H0, p, s, n, rfl, _⟩ := h
    rfl
  · obtain ⟨H0, p, st, n, rfl, ⟨h1, h2, dx, r, t, u, h3, h4, h5, ⟨⟨jv, ts, us, a1, a2, a3, a4, a5, a6⟩, a7, a8, a9, a10⟩⟩, q1, q2⟩ := h
    refine ⟨_, (pss_cons (ps_set (i := 2) scPSi.nd rfl (Or.inl rfl) (pe_op op_sub (pe_fld (pv 0) rfl) (pe_callB call_len_seq (by rfl) T.z_len PySem.boot_len (pa_cons (pe_fld (pv 0) rfl) pa_nil))))
      (pss_cons (ps_if (pt_not (pt_val (pcall C.is_within (hr.mono (by first | decide | omega)) (pa_cons (pv 1) (pa_cons (pv 2) (pa_cons (pe_fld (pv 0) rfl) pa_nil)))))) (pss_one (ps_ret pe_non)) pss_nil)
      (pss_one (ps_ret (pe_slice sl_list (pe_fld (pv 0) rfl) (po_some (pe_op op_sub (pv 1) (pv 2))) po_none))))), ?_⟩
    have lu : us.length = min 30 st.log.length := by rw [a6.len, List.length_map, lst_len]
    refine ⟨_, rfl, p, cP, dx, _, _, rfl, a1, T.cl, T.nC, pf_changes, _, rfl, p, cP, dx, _, _, rfl, a1, T.cl, T.nU, pf_latest, u, us, rfl, .inl (SqL.of a3), _, _, rfl, rfl, ?_⟩
    refine ⟨_, rfl, _, rfl, _, rfl, p, cP, dx, _, _, rfl, a1, T.cl, T.nC, pf_changes, _, _, _, rfl, .inl ⟨_, rfl, _, rfl, ite2 (fun e => ?_) (fun e => ?_)⟩⟩
    · have e := wit_out e
      rw [lu] at e
      exact q1 (by omega)
    · have e := wit_in e
      rw [lu] at e
      · obtain ⟨m, rfl⟩ := Int.eq_ofNat_of_zero_le (show 0 ≤ n by omega)
        refine ⟨_, rfl, p, cP, dx, _, _, rfl, a1, T.cl, T.nU, pf_latest, _, rfl, _, rfl, _, _, rfl, rfl, _, rfl, u, us, rfl, SqL.of a3, fun l hl => ?_⟩
        refine q2 m l _ rfl (by omega) (by omega) hl ?_
        have e4 : ((m : Int) - ((st.log.length : Int) - (us.length : Int))) = ((m - (st.log.length - us.length) : Nat) : Int) := by omega
        have e3 : st.log.drop m = (lst 30 st.log).drop (m - (st.log.length - us.length)) := by
          unfold lst
          rw [List.drop_drop]
          congr 1
          omega
        rw [e4, cutV_rest, e3, List.map_drop]
        exact Tups.drop _ a6
theorem putF_len {f : Str} {v : V} : ∀ {fs : List (Str × V)} {n : Nat}, fs.length ≤ n → (putF f v fs).length ≤ n + 1
  | [], n, h => Nat.succ_le_succ (Nat.zero_le _)
  | (g, y) :: r, 0, h => by cases h
  | (g, y) :: r, n + 1, h => by
    show (if g = f then (g, v) :: r else (g, y) :: putF f v r).length ≤ n + 1 + 1
    by_cases e : g = f
    · rw [if_pos e]
      exact Nat.le_succ_of_le h
    · rw [if_neg e]
      exact Nat.succ_le_succ (putF_len (Nat.le_of_succ_le_succ h))
def spIn (C : Addr) : Sp := fun vs H Q _ => ∃ (H0 : Hp) (p dx : Addr), vs = [.ref p] ∧ Ex H0 H ∧ H0 p = none ∧ H p = some (.ins C dx []) ∧ ∀ H', Pan C H0 H' p Pn.new → Q .non H'
theorem ok_in {f cP : Addr} {fd : FuncData} (F : Fun K "__init__" "Pane.__init__" sPIn f fd) (T : TPan K mg cP) : FnOk P w K mg base CX0 1 f fd ["self"] (spIn cP) := by
  refine F.ok scPIn (fun vs H Q E h => ?_) (fun cdv A outer s H vs Q E hr h => ?_)
  · obtain ⟨H0, p, dx, rfl, _⟩ := h
    rfl
  · obtain ⟨H0, p, dx, rfl, h1, h2, h3, q⟩ := h
    refine ⟨_, (pss_cons (ps_fld (pv 0) (pe_lst pa_nil) rfl)
      (pss_cons (ps_fld (pv 0) pe_str rfl)
      (pss_cons (ps_fld (pv 0) pe_non rfl)
      (pss_cons (ps_fld (pv 0) (pe_lst pa_nil) rfl)
      (pss_cons (ps_fld (pv 0) pe_int rfl)
      (pss_one (ps_fld (pv 0) (pe_lst pa_nil) rfl))))))), ?_⟩
    refine ⟨Nat.zero_le _, fun r nr => ?_⟩
    have npr : p ≠ r := ne_of_none h3 nr
    refine ⟨_, rfl, p, cP, dx, _, rfl, (by rw [upd_ne npr]; exact h3), T.cl, T.nR, (by show 0 < 1000; decide), ?_⟩
    refine ⟨_, rfl, p, cP, dx, _, rfl, upd_same, T.cl, T.nL, Nat.lt_of_le_of_lt (putF_len (Nat.zero_le 0)) (by decide), ?_⟩
    refine ⟨_, rfl, p, cP, dx, _, rfl, upd_same, T.cl, T.nJ, Nat.lt_of_le_of_lt (putF_len (putF_len (Nat.zero_le 0))) (by decide), ?_⟩
    refine ⟨Nat.zero_le _, fun t nt => ?_⟩
    have npt : p ≠ t := ne_of_none upd_same nt
    have nrt : r ≠ t := ne_of_none (o := .lst []) (by rw [upd_ne npr.symm, upd_ne npr.symm, upd_ne npr.symm, upd_same]) nt
    have nt0 : H0 t = none := by
      refine ex_free h1 ?_
      rw [upd_ne npt.symm, upd_ne npt.symm, upd_ne npt.symm, upd_ne nrt.symm] at nt
      exact nt
    refine ⟨_, rfl, p, cP, dx, _, rfl, (by rw [upd_ne npt, upd_same]), T.cl, T.nT, Nat.lt_of_le_of_lt (putF_len (putF_len (putF_len (Nat.zero_le 0)))) (by decide), ?_⟩
    refine ⟨_, rfl, p, cP, dx, _, rfl, upd_same, T.cl, T.nC, Nat.lt_of_le_of_lt (putF_len (putF_len (putF_len (putF_len (Nat.zero_le 0))))) (by decide), ?_⟩
    refine ⟨Nat.zero_le _, fun u nu => ?_⟩
    have npu : p ≠ u := ne_of_none upd_same nu
    have ntu : t ≠ u := ne_of_none (o := .lst []) (by rw [upd_ne npt.symm, upd_ne npt.symm, upd_same]) nu
    have nru : r ≠ u := ne_of_none (o := .lst []) (by rw [upd_ne npr.symm, upd_ne npr.symm, upd_ne nrt, upd_ne npr.symm, upd_ne npr.symm, upd_ne npr.symm, upd_same]) nu
    have nu0 : H0 u = none := by
      refine ex_free h1 ?_
      rw [upd_ne npu.symm, upd_ne npu.symm, upd_ne ntu.symm, upd_ne npu.symm, upd_ne npu.symm, upd_ne npu.symm, upd_ne nru.symm] at nu
      exact nu
    have nr0 : H0 r = none := ex_free h1 nr
    refine ⟨_, rfl, p, cP, dx, _, rfl, (by rw [upd_ne npu, upd_same]), T.cl, T.nU, Nat.lt_of_le_of_lt (putF_len (putF_len (putF_len (putF_len (putF_len (Nat.zero_le 0)))))) (by decide), ?_⟩
    rw [pf_made]
    refine q _ ⟨ex_set (ex_set (ex_set (ex_set (ex_set (ex_set (ex_set (ex_set (ex_set h1 nr0) h2) h2) h2) nt0) h2) h2) nu0) h2, h2, dx, r, t, u, nr0, nt0, nu0, ⟨⟨.non, [], [], upd_same, ?_, ?_, rfl, trivial, trivial⟩, ?_, nrt, nru, ntu⟩⟩
    · rw [upd_ne npt.symm, upd_ne ntu, upd_ne npt.symm, upd_ne npt.symm, upd_same]
    · rw [upd_ne npu.symm, upd_same]
    · rw [upd_ne npr.symm, upd_ne nru, upd_ne npr.symm, upd_ne npr.symm, upd_ne nrt, upd_ne npr.symm, upd_ne npr.symm, upd_ne npr.symm, upd_same]
      rfl
end
end Vf
namespace Vf
open PySem PySem.Spec PyProof.Rows L2 Evl
abbrev sJsz : Stmt := topS 17
theorem scJsz : FnScope ["line"] ["line"] (defScope sJsz) := ⟨rfl, rfl, rfl, by decide +kernel, rfl, by decide +kernel, by decide +kernel⟩
abbrev sPDo : Stmt := inClass (topS 18) 9
theorem scPDo : FnScope ["self", "line", "size"] ["self"] (defScope sPDo) := ⟨rfl, rfl, rfl, by decide +kernel, rfl, by decide +kernel, by decide +kernel⟩
abbrev sPPr : Stmt := inClass (topS 18) 1
theorem scPPr : FnScope ["self", "look", "session", "sign"] ["self", "look", "session", "sign"] (defScope sPPr) := ⟨rfl, rfl, rfl, by decide +kernel, rfl, by decide +kernel, by decide +kernel⟩
abbrev sPBe : Stmt := inClass (topS 18) 2
theorem scPBe : FnScope ["self", "before", "size", "number"] ["self"] (defScope sPBe) := ⟨rfl, rfl, rfl, by decide +kernel, rfl, by decide +kernel, by decide +kernel⟩
/-! ### the job that a line begins -/
abbrev rp (x y : Str) : Str := Txt.removeprefix x y
theorem rp_drop (x y : Str) : ∃ k, (rp x y).cps.toList = x.cps.toList.drop k := by
  unfold rp
  rw [StrLaws.removeprefix_eq]
  by_cases h : (decide (0 + y.length ≤ x.length) && Builtin.Str.subAt x y 0) = true
  · rw [if_pos h]
    refine ⟨y.length, ?_⟩
    show ((x.cps.toList.drop y.length).take (x.length - y.length)).toArray.toList = _
    rw [List.take_of_length_le (by rw [List.length_drop, str_len]; exact Nat.le_refl _)]
  · rw [if_neg h]
    exact ⟨0, by rw [List.drop_zero]⟩
theorem rp_asc {x y : Str} (h : Asc x) : Asc (rp x y) := by
  obtain ⟨k, e⟩ := rp_drop x y
  intro c hc
  rw [e] at hc
  exact h c (List.mem_of_mem_drop hc)
theorem rp_len {x y : Str} : (rp x y).length ≤ x.length := by
  obtain ⟨k, e⟩ := rp_drop x y
  rw [← str_len, e, List.length_drop, str_len]
  exact Nat.sub_le _ _
def jobSize (z : Str) : Int :=
  if rp z "many " = z ∨ Txt.isdigit (rp z "many ") = false then 0
  else if Txt.startswith (rp z "many ") "0" = true ∨ 2 < (rp z "many ").length then 0
  else (figV (rp z "many ") : Nat)
open NumText in
theorem fig_lt {z : Str} (h : AllDigits z.cps.toList) (hl : z.length ≤ 2) : figV z ≤ 99 := by
  unfold figV digitsVal
  rw [← str_len] at hl
  match e : z.cps.toList, hl with
  | [], _ => exact Nat.zero_le _
  | [a], _ =>
    have h1 := h a (by rw [e]; exact List.mem_singleton.mpr rfl)
    show 0 * 10 + (a - 48) ≤ 99
    omega
  | [a, b], _ =>
    have h1 := h a (by rw [e]; simp)
    have h2 := h b (by rw [e]; simp)
    show (0 * 10 + (a - 48)) * 10 + (b - 48) ≤ 99
    omega
  | a :: b :: c :: r, hl => simp at hl
theorem job_range {z : Str} (h : Asc z) : 0 ≤ jobSize z ∧ jobSize z ≤ 99 := by
  unfold jobSize
  by_cases h1 : rp z "many " = z ∨ Txt.isdigit (rp z "many ") = false
  · rw [if_pos h1]
    decide
  · rw [if_neg h1]
    by_cases h2 : Txt.startswith (rp z "many ") "0" = true ∨ 2 < (rp z "many ").length
    · rw [if_pos h2]
      decide
    · rw [if_neg h2]
      have h3 := fig_lt (z := rp z "many ") (dig_all (rp_asc h) (by
        cases e : Txt.isdigit (rp z "many ") with
        | true => rfl
        | false => exact absurd (.inr e) h1)).1 (by
        have : ¬ 2 < (rp z "many ").length := fun q => h2 (.inr q)
        omega)
      omega
section
variable {P : Program} {w : World} {K : PySem.W.Frag} {mg : Str → Option Value} {base : Heap}
def spJsz : Sp := fun vs H Q _ => ∃ z : Str, vs = [.str z] ∧ Asc z ∧ z.length ≤ 100 ∧ Q (.int (jobSize z)) H
theorem rp_not {x y : Str} (h : Txt.startswith x y = false) : rp x y = x := by
  unfold rp
  rw [StrLaws.removeprefix_eq]
  have h2 : (decide (0 + y.length ≤ x.length) && Builtin.Str.subAt x y 0) = false := h
  rw [if_neg (by rw [h2]; simp)]
theorem rp_ne {x y : Str} (h : Txt.startswith x y = true) (hy : 0 < y.length) : ¬ rp x y = x := by
  unfold rp
  rw [StrLaws.removeprefix_eq]
  have h2 : (decide (0 + y.length ≤ x.length) && Builtin.Str.subAt x y 0) = true := h
  rw [if_pos h2]
  intro e
  have e2 := congrArg (fun z : Str => z.cps.toList.length) e
  have e3 : ((x.cps.toList.drop y.length).take (x.length - y.length)).toArray.toList.length = x.cps.toList.length := e2
  have h3 := of_decide_eq_true (Bool.and_eq_true_iff.mp h2).1
  rw [List.length_take, List.length_drop, str_len] at e3
  omega
theorem job_num {z : Str} (ha : Asc z) : jobSize z = if Txt.startswith z "many " = true then (((numOf (rp z "many ") 2).getD 0 : Nat) : Int) else 0 := by
  cases e : Txt.startswith z "many " with
  | false =>
    rw [if_neg (by simp)]
    exact if_pos (.inl (rp_not e))
  | true =>
    rw [if_pos rfl]
    have n1 := rp_ne e (by decide)
    have a1 := asc_iff.mpr (rp_asc (y := "many ") ha)
    unfold jobSize numOf
    rw [a1]
    cases e2 : Txt.isdigit (rp z "many ") with
    | false => rw [if_pos (.inr rfl), if_pos (.inr (.inl rfl))]; rfl
    | true =>
      rw [if_neg (by rintro (k | k); exact n1 k; cases k)]
      by_cases h2 : 2 < (rp z "many ").length
      · rw [if_pos (.inr h2), if_pos (.inr (.inr h2))]; rfl
      · rw [if_neg (c := (true = false ∨ true = false ∨ _)) (by rintro (k | k | k); cases k; cases k; exact h2 k)]
        cases e3 : Txt.startswith (rp z "many ") "0" with
        | false => rw [if_neg (by rintro (k | k); cases k; exact h2 k), if_neg (by rintro ⟨k, _⟩; cases k)]; rfl
        | true =>
          rw [if_pos (.inl rfl)]
          by_cases h4 : rp z "many " = "0"
          · rw [if_neg (by rintro ⟨_, k⟩; exact k h4), h4]; rfl
          · rw [if_pos ⟨rfl, h4⟩]; rfl
theorem ok_jsz {f : Addr} {fd : FuncData} (F : Fun K "job_size" "job_size" sJsz f fd) (T : TPn mg) (C : CNum P w K mg base) : FnOk P w K mg base CX0 2 f fd ["line"] spJsz := by
  refine F.ok scJsz (fun vs H Q E h => ?_) (fun cdv A outer s H vs Q E hr h => ?_)
  · obtain ⟨z, rfl, _⟩ := h
    rfl
  · obtain ⟨z, rfl, ha, hz, q⟩ := h
    refine ⟨_, (pss_cons (ps_if (pt_not (pt_val (pe_m1 PySem.F.slot_str_startswith PySem.F.type_str_startswith mt_startswith (pv 0) (pgS T.mg_MANY)))) (pss_one (ps_ret pe_int)) pss_nil)
      (pss_one (ps_ret (pe_orT (pcall C.number_of (hr.mono (by first | decide | omega)) (pa_cons (pe_m1 PySem.F.slot_str_removeprefix PySem.F.type_str_removeprefix mt_removeprefix (pv 0) (pgS T.mg_MANY)) (pa_cons pe_int pa_nil))) (pe_one pe_int))))), ?_⟩
    rw [job_num ha] at q
    have lf : (rp z "many ").length ≤ 100 := Nat.le_trans rp_len hz
    refine ⟨_, rfl, ⟨_, rfl⟩, _, _, rfl, rfl, _, rfl, ite2 (fun e => ?_) (fun e => ?_)⟩
    · have e1 : Txt.startswith z "many " = false := bne.mp e
      rw [e1] at q
      exact q
    · have e1 : Txt.startswith z "many " = true := by simpa using e
      rw [if_pos e1] at q
      refine ⟨_, rfl, ⟨_, rfl⟩, z, _, rfl, rfl, Nat.le_trans hz (by decide), _, 2, rfl, by decide, Nat.le_trans lf (by decide), ?_⟩
      cases en : numOf (rp z "many ") 2 with
      | none =>
        rw [en] at q
        exact ⟨false, rfl, q⟩
      | some n =>
        rw [en] at q
        refine ⟨_, rfl, ?_⟩
        by_cases h0 : n = 0
        · subst h0
          exact iteF q
        · refine (if_pos (show (((n : Nat) : Int) != 0) = true by simpa using h0)).mpr q
/-! ### a line that is done -/
theorem vne {x y : Str} : (!decide (V.str x = V.str y)) = false ↔ x = y := by
  rw [Bool.not_eq_false', vstr]
theorem vne2 {x y : Str} (h : ¬ x = y) : (!decide (V.str x = V.str y)) = true := by
  cases e : (!decide (V.str x = V.str y)) with
  | true => rfl
  | false => exact absurd (vne.mp e) h
theorem Pan.at {C : Addr} {H0 H : Hp} {p : Addr} {s : Pn} (h : Pan C H0 H p s) : ∃ dx r t u jv, H p = some (.ins C dx (pf r s.line jv t s.log.length u)) ∧ JobAt H jv s.job := by
  obtain ⟨h1, h2, dx, r, t, u, h3, h4, h5, ⟨⟨jv, ts, us, a1, a2, a3, a4, a5, a6⟩, a7, a8, a9, a10⟩⟩ := h
  exact ⟨dx, r, t, u, jv, a1, a4⟩
theorem Pan.job {C : Addr} {H0 H : Hp} {p dx : Addr} {fs : List (Str × V)} {s : Pn} {jv' : V} {j : Option (Int × Int)} (h : Pan C H0 H p s) (e : H p = some (.ins C dx fs)) (k : JobAt H jv' j) :
    Pan C H0 (upd H p (.ins C dx (putF "_job" jv' fs))) p { s with job := j } := by
  obtain ⟨h1, h2, dx1, r, t, u, h3, h4, h5, ⟨⟨jv, ts, us, a1, a2, a3, a4, a5, a6⟩, a7, a8, a9, a10⟩⟩ := h
  rw [a1] at e
  cases e
  have nrp : r ≠ p := ne_of a7 a1 (by intro z; cases z)
  have ntp : t ≠ p := ne_of a2 a1 (by intro z; cases z)
  have nup : u ≠ p := ne_of a3 a1 (by intro z; cases z)
  rw [put_job]
  exact ⟨ex_set h1 h2, h2, dx, r, t, u, h3, h4, h5, ⟨⟨jv', ts, us, upd_same, by rw [upd_ne ntp]; exact a2, by rw [upd_ne nup]; exact a3, k.mono (TupEx.ins a1), a5.mono (TupEx.ins a1), a6.mono (TupEx.ins a1)⟩, by rw [upd_ne nrp]; exact a7, a8, a9, a10⟩⟩
theorem JobAt.non {H : Hp} {jv : V} : ∀ {j : Option (Int × Int)}, JobAt H jv j → (jv = .non ↔ j = none)
  | none, h => ⟨fun _ => rfl, fun _ => h⟩
  | some (b, n), ⟨a, h, _⟩ => ⟨fun k => (by rw [h] at k; cases k), fun k => (by cases k)⟩
def Pn.said (s : Pn) : Pn := (s.addRow ("> " ++ s.line)).setLine ⟨#[]⟩
def Pn.doLine (s : Pn) : Pn :=
  if Txt.startswith s.line "say " = true then s.said.addRow (rp s.line "say ")
  else if s.line = "clear" then s.said.clr
  else if s.line = "stop" ∧ s.said.job ≠ none then { s.said with job := none }
  else if 0 < jobSize s.line then { s.said with job := some (0, jobSize s.line) }
  else if ¬ s.line = "" then s.said.addRow ("? " ++ s.line)
  else s.said
theorem set_rows {s : Pn} {x : Str} : (s.setLine x).rows = s.rows := by
  unfold Pn.setLine
  by_cases h : x = s.line
  · rw [if_pos h]
  · rw [if_neg h]
    rfl
def spDo (C : Addr) : Sp := fun vs H Q _ => ∃ (H0 : Hp) (p : Addr) (s : Pn), vs = [.ref p] ∧ Pan C H0 H p s ∧ s.rows.length ≤ 40 ∧ Asc s.line ∧ s.line.length ≤ 30 ∧ ∀ H', Pan C H0 H' p s.doLine → Q .non H'
structure CDo (P : Program) (w : World) (K : PySem.W.Frag) (mg : Str → Option Value) (base : Heap) (cP : Addr) : Prop where
  job_size : Cal P w K mg base "job_size" 2 ["line"] spJsz
  add_row : MCal P w K mg base cP "_add_row" 2 ["self", "row"] (spAr cP)
  set_line : MCal P w K mg base cP "_set_line" 2 ["self", "line"] (spSl cP)
  clear_rows : MCal P w K mg base cP "_clear_rows" 2 ["self"] (spCl cP)
theorem ok_do {f cP : Addr} {fd : FuncData} (F : Fun K "_do_line" "Pane._do_line" sPDo f fd) (T : TPan K mg cP) (C : CDo P w K mg base cP) : FnOk P w K mg base CX0 3 f fd ["self"] (spDo cP) := by
  refine F.ok scPDo (fun vs H Q E h => ?_) (fun cdv A outer s H vs Q E hr h => ?_)
  · obtain ⟨H0, p, s, rfl, _⟩ := h
    rfl
  · obtain ⟨H0, p, st, rfl, R, hR, ha, hl, q⟩ := h
    refine ⟨_, (pss_cons (ps_set (i := 1) scPDo.nd rfl (Or.inl rfl) (pe_fld (pv 0) rfl))
      (pss_cons (ps_expr (pmeth (pv 0) T.cl C.add_row (hr.mono (by first | decide | omega)) (pa_cons (pe_op op_add_str pe_str (pv 1)) pa_nil)))
      (pss_cons (ps_expr (pmeth (pv 0) T.cl C.set_line (hr.mono (by first | decide | omega)) (pa_cons pe_str pa_nil)))
      (pss_cons (ps_set (i := 2) scPDo.nd rfl (Or.inl rfl) (pcall C.job_size (hr.mono (by first | decide | omega)) (pa_cons (pv 1) pa_nil)))
      (pss_one (ps_if (pt_val (pe_m1 PySem.F.slot_str_startswith PySem.F.type_str_startswith mt_startswith (pv 1) (pgS T.mg_SAY))) (pss_one (ps_expr (pmeth (pv 0) T.cl C.add_row (hr.mono (by first | decide | omega)) (pa_cons (pe_m1 PySem.F.slot_str_removeprefix PySem.F.type_str_removeprefix mt_removeprefix (pv 1) (pgS T.mg_SAY)) pa_nil)))) (pss_one (ps_if (pt_cmpR op_eq (pv 1) pe_str (nomark _)) (pss_one (ps_expr (pmeth0 (pv 0) T.cl C.clear_rows (hr.mono (by first | decide | omega))))) (pss_one (ps_if (PW.pt (pw_and (pt_cmpR op_eq (pv 1) pe_str (nomark _)) (pw_and1 (pt_cmpR op_notN (pe_fld (pv 0) rfl) pe_non (nomark _))))) (pss_one (ps_fld (pv 0) pe_non rfl)) (pss_one (ps_if (pt_cmpR op_gt (pv 2) pe_int (nomark _)) (pss_one (ps_fld (pv 0) (pe_tup (pa_cons pe_int (pa_cons (pv 2) pa_nil))) rfl)) (pss_one (ps_if (pt_cmpR op_ne (pv 1) pe_str (nomark _)) (pss_one (ps_expr (pmeth (pv 0) T.cl C.add_row (hr.mono (by first | decide | omega)) (pa_cons (pe_op op_add_str pe_str (pv 1)) pa_nil)))) pss_nil)))))))))))))), ?_⟩
    have ladd : ∀ {x : Str}, x.length ≤ 2 → x.length + st.line.length ≤ sizeLine := fun hx => Nat.le_trans (show _ ≤ 32 by omega) (by decide)
    obtain ⟨dx, r, t, u, jv, b0, j0⟩ := R.at
    refine ⟨_, rfl, p, cP, dx, _, _, rfl, b0, T.cl, T.nL, pf_line, ?_⟩
    refine ⟨_, rfl, p, dx, _, rfl, b0, pf_no (by decide +kernel) (by decide +kernel) (by decide +kernel) (by decide +kernel) (by decide +kernel) (by decide +kernel), _, rfl, _, _, rfl, rfl, ladd (by decide), H0, p, st, _, rfl, R, hR, fun H1 R1 => ?_⟩
    obtain ⟨dx1, r1, t1, u1, jv1, b1, j1⟩ := R1.at
    refine ⟨_, rfl, p, dx1, _, rfl, b1, pf_no (by decide +kernel) (by decide +kernel) (by decide +kernel) (by decide +kernel) (by decide +kernel) (by decide +kernel), H0, p, _, _, rfl, R1, fun H2 R2 => ?_⟩
    have R2 : Pan cP H0 H2 p st.said := R2
    have r2 : st.said.rows.length ≤ 40 := by
      show ((st.addRow _).setLine _).rows.length ≤ 40
      rw [set_rows]
      exact lst_le
    obtain ⟨dx2, r2', t2, u2, jv2, b2, j2⟩ := R2.at
    refine ⟨_, rfl, st.line, rfl, ha, Nat.le_trans hl (by decide), ?_⟩
    refine ⟨_, rfl, ⟨_, rfl⟩, _, _, rfl, rfl, _, rfl, ite2 (fun e1 => ?_) (fun e1 => ?_)⟩
    · refine ⟨_, rfl, p, dx2, _, rfl, b2, pf_no (by decide +kernel) (by decide +kernel) (by decide +kernel) (by decide +kernel) (by decide +kernel) (by decide +kernel), _, rfl, ⟨_, rfl⟩, st.line, _, rfl, rfl, Nat.le_trans hl (by decide), H0, p, _, _, rfl, R2, r2, fun H3 R3 => q _ ?_⟩
      rw [show st.doLine = st.said.addRow (rp st.line "say ") from if_pos e1]
      exact R3
    · refine ⟨_, rfl, rfl, _, rfl, ite2 (fun e2 => ?_) (fun e2 => ?_)⟩
      · refine ⟨_, rfl, p, dx2, _, rfl, b2, pf_no (by decide +kernel) (by decide +kernel) (by decide +kernel) (by decide +kernel) (by decide +kernel) (by decide +kernel), H0, p, _, rfl, R2, fun H3 R3 => q _ ?_⟩
        rw [show st.doLine = st.said.clr from by unfold Pn.doLine; rw [if_neg e1, if_pos (vstr.mp e2)]]
        exact R3
      · have e2 : ¬ st.line = "clear" := fun k => e2 (vstr.mpr k)
        refine ⟨_, rfl, rfl, _, rfl, ite2 (fun e3 => ?_) (fun e3 => ite2 (fun z => by cases z) (fun _ => ?_))⟩
        · refine ⟨_, rfl, p, cP, dx2, _, _, rfl, b2, T.cl, T.nJ, pf_job, rfl, _, rfl, ite2 (fun e6 => ?_) (fun e6 => ?_)⟩
          · have e6 : st.said.job ≠ none := fun k => (by rw [decide_eq_true (j2.non.mpr k)] at e6; cases e6)
            refine ⟨_, rfl, p, cP, dx2, _, rfl, b2, T.cl, T.nJ, pf_short, q _ ?_⟩
            rw [show st.doLine = { st.said with job := none } from by unfold Pn.doLine; rw [if_neg e1, if_neg e2, if_pos ⟨vstr.mp e3, e6⟩]]
            exact R2.job b2 rfl
          · have e3 : ¬ (st.line = "stop" ∧ st.said.job ≠ none) := fun k => e6 (by rw [decide_eq_false (fun z => k.2 (j2.non.mp z))]; rfl)
            refine ⟨_, rfl, _, _, rfl, rfl, _, rfl, ite2 (fun e4 => ?_) (fun e4 => ?_)⟩
            · have e4 : 0 < jobSize st.line := of_decide_eq_true e4
              refine ⟨_, rfl, (by show 2 ≤ sizeLine; decide), fun l nl => ?_⟩
              have npl : p ≠ l := ne_of_none b2 nl
              refine ⟨_, rfl, p, cP, dx2, _, rfl, (by rw [upd_ne npl]; exact b2), T.cl, T.nJ, pf_short, q _ ?_⟩
              rw [show st.doLine = { st.said with job := some (0, jobSize st.line) } from by unfold Pn.doLine; rw [if_neg e1, if_neg e2, if_neg e3, if_pos e4]]
              exact (R2.ex (Ex.new nl)).job (by rw [upd_ne npl]; exact b2) ⟨l, rfl, upd_same⟩
            · have e4 : ¬ 0 < jobSize st.line := fun k => e4 (decide_eq_true k)
              refine ⟨_, rfl, rfl, _, rfl, ite2 (fun e5 => ?_) (fun e5 => ?_)⟩
              · have e5 : ¬ st.line = "" := fun k => (by rw [vne.mpr k] at e5; cases e5)
                refine ⟨_, rfl, p, dx2, _, rfl, b2, pf_no (by decide +kernel) (by decide +kernel) (by decide +kernel) (by decide +kernel) (by decide +kernel) (by decide +kernel), _, rfl, _, _, rfl, rfl, ladd (by decide), H0, p, _, _, rfl, R2, r2, fun H3 R3 => q _ ?_⟩
                rw [show st.doLine = st.said.addRow ("? " ++ st.line) from by unfold Pn.doLine; rw [if_neg e1, if_neg e2, if_neg e3, if_neg e4, if_pos e5]]
                exact R3
              · have e5 : ¬ ¬ st.line = "" := fun k => e5 (by rw [vne2 k])
                refine q _ ?_
                rw [show st.doLine = st.said from by unfold Pn.doLine; rw [if_neg e1, if_neg e2, if_neg e3, if_neg e4, if_neg e5]]
                exact R2
        · have e3 : ¬ (st.line = "stop" ∧ st.said.job ≠ none) := fun k => e3 (vstr.mpr k.1)
          refine ⟨_, rfl, _, _, rfl, rfl, _, rfl, ite2 (fun e4 => ?_) (fun e4 => ?_)⟩
          · have e4 : 0 < jobSize st.line := of_decide_eq_true e4
            refine ⟨_, rfl, (by show 2 ≤ sizeLine; decide), fun l nl => ?_⟩
            have npl : p ≠ l := ne_of_none b2 nl
            refine ⟨_, rfl, p, cP, dx2, _, rfl, (by rw [upd_ne npl]; exact b2), T.cl, T.nJ, pf_short, q _ ?_⟩
            rw [show st.doLine = { st.said with job := some (0, jobSize st.line) } from by unfold Pn.doLine; rw [if_neg e1, if_neg e2, if_neg e3, if_pos e4]]
            exact (R2.ex (Ex.new nl)).job (by rw [upd_ne npl]; exact b2) ⟨l, rfl, upd_same⟩
          · have e4 : ¬ 0 < jobSize st.line := fun k => e4 (decide_eq_true k)
            refine ⟨_, rfl, rfl, _, rfl, ite2 (fun e5 => ?_) (fun e5 => ?_)⟩
            · have e5 : ¬ st.line = "" := fun k => (by rw [vne.mpr k] at e5; cases e5)
              refine ⟨_, rfl, p, dx2, _, rfl, b2, pf_no (by decide +kernel) (by decide +kernel) (by decide +kernel) (by decide +kernel) (by decide +kernel) (by decide +kernel), _, rfl, _, _, rfl, rfl, ladd (by decide), H0, p, _, _, rfl, R2, r2, fun H3 R3 => q _ ?_⟩
              rw [show st.doLine = st.said.addRow ("? " ++ st.line) from by unfold Pn.doLine; rw [if_neg e1, if_neg e2, if_neg e3, if_neg e4, if_pos e5]]
              exact R3
            · have e5 : ¬ ¬ st.line = "" := fun k => e5 (by rw [vne2 k])
              refine q _ ?_
              rw [show st.doLine = st.said from by unfold Pn.doLine; rw [if_neg e1, if_neg e2, if_neg e3, if_neg e4, if_neg e5]]
              exact R2
end
end Vf
namespace Vf
open PySem PySem.Spec PyProof.Rows L2 Evl
/-! ### a sign that is typed -/
def Pn.press (s : Pn) (v w : V) (c : Nat) : Pn :=
  let s1 := { s with typed := lst 100 (s.typed ++ [[v, w, .str (sg c)]]) }
  if sg c = ";" then s1.doLine
  else if sg c = "<" then s1.setLine (cutS s1.line none (some (-1)))
  else if s1.line.length < 30 then s1.setLine (s1.line ++ sg c)
  else s1
def ofRow (b n : Int) : Str := ((Str.empty ++ Str.ofString (toString b)) ++ Str.ofString " of ") ++ Str.ofString (toString n)
def Pn.beat (s : Pn) : Pn := match s.job with
  | none => s
  | some (b, n) => { s.addRow (ofRow (b + 1) n) with job := if b + 1 < n then some (b + 1, n) else none }
section
variable {P : Program} {w : World} {K : PySem.W.Frag} {mg : Str → Option Value} {base : Heap}
def spPr (C : Addr) : Sp := fun vs H Q _ => ∃ (H0 : Hp) (p : Addr) (s : Pn) (x y : V) (c : Nat), vs = [.ref p, x, y, .str (sg c)] ∧ c ∈ KEY.cps.toList ∧ Pan C H0 H p s ∧ POk s ∧ ∀ H', Pan C H0 H' p (s.press x y c) → Q .non H'
structure CPr (P : Program) (w : World) (K : PySem.W.Frag) (mg : Str → Option Value) (base : Heap) (cP : Addr) : Prop where
  do_line : MCal P w K mg base cP "_do_line" 3 ["self"] (spDo cP)
  set_line : MCal P w K mg base cP "_set_line" 2 ["self", "line"] (spSl cP)
  wrong_place : Cal P w K mg base "wrong_place" 1 ["signs"] spWrp
theorem ok_pr {f cP : Addr} {fd : FuncData} (F : Fun K "press" "Pane.press" sPPr f fd) (T : TPan K mg cP) (C : CPr P w K mg base cP) : FnOk P w K mg base CX0 4 f fd ["self", "look", "session", "sign"] (spPr cP) := by
  refine F.ok scPPr (fun vs H Q E h => ?_) (fun cdv A outer s H vs Q E hr h => ?_)
  · obtain ⟨H0, p, s, x, y, c, rfl, _⟩ := h
    rfl
  · obtain ⟨H0, p, st, x, y, c, rfl, hc, Rp, O, q⟩ := h
    refine ⟨_, (pss_cons (ps_if (PW.pt (pw_or (pt_cmpR op_ne (pe_callB call_len_str (by rfl) T.z_len PySem.boot_len (pa_cons (pv 3) pa_nil)) pe_int (nomark _)) (pw_or1 (pt_cmpR op_notN (pcall C.wrong_place (hr.mono (by first | decide | omega)) (pa_cons (pv 3) pa_nil)) pe_non (nomark _))))) pss_never pss_nil)
      (pss_cons (ps_expr (pe_bm PySem.F.plainAttrs_list PySem.F.slot_list_append PySem.F.type_list_append mt_append (pe_fld (pv 0) rfl) (pa_cons (pe_tup (pa_cons (pv 1) (pa_cons (pv 2) (pa_cons (pv 3) pa_nil)))) pa_nil)))
      (pss_cons (ps_delS (pe_fld (pv 0) rfl) (po_some (pe_un un_neg (pgI T.mg_TYPED_KEPT))))
      (pss_one (ps_if (pt_cmpR op_eq (pv 3) pe_str (nomark _)) (pss_one (ps_expr (pmeth0 (pv 0) T.cl C.do_line (hr.mono (by first | decide | omega))))) (pss_one (ps_if (pt_cmpR op_eq (pv 3) pe_str (nomark _)) (pss_one (ps_expr (pmeth (pv 0) T.cl C.set_line (hr.mono (by first | decide | omega)) (pa_cons (pe_slice sl_str (pe_fld (pv 0) rfl) po_none (po_some (pe_un un_neg pe_int))) pa_nil)))) (pss_one (ps_if (pt_cmpR op_lt (pe_callB call_len_str (by rfl) T.z_len PySem.boot_len (pa_cons (pe_fld (pv 0) rfl) pa_nil)) (pgI T.mg_LINE_SIGNS) (nomark _)) (pss_one (ps_expr (pmeth (pv 0) T.cl C.set_line (hr.mono (by first | decide | omega)) (pa_cons (pe_op op_add_str (pe_fld (pv 0) rfl) (pv 3)) pa_nil)))) pss_nil))))))))), ?_⟩
    refine ⟨_, rfl, _, rfl, (by show 1 ≤ sizeLine; decide), rfl, _, rfl, ite2 (fun z => by cases z) (fun _ => ?_)⟩
    refine ⟨_, rfl, sg c, rfl, fun Hw eW => ?_⟩
    have hwn : wrongAt (sg c).cps.toList = none := wrong_none fun k hk => by
      have e : k = c := List.mem_singleton.mp hk
      rw [e]
      exact decide_eq_true hc
    rw [hwn]
    refine ⟨rfl, _, rfl, iteF ?_⟩
    have Rp := Rp.ex eW
    clear eW
    revert Rp
    generalize Hw = H
    intro Rp
    obtain ⟨h1, h2, dx, r, t, u, h3, h4, h5, ⟨⟨jv, ts, us, a1, a2, a3, a4, a5, a6⟩, a7, a8, a9, a10⟩⟩ := Rp
    have lt_ : ts.length ≤ 100 := by rw [a5.len]; exact O.typed
    have ntp : t ≠ p := ne_of a2 a1 (by intro z; cases z)
    · refine ⟨_, rfl, p, cP, dx, _, _, rfl, a1, T.cl, T.nT, pf_typed, .inl ⟨rfl, _, SqL.of a2⟩, _, rfl, _, rfl, _, rfl, (by show 3 ≤ sizeLine; decide), fun l nl => ?_⟩
      have npl : p ≠ l := ne_of_none a1 nl
      have ntl : t ≠ l := ne_of_none a2 nl
      have nul : u ≠ l := ne_of_none a3 nl
      have nrl : r ≠ l := ne_of_none a7 nl
      have b2 : upd H l (.tup [x, y, .str (sg c)]) t = some (.lst ts) := by rw [upd_ne ntl]; exact a2
      refine ⟨t, ts, _, rfl, rfl, b2, Nat.lt_of_le_of_lt lt_ (by decide), ?_⟩
      refine ⟨_, rfl, p, cP, dx, _, _, rfl, (by rw [upd_ne ntp.symm, upd_ne npl]; exact a1), T.cl, T.nT, pf_typed, _, rfl, _, rfl, t, _, 100, rfl, rfl, by decide, upd_same, ?_⟩
      have R : Pan cP H0 (upd (upd (upd H l (.tup [x, y, .str (sg c)])) t (.lst (ts ++ [.ref l]))) t (.lst ((ts ++ [V.ref l]).drop ((ts ++ [V.ref l]).length - 100)))) p { st with typed := lst 100 (st.typed ++ [[x, y, .str (sg c)]]) } := by
        refine ⟨ex_set (ex_set (ex_set h1 (ex_free h1 nl)) h4) h4, h2, dx, r, t, u, h3, h4, h5, ⟨⟨jv, _, us, ?_, upd_same, ?_, ?_, ?_, ?_⟩, ?_, a8, a9, a10⟩⟩
        · rw [upd_ne ntp.symm, upd_ne ntp.symm, upd_ne npl]
          exact a1
        · rw [upd_ne a10.symm, upd_ne a10.symm, upd_ne nul]
          exact a3
        · exact a4.mono (TupEx.trans (TupEx.new nl) (TupEx.trans (TupEx.lst b2) (TupEx.lst upd_same)))
        · refine Tups.lst (Tups.snoc ?_ (a5.mono (TupEx.trans (TupEx.new nl) (TupEx.trans (TupEx.lst b2) (TupEx.lst upd_same)))))
          rw [upd_ne ntl.symm, upd_ne ntl.symm, upd_same]
        · exact a6.mono (TupEx.trans (TupEx.new nl) (TupEx.trans (TupEx.lst b2) (TupEx.lst upd_same)))
        · rw [upd_ne a8, upd_ne a8, upd_ne nrl]
          exact a7
      generalize (upd (upd (upd H l (.tup [x, y, .str (sg c)])) t (.lst (ts ++ [.ref l]))) t (.lst ((ts ++ [V.ref l]).drop ((ts ++ [V.ref l]).length - 100)))) = H1 at R ⊢
      obtain ⟨dx1, r1, t1, u1, jv1, b1, j1⟩ := R.at
      refine ⟨_, rfl, rfl, _, rfl, ite2 (fun e1 => ?_) (fun e1 => ?_)⟩
      · refine ⟨_, rfl, p, dx1, _, rfl, b1, pf_no (by decide +kernel) (by decide +kernel) (by decide +kernel) (by decide +kernel) (by decide +kernel) (by decide +kernel), H0, p, _, rfl, R, O.rows, O.lasc, O.line, fun H2 R2 => q _ ?_⟩
        rw [show st.press x y c = Pn.doLine { st with typed := lst 100 (st.typed ++ [[x, y, .str (sg c)]]) } from if_pos (vstr.mp e1)]
        exact R2
      · have e1 : ¬ sg c = ";" := fun k => e1 (vstr.mpr k)
        refine ⟨_, rfl, rfl, _, rfl, ite2 (fun e2 => ?_) (fun e2 => ?_)⟩
        · refine ⟨_, rfl, p, dx1, _, rfl, b1, pf_no (by decide +kernel) (by decide +kernel) (by decide +kernel) (by decide +kernel) (by decide +kernel) (by decide +kernel), _, rfl, p, cP, dx1, _, _, rfl, b1, T.cl, T.nL, pf_line, _, rfl, _, rfl, st.line, rfl, Nat.le_trans O.line (by decide), H0, p, _, _, rfl, R, fun H2 R2 => q _ ?_⟩
          rw [show st.press x y c = Pn.setLine { st with typed := lst 100 (st.typed ++ [[x, y, .str (sg c)]]) } (cutS st.line none (some (-1))) from (if_neg e1).trans (if_pos (vstr.mp e2))]
          exact R2
        · have e2 : ¬ sg c = "<" := fun k => e2 (vstr.mpr k)
          refine ⟨_, rfl, p, cP, dx1, _, _, rfl, b1, T.cl, T.nL, pf_line, _, rfl, Nat.le_trans O.line (by decide), _, _, rfl, rfl, _, rfl, ite2 (fun e3 => ?_) (fun e3 => ?_)⟩
          · have e3 : st.line.length < 30 := Int.ofNat_lt.mp (of_decide_eq_true e3)
            refine ⟨_, rfl, p, dx1, _, rfl, b1, pf_no (by decide +kernel) (by decide +kernel) (by decide +kernel) (by decide +kernel) (by decide +kernel) (by decide +kernel), _, rfl, p, cP, dx1, _, _, rfl, b1, T.cl, T.nL, pf_line, _, rfl, _, _, rfl, rfl, Nat.le_trans (show _ ≤ 32 from by show st.line.length + 1 ≤ 32; omega) (by decide), H0, p, _, _, rfl, R, fun H2 R2 => q _ ?_⟩
            rw [show st.press x y c = Pn.setLine { st with typed := lst 100 (st.typed ++ [[x, y, .str (sg c)]]) } (st.line ++ sg c) from (if_neg e1).trans ((if_neg e2).trans (if_pos e3))]
            exact R2
          · refine q _ ?_
            rw [show st.press x y c = { st with typed := lst 100 (st.typed ++ [[x, y, .str (sg c)]]) } from (if_neg e1).trans ((if_neg e2).trans (if_neg fun k => e3 (decide_eq_true (Int.ofNat_lt.mpr k))))]
            exact R
/-! ### a beat -/
theorem nst_len {n : Int} (h0 : 0 ≤ n) (h1 : n ≤ 1000) : (Str.ofString (toString n)).length ≤ 7 := by
  obtain ⟨m, rfl⟩ := Int.eq_ofNat_of_zero_le h0
  rw [num_txt, txt_len]
  exact TL.numL_len (by decide) (show m < 10 ^ 7 by omega)
theorem nst_asc {n : Int} (h0 : 0 ≤ n) : Asc (Str.ofString (toString n)) := by
  obtain ⟨m, rfl⟩ := Int.eq_ofNat_of_zero_le h0
  intro c hc
  rw [num_txt, txt_cps] at hc
  have := TL.numL_digits m c hc
  omega
theorem log2s {n : Int} (h0 : 0 ≤ n) (h1 : n ≤ 1000) : n.natAbs.log2 < 1920 := by
  obtain ⟨m, rfl⟩ := Int.eq_ofNat_of_zero_le h0
  rw [Int.natAbs_natCast]
  by_cases h : m = 0
  · subst h
    decide
  · exact Nat.lt_of_lt_of_le ((Nat.log2_lt h).mpr (show m < 2 ^ 10 by omega)) (by decide)
def spBe (C : Addr) : Sp := fun vs H Q _ => ∃ (H0 : Hp) (p : Addr) (s : Pn), vs = [.ref p] ∧ Pan C H0 H p s ∧ POk s ∧ ∀ H', Pan C H0 H' p s.beat → Q .non H'
structure CBe (P : Program) (w : World) (K : PySem.W.Frag) (mg : Str → Option Value) (base : Heap) (cP : Addr) : Prop where
  add_row : MCal P w K mg base cP "_add_row" 2 ["self", "row"] (spAr cP)
theorem ok_be {f cP : Addr} {fd : FuncData} (F : Fun K "beat" "Pane.beat" sPBe f fd) (T : TPan K mg cP) (C : CBe P w K mg base cP) : FnOk P w K mg base CX0 3 f fd ["self"] (spBe cP) := by
  refine F.ok scPBe (fun vs H Q E h => ?_) (fun cdv A outer s H vs Q E hr h => ?_)
  · obtain ⟨H0, p, s, rfl, _⟩ := h
    rfl
  · obtain ⟨H0, p, st, rfl, R, O, q⟩ := h
    refine ⟨_, (pss_cons (ps_if (pt_cmpR op_isN (pe_fld (pv 0) rfl) pe_non (nomark _)) (pss_one ps_retN) pss_nil)
      (pss_cons (ps_asg (pe_fld (pv 0) rfl) (pg_tup rfl (pgs_cons (pg_name (i := 1) scPBe.nd rfl (Or.inl rfl)) (pgs_cons (pg_name (i := 2) scPBe.nd rfl (Or.inl rfl)) pgs_nil))))
      (pss_cons (ps_set (i := 3) scPBe.nd rfl (Or.inl rfl) (pe_op op_add (pv 1) pe_int))
      (pss_cons (ps_expr (pmeth (pv 0) T.cl C.add_row (hr.mono (by first | decide | omega)) (pa_cons (pe_joined (PJ.cons (pe_fmt (pv 3)) (PJ.cons pe_str (PJ.cons (pe_fmt (pv 2)) PJ.nil)))) pa_nil)))
      (pss_one (ps_fld (pv 0) (pe_ifExp (pt_cmpR op_lt (pv 3) (pv 2) (nomark _)) (pe_tup (pa_cons (pv 3) (pa_cons (pv 2) pa_nil))) pe_non) rfl)))))), ?_⟩
    obtain ⟨dx, r, t, u, jv, b0, j0⟩ := R.at
    refine ⟨_, rfl, p, cP, dx, _, _, rfl, b0, T.cl, T.nJ, pf_job, rfl, _, rfl, ite2 (fun e => ?_) (fun e => ?_)⟩
    · refine q _ ?_
      rw [show st.beat = st from by unfold Pn.beat; rw [j0.non.mp (of_decide_eq_true e)]]
      exact R
    · cases ej : st.job with
      | none =>
        rw [ej] at j0
        exact absurd (decide_eq_true (show jv = V.non from j0)) e
      | some bn =>
        obtain ⟨b, n⟩ := bn
        obtain ⟨o1, o2, o3⟩ := O.job b n ej
        rw [ej] at j0
        obtain ⟨ja, rfl, hja⟩ := j0
        refine ⟨_, rfl, p, cP, dx, _, _, rfl, b0, T.cl, T.nJ, pf_job, ja, _, rfl, SqT.of hja, rfl, _, _, rfl, _, _, rfl, rfl, ?_⟩
        have n1 := nst_len (n := b + 1) (by omega) (by omega)
        have n2 := nst_len (n := n) (by omega) (by omega)
        have d1 : (Str.ofString " of ").length = 4 := rfl
        have d0 : Str.empty.length = 0 := rfl
        have big : ∀ x : Str, x.length ≤ 100 → x.length ≤ sizeLine := fun x h => Nat.le_trans h (by decide)
        refine ⟨_, rfl, _, _, rfl, rfl, ?_⟩
        refine ⟨_, rfl, p, dx, _, rfl, b0, pf_no (by decide +kernel) (by decide +kernel) (by decide +kernel) (by decide +kernel) (by decide +kernel) (by decide +kernel), _, rfl, .inr ⟨_, rfl, log2s (by omega) (by omega), _, rfl, big _ (by simp only [Str.length_append]; omega), _, rfl, big _ (by simp only [Str.length_append]; omega), _, rfl, .inr ⟨_, rfl, log2s (by omega) (by omega), _, rfl, big _ (by simp only [Str.length_append]; omega), ?_⟩⟩⟩
        refine ⟨H0, p, st, _, rfl, R, O.rows, fun H1 R1 => ?_⟩
        obtain ⟨dx1, r1, t1, u1, jv1, b1, j1⟩ := R1.at
        refine ⟨_, rfl, _, rfl, _, _, rfl, rfl, _, rfl, ite2 (fun e2 => ?_) (fun e2 => ?_)⟩
        · have e2 : b + 1 < n := of_decide_eq_true e2
          refine ⟨_, rfl, _, rfl, (by show 2 ≤ sizeLine; decide), fun l nl => ?_⟩
          have npl : p ≠ l := ne_of_none b1 nl
          refine ⟨_, rfl, p, cP, dx1, _, rfl, (by rw [upd_ne npl]; exact b1), T.cl, T.nJ, pf_short, q _ ?_⟩
          rw [show st.beat = { st.addRow (ofRow (b + 1) n) with job := some (b + 1, n) } from by unfold Pn.beat; rw [ej]; show ({ st.addRow (ofRow (b + 1) n) with job := if b + 1 < n then some (b + 1, n) else none } : Pn) = _; rw [if_pos e2]]
          exact (R1.ex (Ex.new nl)).job (by rw [upd_ne npl]; exact b1) ⟨l, rfl, upd_same⟩
        · have e2 : ¬ b + 1 < n := fun k => e2 (decide_eq_true k)
          refine ⟨_, rfl, p, cP, dx1, _, rfl, b1, T.cl, T.nJ, pf_short, q _ ?_⟩
          rw [show st.beat = { st.addRow (ofRow (b + 1) n) with job := none } from by unfold Pn.beat; rw [ej]; show ({ st.addRow (ofRow (b + 1) n) with job := if b + 1 < n then some (b + 1, n) else none } : Pn) = _; rw [if_neg e2]]
          exact R1.job b1 rfl
end
end Vf
namespace Vf
open PySem PySem.Spec PyProof.Rows L2 Evl
/-! ### what every pane's state keeps -/
theorem asc_app {x y : Str} (h1 : Asc x) (h2 : Asc y) : Asc (x ++ y) := fun c hc => by
  have e : (x ++ y).cps.toList = x.cps.toList ++ y.cps.toList := by
    show (x.cps ++ y.cps).toList = _
    simp
  rw [e] at hc
  exact (List.mem_append.mp hc).elim (h1 c) (h2 c)
theorem asc_sg {c : Nat} (h : c < 128) : Asc (sg c) := fun d hd => by
  rw [show d = c from List.mem_singleton.mp hd]
  exact h
theorem asc_of {z : Str} (h : (z.cps.toList.all fun c => decide (c < 128)) = true) : Asc z := fun c hc => of_decide_eq_true (List.all_eq_true.mp h c hc)
theorem POk.new : POk Pn.new := ⟨Nat.zero_le _, (fun _ h => nomatch h), Nat.zero_le _, (fun _ h => nomatch h), (fun _ h => nomatch h), Nat.zero_le _, (fun _ _ h => nomatch h)⟩
theorem POk.log {s : Pn} {k x : Str} (O : POk s) (hk : Asc k) (hx : Asc x) : ∀ c ∈ s.log ++ [(k, x)], Asc c.1 ∧ Asc c.2 := fun c hc => by
  rcases List.mem_append.mp hc with hc | hc
  · exact O.gasc c hc
  · rw [List.mem_singleton.mp hc]
    exact ⟨hk, hx⟩
theorem POk.addRow {s : Pn} {x : Str} (O : POk s) (hx : Asc x) (hl : x.length ≤ 100) : POk (s.addRow x) :=
  ⟨O.line, O.lasc, lst_le, fun z hz => (List.mem_append.mp (lst_mem hz)).elim (O.rasc z) fun h => by rw [List.mem_singleton.mp h]; exact ⟨hx, hl⟩, O.log (asc_of (by decide +kernel)) hx, O.typed, O.job⟩
theorem POk.clr {s : Pn} (O : POk s) : POk s.clr :=
  ⟨O.line, O.lasc, Nat.zero_le _, (fun _ h => nomatch h), O.log (asc_of (by decide +kernel)) (asc_of (by decide +kernel)), O.typed, O.job⟩
theorem POk.setLine {s : Pn} {x : Str} (O : POk s) (hx : Asc x) (hl : x.length ≤ 30) : POk (s.setLine x) := by
  unfold Pn.setLine
  by_cases h : x = s.line
  · rw [if_pos h]
    exact O
  · rw [if_neg h]
    exact ⟨hl, hx, O.rows, O.rasc, O.log (asc_of (by decide +kernel)) hx, O.typed, O.job⟩
theorem POk.setJob {s : Pn} {j : Option (Int × Int)} (O : POk s) (h : ∀ b n, j = some (b, n) → 0 ≤ b ∧ b < n ∧ n ≤ 99) : POk { s with job := j } := ⟨O.line, O.lasc, O.rows, O.rasc, O.gasc, O.typed, h⟩
theorem POk.setTyped {s : Pn} {T : List (List V)} (O : POk s) (h : T.length ≤ 100) : POk { s with typed := T } := ⟨O.line, O.lasc, O.rows, O.rasc, O.gasc, h, O.job⟩
theorem POk.said {s : Pn} (O : POk s) : POk s.said := by
  refine (O.addRow (asc_app (asc_of (by decide +kernel)) O.lasc) ?_).setLine (fun _ h => nomatch h) (Nat.zero_le _)
  rw [Str.length_append]
  have := O.line
  have d : (Str.ofString "> ").length = 2 := rfl
  omega
theorem POk.doLine {s : Pn} (O : POk s) : POk s.doLine := by
  have hl := O.line
  unfold Pn.doLine
  by_cases h1 : Txt.startswith s.line "say " = true
  · rw [if_pos h1]
    exact O.said.addRow (rp_asc O.lasc) (Nat.le_trans rp_len (by omega))
  · rw [if_neg h1]
    by_cases h2 : s.line = "clear"
    · rw [if_pos h2]
      exact O.said.clr
    · rw [if_neg h2]
      by_cases h3 : s.line = "stop" ∧ s.said.job ≠ none
      · rw [if_pos h3]
        exact O.said.setJob (fun _ _ h => nomatch h)
      · rw [if_neg h3]
        by_cases h4 : 0 < jobSize s.line
        · rw [if_pos h4]
          refine O.said.setJob fun b n h => ?_
          cases h
          exact ⟨Int.le_refl _, h4, (job_range O.lasc).2⟩
        · rw [if_neg h4]
          by_cases h5 : ¬ s.line = ""
          · rw [if_pos h5]
            refine O.said.addRow (asc_app (asc_of (by decide +kernel)) O.lasc) ?_
            rw [Str.length_append]
            have d : (Str.ofString "? ").length = 2 := rfl
            omega
          · rw [if_neg h5]
            exact O.said
theorem key_low : (KEY.cps.toList.all fun c => decide (c < 128)) = true := by decide +kernel
theorem POk.press {s : Pn} {x y : V} {c : Nat} (O : POk s) (hc : c ∈ KEY.cps.toList) : POk (s.press x y c) := by
  have O1 : POk { s with typed := lst 100 (s.typed ++ [[x, y, .str (sg c)]]) } := O.setTyped lst_le
  unfold Pn.press
  by_cases h1 : sg c = ";"
  · exact (if_pos h1).symm ▸ O1.doLine
  · show POk (if sg c = ";" then _ else _)
    rw [if_neg h1]
    by_cases h2 : sg c = "<"
    · rw [if_pos h2]
      refine O1.setLine ?_ ?_
      · show Asc (cutS s.line none (some (-1)))
        rw [cutS_butlast]
        intro d hd
        rw [txt_cps] at hd
        exact O.lasc d (List.dropLast_subset _ hd)
      · show (cutS s.line none (some (-1))).length ≤ 30
        rw [cutS_butlast, txt_len, List.length_dropLast, str_len]
        have := O.line
        omega
    · rw [if_neg h2]
      by_cases h3 : s.line.length < 30
      · rw [show (if s.line.length < 30 then _ else _) = _ from if_pos h3]
        refine O1.setLine (asc_app O.lasc (asc_sg (of_decide_eq_true (List.all_eq_true.mp key_low c hc)))) ?_
        rw [Str.length_append]
        show s.line.length + 1 ≤ 30
        omega
      · rw [show (if s.line.length < 30 then _ else _) = _ from if_neg h3]
        exact O1
theorem POk.beat {s : Pn} (O : POk s) : POk s.beat := by
  unfold Pn.beat
  cases e : s.job with
  | none => exact O
  | some bn =>
    obtain ⟨b, n⟩ := bn
    obtain ⟨o1, o2, o3⟩ := O.job b n e
    have n1 := nst_len (n := b + 1) (by omega) (by omega)
    have n2 := nst_len (n := n) (by omega) (by omega)
    refine (O.addRow (asc_app (asc_app (asc_app (asc_of (by decide +kernel)) (nst_asc (by omega))) (asc_of (by decide +kernel))) (nst_asc (by omega))) ?_).setJob fun b' n' h => ?_
    · show (((Str.empty ++ Str.ofString (toString (b + 1))) ++ Str.ofString " of ") ++ Str.ofString (toString n)).length ≤ 100
      have d1 : (Str.ofString " of ").length = 4 := rfl
      have d0 : Str.empty.length = 0 := rfl
      simp only [Str.length_append]
      omega
    · by_cases h2 : b + 1 < n
      · rw [if_pos h2] at h
        cases h
        omega
      · rw [if_neg h2] at h
        cases h
/-! ### changes lead from one state to the next -/
def ledS (a : List Str × Str) (c : Str × Str) : List Str × Str :=
  if c.1 = "line" then (a.1, c.2) else if c.1 = "clear" then ([], a.2) else (lst 40 (a.1 ++ [c.2]), a.2)
def Leads (s t : Pn) : Prop := ∃ d : List (Str × Str), t.log = s.log ++ d ∧ d.foldl ledS (s.rows, s.line) = (t.rows, t.line)
theorem Leads.refl {s : Pn} : Leads s s := ⟨[], by simp, rfl⟩
theorem Leads.trans {s t u : Pn} (h : Leads s t) (k : Leads t u) : Leads s u := by
  obtain ⟨d, h1, h2⟩ := h
  obtain ⟨e, k1, k2⟩ := k
  exact ⟨d ++ e, by rw [k1, h1, List.append_assoc], by rw [List.foldl_append, h2, k2]⟩
theorem kinds : ¬ (("row" : Str) = "line") ∧ ¬ (("row" : Str) = "clear") ∧ ¬ (("clear" : Str) = "line") := by decide +kernel
theorem Leads.addRow {s : Pn} {x : Str} : Leads s (s.addRow x) := ⟨[("row", x)], rfl, by
  show ledS (s.rows, s.line) ("row", x) = _
  unfold ledS
  rw [if_neg kinds.1, if_neg kinds.2.1]
  rfl⟩
theorem Leads.clr {s : Pn} : Leads s s.clr := ⟨[("clear", ⟨#[]⟩)], rfl, by
  show ledS (s.rows, s.line) ("clear", ⟨#[]⟩) = _
  unfold ledS
  rw [if_neg kinds.2.2, if_pos rfl]
  rfl⟩
theorem Leads.setLine {s : Pn} {x : Str} : Leads s (s.setLine x) := by
  unfold Pn.setLine
  by_cases h : x = s.line
  · rw [if_pos h]
    exact .refl
  · rw [if_neg h]
    exact ⟨[("line", x)], rfl, by
      show ledS (s.rows, s.line) ("line", x) = _
      unfold ledS
      rw [if_pos rfl]
      rfl⟩
theorem Leads.setJob {s t : Pn} {j : Option (Int × Int)} (h : Leads s t) : Leads s { t with job := j } := h
theorem Leads.said {s : Pn} : Leads s s.said := Leads.trans Leads.addRow Leads.setLine
theorem Leads.doLine {s : Pn} : Leads s s.doLine := by
  unfold Pn.doLine
  split
  · exact Leads.said.trans Leads.addRow
  · split
    · exact Leads.said.trans Leads.clr
    · split
      · exact Leads.said.setJob
      · split
        · exact Leads.said.setJob
        · split
          · exact Leads.said.trans Leads.addRow
          · exact Leads.said
theorem Leads.press {s : Pn} {x y : V} {c : Nat} : Leads s (s.press x y c) := by
  have h0 : ∀ {t : Pn}, Leads { s with typed := lst 100 (s.typed ++ [[x, y, .str (sg c)]]) } t → Leads s t := fun h => h
  unfold Pn.press
  dsimp only
  split
  · exact h0 Leads.doLine
  · split
    · exact h0 Leads.setLine
    · split
      · exact h0 Leads.setLine
      · exact h0 Leads.refl
theorem Leads.beat {s : Pn} : Leads s s.beat := by
  unfold Pn.beat
  split
  · exact .refl
  · exact Leads.setJob Leads.addRow
/-! ### who types changes nothing else -/
def typ (s : Pn) (T : List (List V)) : Pn := { s with typed := T }
theorem setLine_typ {s : Pn} {T : List (List V)} {x : Str} : (typ s T).setLine x = typ (s.setLine x) T := by
  unfold Pn.setLine
  show (if x = s.line then _ else _) = _
  split <;> rfl
theorem said_typ {s : Pn} {T : List (List V)} : (typ s T).said = typ s.said T := by
  unfold Pn.said
  exact setLine_typ (s := s.addRow ("> " ++ s.line))
theorem doLine_typ {s : Pn} {T : List (List V)} : (typ s T).doLine = typ s.doLine T := by
  unfold Pn.doLine
  rw [said_typ]
  show (if Txt.startswith s.line "say " = true then _ else if s.line = "clear" then _ else if s.line = "stop" ∧ s.said.job ≠ none then _ else if 0 < jobSize s.line then _ else if ¬ s.line = "" then _ else _) = _
  repeat' split
  all_goals first | rfl | (exfalso; simp_all)
theorem press_typ {s : Pn} {T : List (List V)} {x y x' y' : V} {c : Nat} : ∃ T', (typ s T).press x y c = typ (s.press x' y' c) T' := by
  refine ⟨lst 100 (T ++ [[x, y, .str (sg c)]]), ?_⟩
  unfold Pn.press
  show (if sg c = ";" then (typ s _).doLine else if sg c = "<" then (typ s _).setLine (cutS s.line none (some (-1))) else if s.line.length < 30 then (typ s _).setLine (s.line ++ sg c) else typ s _) = typ (if sg c = ";" then (typ s _).doLine else if sg c = "<" then (typ s _).setLine (cutS s.line none (some (-1))) else if s.line.length < 30 then (typ s _).setLine (s.line ++ sg c) else typ s _) _
  rw [doLine_typ, doLine_typ, setLine_typ, setLine_typ, setLine_typ, setLine_typ]
  repeat' split
  all_goals rfl
theorem beat_typ {s : Pn} {T : List (List V)} : (typ s T).beat = typ s.beat T := by
  unfold Pn.beat
  show (match s.job with | none => _ | some (b, n) => _) = _
  cases s.job <;> rfl
end Vf
namespace Vf
open PySem PySem.Spec PyProof.Rows L2 Evl
/-! ### panes side by side -/
theorem PanAt.mono {C p dx r t u : Addr} {H H' : Hp} {s : Pn} (h : PanAt C H p dx r t u s) (e : TupEx H H') (hp : H' p = H p) (hr : H' r = H r) (ht : H' t = H t) (hu : H' u = H u) : PanAt C H' p dx r t u s := by
  obtain ⟨⟨jv, ts, us, a1, a2, a3, a4, a5, a6⟩, a7, a8, a9, a10⟩ := h
  exact ⟨⟨jv, ts, us, by rw [hp]; exact a1, by rw [ht]; exact a2, by rw [hu]; exact a3, a4.mono e, a5.mono e, a6.mono e⟩, by rw [hr]; exact a7, a8, a9, a10⟩
/-- the places of a pane, taken out of the heap -/
def without (H : Hp) (p r t u : Addr) : Hp := fun a => if a = p ∨ a = r ∨ a = t ∨ a = u then none else H a
theorem without_in {H : Hp} {p r t u a : Addr} (h : a = p ∨ a = r ∨ a = t ∨ a = u) : without H p r t u a = none := if_pos h
theorem without_out {H : Hp} {p r t u a : Addr} (h1 : a ≠ p) (h2 : a ≠ r) (h3 : a ≠ t) (h4 : a ≠ u) : without H p r t u a = H a := if_neg fun h => h.elim h1 fun h => h.elim h2 fun h => h.elim h3 h4
theorem without_ex {H : Hp} {p r t u : Addr} : Ex (without H p r t u) H := fun a o h => by
  unfold without at h
  by_cases e : a = p ∨ a = r ∨ a = t ∨ a = u
  · rw [if_pos e] at h
    cases h
  · rw [if_neg e] at h
    exact h
theorem ex_without {H0 H : Hp} {p r t u : Addr} (e : Ex H0 H) (h1 : H0 p = none) (h2 : H0 r = none) (h3 : H0 t = none) (h4 : H0 u = none) : Ex H0 (without H p r t u) := fun a o h => by
  rw [without_out (ne_of_none h h1) (ne_of_none h h2) (ne_of_none h h3) (ne_of_none h h4)]
  exact e a o h
theorem Pan.swap {C : Addr} {Hb H1 H : Hp} {p q : Addr} {s t : Pn} (h1 : Pan C Hb H1 q t) (h2 : Pan C H1 H p s) : ∃ H1', Pan C Hb H1' p s ∧ Pan C H1' H q t := by
  obtain ⟨b1, b2, dx', r', t', u', b3, b4, b5, B⟩ := h1
  obtain ⟨c1, c2, dx, r, tt, u, c3, c4, c5, D⟩ := h2
  obtain ⟨⟨jv', ts', us', a1, a2, a3, a4, a5, a6⟩, a7, a8, a9, a10⟩ := id B
  obtain ⟨⟨jv, ts, us, d1, d2, d3, d4, d5, d6⟩, d7, d8, d9, d10⟩ := id D
  have apart : ∀ x, H1 x = none → without H q r' t' u' x = H x := fun x hx => without_out (ne_of_none a1 hx).symm (ne_of_none a7 hx).symm (ne_of_none a2 hx).symm (ne_of_none a3 hx).symm
  have tup : TupEx H (without H q r' t' u') := fun x xs hx => by
    rw [without_out]
    · exact hx
    · rintro rfl
      rw [c1 _ _ a1] at hx
      cases hx
    · rintro rfl
      rw [c1 _ _ a7] at hx
      cases hx
    · rintro rfl
      rw [c1 _ _ a2] at hx
      cases hx
    · rintro rfl
      rw [c1 _ _ a3] at hx
      cases hx
  refine ⟨without H q r' t' u', ⟨ex_without (b1.trans c1) b2 b3 b4 b5, ex_free b1 c2, dx, r, tt, u, ex_free b1 c3, ex_free b1 c4, ex_free b1 c5, D.mono tup (apart _ c2) (apart _ c3) (apart _ c4) (apart _ c5)⟩, without_ex, without_in (.inl rfl), dx', r', t', u', without_in (.inr (.inl rfl)), without_in (.inr (.inr (.inl rfl))), without_in (.inr (.inr (.inr rfl))), ?_⟩
  exact ⟨⟨jv', ts', us', c1 _ _ a1, c1 _ _ a2, c1 _ _ a3, a4.mono (TupEx.ex c1), a5.mono (TupEx.ex c1), a6.mono (TupEx.ex c1)⟩, c1 _ _ a7, a8, a9, a10⟩
theorem Pan.grow {C : Addr} {H0 H : Hp} {p R : Addr} {s : Pn} {o : HO} (h : Pan C H0 H p s) (n : H R = none) : Pan C (upd H0 R o) (upd H R o) p s := by
  obtain ⟨b1, b2, dx, r, t, u, b3, b4, b5, B⟩ := h
  obtain ⟨⟨jv, ts, us, a1, a2, a3, a4, a5, a6⟩, a7, a8, a9, a10⟩ := id B
  have k1 := ne_of_none a1 n
  have k2 := ne_of_none a7 n
  have k3 := ne_of_none a2 n
  have k4 := ne_of_none a3 n
  refine ⟨fun a o' e => ?_, by rw [upd_ne k1]; exact b2, dx, r, t, u, by rw [upd_ne k2]; exact b3, by rw [upd_ne k3]; exact b4, by rw [upd_ne k4]; exact b5, B.mono (TupEx.new n) (upd_ne k1) (upd_ne k2) (upd_ne k3) (upd_ne k4)⟩
  by_cases ea : a = R
  · subst ea
    rw [upd_same] at e ⊢
    exact e
  · rw [upd_ne ea] at e ⊢
    exact b1 a o' e
theorem Pan.shrink {C : Addr} {H0 H1 H : Hp} {p : Addr} {s : Pn} (h : Pan C H1 H p s) (e : Ex H0 H1) : Pan C H0 H p s := by
  obtain ⟨b1, b2, dx, r, t, u, b3, b4, b5, B⟩ := h
  exact ⟨e.trans b1, ex_free e b2, dx, r, t, u, ex_free e b3, ex_free e b4, ex_free e b5, B⟩
/-- two panes behind one heap -/
def Two (C : Addr) (Hb H : Hp) (p q : Addr) (s t : Pn) : Prop := ∃ H1, Pan C Hb H1 q t ∧ Pan C H1 H p s
section
variable {C : Addr} {Hb H H' : Hp} {p q R : Addr} {s t s' t' : Pn}
theorem Two.ex (h : Two C Hb H p q s t) (e : Ex H H') : Two C Hb H' p q s t := by
  obtain ⟨H1, h1, h2⟩ := h
  exact ⟨H1, h1, h2.ex e⟩
theorem Two.base (h : Two C Hb H p q s t) : Ex Hb H := by
  obtain ⟨H1, h1, h2⟩ := h
  exact h1.1.trans h2.1
theorem Two.flip (h : Two C Hb H p q s t) : Two C Hb H q p t s := by
  obtain ⟨H1, h1, h2⟩ := h
  obtain ⟨H2, h3, h4⟩ := Pan.swap h1 h2
  exact ⟨H2, h3, h4⟩
theorem Two.left (h : Two C Hb H p q s t) : ∃ H1, Pan C H1 H p s ∧ ∀ H' s', Pan C H1 H' p s' → Two C Hb H' p q s' t := by
  obtain ⟨H1, h1, h2⟩ := h
  exact ⟨H1, h2, fun H' s' h => ⟨H1, h1, h⟩⟩
theorem Two.right (h : Two C Hb H p q s t) : ∃ H1, Pan C H1 H q t ∧ ∀ H' t', Pan C H1 H' q t' → Two C Hb H' p q s t' := by
  obtain ⟨H1, h1, h2⟩ := h.flip.left
  exact ⟨H1, h1, fun H' t' h => (h2 H' t' h).flip⟩
theorem Two.atL (h : Two C Hb H p q s t) : ∃ G dx r tt u jv, Pan C G H p s ∧ H p = some (.ins C dx (pf r s.line jv tt s.log.length u)) := by
  obtain ⟨G, R, _⟩ := h.left
  obtain ⟨dx, r, tt, u, jv, b, _⟩ := R.at
  exact ⟨G, dx, r, tt, u, jv, R, b⟩
theorem Two.atR (h : Two C Hb H p q s t) : ∃ G dx r tt u jv, Pan C G H q t ∧ H q = some (.ins C dx (pf r t.line jv tt t.log.length u)) := h.flip.atL
theorem Two.grow {o : HO} (h : Two C Hb H p q s t) (n : H R = none) : Two C (upd Hb R o) (upd H R o) p q s t := by
  obtain ⟨H1, h1, h2⟩ := h
  exact ⟨upd H1 R o, h1.grow (ex_free h2.1 n), h2.grow n⟩
theorem Two.shrink {H0 : Hp} (h : Two C Hb H p q s t) (e : Ex H0 Hb) : Two C H0 H p q s t := by
  obtain ⟨H1, h1, h2⟩ := h
  exact ⟨H1, h1.shrink e, h2⟩
end
/-! ### what since tells, in one -/
def Told (H : Hp) (v : V) (s : Pn) (m : Nat) : Prop := (s.log.length ≤ m + 30 ∧ ∃ l us, v = .ref l ∧ H l = some (.lst us) ∧ Tups H us ((s.log.drop m).map chV)) ∨ (m + 30 < s.log.length ∧ v = .non)
def spSi2 (C : Addr) : Sp := fun vs H Q _ => ∃ (H0 : Hp) (p : Addr) (s : Pn) (m : Nat), vs = [.ref p, .int m] ∧ Pan C H0 H p s ∧ m ≤ s.log.length ∧ ∀ v H', Ex H H' → Told H' v s m → Q v H'
theorem si2_si {C : Addr} (vs : List V) (H : Hp) (Q : VK) (E : XK) (h : spSi2 C vs H Q E) : spSi C vs H Q E := by
  obtain ⟨H0, p, s, m, rfl, R, hm, q⟩ := h
  refine ⟨H0, p, s, m, rfl, R, fun k => ?_, fun m' l us em h1 h2 hl hT => ?_⟩
  · exact q _ H (Ex.refl H) (.inr ⟨by rcases k with k | k <;> omega, rfl⟩)
  · obtain rfl : m' = m := by omega
    exact q _ _ (Ex.new hl) (.inl ⟨h1, l, us, rfl, upd_same, hT.mono (TupEx.new hl)⟩)
end Vf
namespace Vf
open PySem PySem.Spec PyProof.Rows L2 Evl
/-! ### drawn signs -/
abbrev sSgs : Stmt := topS 23
theorem scSgs : FnScope ["_law_box", "_law_found", "_law_turn", "_law_way", "_law_every", "_law_word", "_law_number", "_law_some", "_law_k"] ["_law_box"] (defScope sSgs) := ⟨rfl, rfl, rfl, by decide +kernel, rfl, by decide +kernel, by decide +kernel⟩
structure TSgs (mg : Str → Option Value) : Prop where
  z_range : mg "range" = none
  z_str : mg "str" = none
  z_int : mg "int" = none
def KeyT (z : Str) : Prop := ∀ c ∈ z.cps.toList, c ∈ KEY.cps.toList
theorem key_of {z : Str} (h : (z.cps.toList.all fun c => decide (c ∈ KEY.cps.toList)) = true) : KeyT z := fun c hc => of_decide_eq_true (List.all_eq_true.mp h c hc)
theorem key_app {x y : Str} (h1 : KeyT x) (h2 : KeyT y) : KeyT (x ++ y) := fun c hc => by
  have e : (x ++ y).cps.toList = x.cps.toList ++ y.cps.toList := by
    show (x.cps ++ y.cps).toList = _
    simp
  rw [e] at hc
  exact (List.mem_append.mp hc).elim (h1 c) (h2 c)
theorem key_mul {c n : Nat} (h : c ∈ KEY.cps.toList) : KeyT (Txt.mul (sg c) (n : Int)) := fun d hd => by
  rw [mul_sg, txt_cps] at hd
  rw [(List.mem_replicate.mp hd).2]
  exact h
theorem key_cut {z : Str} {a b : Option Int} (h : KeyT z) : KeyT (cutS z a b) := fun c hc => by
  unfold cutS at hc
  have hc2 : c ∈ (z.cps.toList.drop (HT.sIx z.length 0 a)).take (HT.sIx z.length z.length b - HT.sIx z.length 0 a) := by simpa using hc
  exact h c (List.mem_of_mem_drop (List.mem_of_mem_take hc2))
theorem key_digits : ((List.range 10).all fun i => decide (48 + i ∈ KEY.cps.toList)) = true := by decide +kernel
theorem key_num {n : Int} (h0 : 0 ≤ n) : KeyT (Str.ofString (toString n)) := by
  obtain ⟨m, rfl⟩ := Int.eq_ofNat_of_zero_le h0
  intro c hc
  rw [num_txt, txt_cps] at hc
  have h := TL.numL_digits m c hc
  have q := of_decide_eq_true (List.all_eq_true.mp key_digits (c - 48) (List.mem_range.mpr (by omega)))
  rw [show 48 + (c - 48) = c by omega] at q
  exact q
def forBody : Stmt → List Stmt
  | .For _ _ b _ _ => b
  | _ => []
def evs : Str := litOf ((forBody ((defBody sSgs).getD 1 (.Pass ⟨0, 0, 0, 0⟩))).getD 1 (.Pass ⟨0, 0, 0, 0⟩))
theorem evs_len : evs.cps.toList.length = 37 := by decide +kernel
theorem evs_ok : KeyT evs := key_of (by decide +kernel)
def spSgs : Sp := fun vs H Q _ => ∃ (b l : Addr), vs = [.ref b] ∧ Box H b l ∧ ∀ (z : Str) (H' : Hp), Ex H H' → z.length ≤ 1000 → KeyT z → Q (.str z) H'
section
variable {P : Program} {w : World} {K : PySem.W.Frag} {mg : Str → Option Value} {base : Heap}
theorem ok_sgs {f : Addr} {fd : FuncData} (F : Fun K "_law_signs" "_law_signs" sSgs f fd) (T : TSgs mg) (C : CTak P w K mg base) : FnOk P w K mg base CX0 2 f fd ["_law_box"] spSgs := by
  refine F.ok scSgs (fun vs H Q E h => ?_) (fun cdv A outer s H vs Q E hr h => ?_)
  · obtain ⟨b, l, rfl, _⟩ := h
    rfl
  · obtain ⟨b, l, rfl, B, q⟩ := h
    refine ⟨_, (pss_cons (ps_set (i := 1) scSgs.nd rfl (Or.inl rfl) pe_str)
      (pss_cons (ps_for PassesOwn.never rfl (pi_range1 rfl T.z_range (pa_cons (pcall C.law_take (hr.mono (by first | decide | omega)) (pa_cons (pv 0) (pa_cons (pe_ix ix_list (pe_lst (pa_cons pe_int (pa_cons pe_int pa_nil))) (pcall C.law_take (hr.mono (by first | decide | omega)) (pa_cons (pv 0) (pa_cons pe_int pa_nil))) (fun _ _ => rfl)) pa_nil))) pa_nil)) (pg_name (i := 2) scSgs.nd rfl (Or.inl rfl)) (pss_cons (ps_set (i := 3) scSgs.nd rfl (Or.inl rfl) (pcall C.law_take (hr.mono (by first | decide | omega)) (pa_cons (pv 0) (pa_cons pe_int pa_nil))))
      (pss_cons (ps_set (i := 4) scSgs.nd rfl (Or.inr rfl) pe_str)
      (pss_cons (ps_set (i := 5) scSgs.nd rfl (Or.inl rfl) (pe_join pe_str (pe_lc (own := [("_law_k", 8)]) (g := gName 8) (tt := tYes) rfl scSgs.nd (pi_range1 rfl T.z_range (pa_cons (pcall C.law_take (hr.mono (by first | decide | omega)) (pa_cons (pv 0) (pa_cons (pe_ix ix_list (pe_lst (pa_cons pe_int (pa_cons pe_int (pa_cons pe_int pa_nil)))) (pcall C.law_take (hr.mono (by first | decide | omega)) (pa_cons (pv 0) (pa_cons pe_int pa_nil))) (fun _ _ => rfl)) pa_nil))) pa_nil)) (blkOk_by (own := [("_law_k", 8)]) (N := ["_law_box", "_law_found", "_law_turn", "_law_way", "_law_every", "_law_word", "_law_number", "_law_some", "_law_k"]) (sc := defScope sSgs) (by decide +kernel)) (fun _ _ _ _ _ => pg_name (i := 8) scSgs.nd rfl (Or.inl rfl)) (fun _ _ _ _ _ => pts_nil) (fun _ _ _ _ _ => (pe_ix ix_str (pv 4) (pcall C.law_take (hr.mono (by first | decide | omega)) (pa_cons (pv 0) (pa_cons pe_int pa_nil))) (fun _ _ => rfl))))))
      (pss_cons (ps_set (i := 6) scSgs.nd rfl (Or.inl rfl) (pe_ix ix_list (pe_lst (pa_cons pe_str (pa_cons pe_str (pa_cons pe_str pa_nil)))) (pcall C.law_take (hr.mono (by first | decide | omega)) (pa_cons (pv 0) (pa_cons pe_int pa_nil))) (fun _ _ => rfl)))
      (pss_cons (ps_set (i := 6) scSgs.nd rfl (Or.inl rfl) (pe_op op_add_str (pv 6) (pe_callTy call_str_int (by rfl) T.z_str boot_str (pa_cons (pe_ix ix_list (pe_lst (pa_cons (pcall C.law_take (hr.mono (by first | decide | omega)) (pa_cons (pv 0) (pa_cons pe_int pa_nil))) (pa_cons (pcall C.law_take (hr.mono (by first | decide | omega)) (pa_cons (pv 0) (pa_cons pe_int pa_nil))) pa_nil))) (pcall C.law_take (hr.mono (by first | decide | omega)) (pa_cons (pv 0) (pa_cons pe_int pa_nil))) (fun _ _ => rfl)) pa_nil))))
      (pss_cons (ps_set (i := 7) scSgs.nd rfl (Or.inl rfl) (pe_lst (pa_cons (pe_op op_add_str pe_str (pv 5)) (pa_cons (pe_op op_add_str pe_str (pv 6)) (pa_cons pe_str (pa_cons pe_str (pa_cons (pv 5) (pa_cons (pe_op op_add_str (pv 5) (pe_op op_mulS pe_str (pcall C.law_take (hr.mono (by first | decide | omega)) (pa_cons (pv 0) (pa_cons pe_int pa_nil))))) (pa_cons pe_str pa_nil)))))))))
      (pss_cons (ps_expr (pe_bm PySem.F.plainAttrs_list PySem.F.slot_list_append PySem.F.type_list_append mt_append (pv 7) (pa_cons (pe_op op_add_str pe_str (pv 6)) pa_nil)))
      (pss_one (ps_set (i := 1) scSgs.nd rfl (Or.inl rfl) (pe_op op_add_str (pe_op op_add_str (pv 1) (pe_ix ix_list (pv 7) (pv 3) (fun _ _ => rfl))) (pe_op op_mulS pe_str (pe_callTy call_int1 (by rfl) T.z_int boot_int (pa_cons (pe_cmpR op_gt (pcall C.law_take (hr.mono (by first | decide | omega)) (pa_cons (pv 0) (pa_cons pe_int pa_nil))) pe_int (nomark _)) pa_nil))))))))))))))
      (pss_one (ps_ret (pv 1))))), ?_⟩
    have big : ∀ n : Nat, n ≤ 1000000 → n ≤ sizeLine := fun n h => Nat.le_trans h (by decide)
    refine ⟨_, rfl, (by show 2 ≤ sizeLine; decide), fun t nt => ?_⟩
    have Bt : Box (upd H t (.lst [.int 2, .int 5])) b l := B.ex (Ex.new nt)
    refine ⟨_, rfl, b, l, _, rfl, Bt, by decide, by decide, fun k H1 e1 k0 k1 => ?_⟩
    obtain ⟨m, hm, hm0, hm2⟩ : ∃ m : Int, atI [V.int 2, V.int 5] k = some (.int m) ∧ 0 < m ∧ m ≤ 5 := by
      rcases (show k = 0 ∨ k = 1 by omega) with rfl | rfl
      · exact ⟨2, rfl, by decide, by decide⟩
      · exact ⟨5, rfl, by decide, by decide⟩
    refine ⟨t, _, _, _, rfl, rfl, SqL.of (e1 _ _ upd_same), hm, b, l, m, rfl, Bt.ex e1, hm0, by omega, fun n H2 e2 n0 n1 => ?_⟩
    have x2 : Ex H H2 := ((Ex.new nt).trans e1).trans e2
    refine ⟨n, rfl, by omega, by omega, ?_⟩
    refine for_it walk_range (fun i σ H' => ∃ (z : Str) (c2 c3 c4 c5 c6 c7 c8 : Option V), σ = [some (.ref b), some (.str z), c2, c3, c4, c5, c6, c7, c8] ∧ Ex H H' ∧ KeyT z ∧ z.length ≤ 100 * i)
      ⟨_, _, _, _, _, _, _, _, rfl, x2, key_of (by decide +kernel), Nat.le_refl 0⟩ (fun _ _ _ _ _ => trivial) ?_ ?_
    · clear e2 e1 Bt hm x2
      rintro i x σ H3 H3' hi ⟨z, c2, c3, c4, c5, c6, c7, c8, rfl, x3, kz, lz⟩ ⟨rfl, rfl⟩
      have li : i < 5 := by omega
      refine ⟨_, rfl, b, l, 8, rfl, B.ex x3, by decide, by decide, fun way H4 e4 w0 w1 => ?_⟩
      have x4 := x3.trans e4
      refine ⟨⟨_, rfl⟩, ?_⟩
      have e5 := Ex.refl H4
      refine ⟨_, rfl, (by show 3 ≤ sizeLine; decide), fun t nt => ?_⟩
      have Bt : Box (upd H4 t (.lst [.int 4, .int 12, .int 40])) b l := (B.ex x4).ex (Ex.new nt)
      refine ⟨_, rfl, b, l, _, rfl, Bt, by decide, by decide, fun k H5 e5 k0 k1 => ?_⟩
      obtain ⟨m, hm, hm0, hm2⟩ : ∃ m : Int, atI [V.int 4, V.int 12, V.int 40] k = some (.int m) ∧ 0 < m ∧ m ≤ 40 := by
        rcases (show k = 0 ∨ k = 1 ∨ k = 2 by omega) with rfl | rfl | rfl
        · exact ⟨4, rfl, by decide, by decide⟩
        · exact ⟨12, rfl, by decide, by decide⟩
        · exact ⟨40, rfl, by decide, by decide⟩
      refine ⟨t, _, _, _, rfl, rfl, SqL.of (e5 _ _ upd_same), hm, b, l, m, rfl, Bt.ex e5, hm0, by omega, fun n2 H6 e6 n20 n21 => ?_⟩
      have x6 : Ex H H6 := ((x4.trans (Ex.new nt)).trans e5).trans e6
      refine ⟨n2, rfl, by omega, by omega, fun D hD => ?_⟩
      refine lc_it walk_range (fun i H' => Ex H H' ∧ ∃ cs : List Nat, cs.length = i ∧ (∀ c ∈ cs, c ∈ KEY.cps.toList) ∧ H' D = some (.lst ((cs.map sg).map V.str))) ⟨x6.trans (Ex.new hD), [], rfl, (fun _ h => nomatch h), upd_same⟩ (fun _ _ _ _ => trivial) ?_ ?_
      · rintro j x H7 H8 hj ⟨e, cs, hl, hc, hp⟩ ⟨rfl, rfl⟩
        refine ⟨rfl, yes_lc ?_⟩
        refine ⟨.str evs, rfl, _, rfl, b, l, 37, rfl, B.ex e, by decide, by decide, fun k H9 e9 k0 k1 => ?_⟩
        have hk : k.toNat < evs.cps.toList.length := by rw [evs_len]; omega
        refine ⟨evs, k, evs.cps.toList[k.toNat], rfl, rfl, by decide +kernel, at_ix (z := k) (j := k.toNat) (by omega) (List.getElem?_eq_getElem hk), _, e9 _ _ hp, ?_, ex_set (e.trans e9) (fresh_back x6 hD), cs ++ [evs.cps.toList[k.toNat]], ?_, fun c hm => ?_, ?_⟩
        · rw [List.length_map, List.length_map, hl]
          exact Nat.lt_of_lt_of_le hj (Nat.le_trans (m := 2000) (by omega) (by decide))
        · rw [List.length_append, hl]
          rfl
        · rcases List.mem_append.mp hm with hm | hm
          · exact hc c hm
          · rw [List.mem_singleton.mp hm]
            exact evs_ok _ (List.getElem_mem hk)
        · rw [upd_same, List.map_append, List.map_append]
          rfl
      · rintro H7 ⟨x7, cs, hl, hc, hp⟩
        refine ⟨_, D, cs.map sg, rfl, rfl, .inl (SqL.of hp), ?_, ?_⟩
        · rw [sg_sum, List.length_map]
          show cs.length + cs.length * 0 ≤ _
          omega
        · have ej : Txt.join (Str.ofString "") (cs.map sg) = txt cs := join0 cs
          rw [ej]
          have kw : KeyT (txt cs) := fun c h => hc c (by rw [txt_cps] at h; exact h)
          have lw : (txt cs).length ≤ 40 := by rw [txt_len, hl]; omega
          generalize txt cs = wd at kw lw ⊢
          have B7 := B.ex x7
          clear hp hc hl x6 e6 e5 Bt nt x4 e4 hm hm2 x3 n21 n20
          -- the number
          refine ⟨(by show 3 ≤ sizeLine; decide), fun t2 nt2 => ?_⟩
          have B8 := B7.ex (Ex.new (o := .lst [.str (Str.ofString ""), .str (Str.ofString ""), .str (Str.ofString "0")]) nt2)
          refine ⟨_, rfl, b, l, _, rfl, B8, by decide, by decide, fun k3 H8 e8 k30 k31 => ?_⟩
          obtain ⟨y, hy, ky, ly⟩ : ∃ y : Str, atI [V.str (Str.ofString ""), V.str (Str.ofString ""), V.str (Str.ofString "0")] k3 = some (.str y) ∧ KeyT y ∧ y.length ≤ 1 := by
            rcases (show k3 = 0 ∨ k3 = 1 ∨ k3 = 2 by omega) with rfl | rfl | rfl
            · exact ⟨_, rfl, key_of (by decide +kernel), by decide⟩
            · exact ⟨_, rfl, key_of (by decide +kernel), by decide⟩
            · exact ⟨_, rfl, key_of (by decide +kernel), by decide⟩
          refine ⟨t2, _, _, _, rfl, rfl, SqL.of (e8 _ _ upd_same), hy, ?_⟩
          have x8 : Ex H H8 := (x7.trans (Ex.new nt2)).trans e8
          have B9 := B.ex x8
          refine ⟨_, rfl, ?_⟩
          refine ⟨_, rfl, b, l, 10, rfl, B9, by decide, by decide, fun n4 H9 e9 n40 n41 => ?_⟩
          refine ⟨_, rfl, b, l, 111, rfl, B9.ex e9, by decide, by decide, fun n5 H10 e10 n50 n51 => ?_⟩
          refine ⟨(by show 2 ≤ sizeLine; decide), fun t3 nt3 => ?_⟩
          have B10 := (((B9.ex e9).ex e10).ex (Ex.new (o := .lst [.int n4, .int n5]) nt3))
          refine ⟨_, rfl, b, l, 2, rfl, B10, by decide, by decide, fun k6 H11 e11 k60 k61 => ?_⟩
          obtain ⟨nn, hnn, nn0, nn1⟩ : ∃ nn : Int, atI [V.int n4, V.int n5] k6 = some (.int nn) ∧ 0 ≤ nn ∧ nn ≤ 1000 := by
            rcases (show k6 = 0 ∨ k6 = 1 by omega) with rfl | rfl
            · exact ⟨_, rfl, n40, by omega⟩
            · exact ⟨_, rfl, n50, by omega⟩
          have x11 : Ex H H11 := (((x8.trans e9).trans e10).trans (Ex.new nt3)).trans e11
          refine ⟨t3, _, _, _, rfl, rfl, SqL.of (e11 _ _ upd_same), hnn, nn, rfl, log2s nn0 nn1, ?_⟩
          have ln := nst_len nn0 nn1
          refine ⟨_, _, rfl, rfl, big _ (by omega), ?_⟩
          have kN : KeyT (y ++ Str.ofString (toString nn)) := key_app ky (key_num nn0)
          have lN : (y ++ Str.ofString (toString nn)).length ≤ 8 := by rw [Str.length_append]; omega
          generalize y ++ Str.ofString (toString nn) = nb at kN lN ⊢
          have B11 := B.ex x11
          have say5 : (Str.ofString "say ").length = 4 := rfl
          have many5 : (Str.ofString "many ").length = 5 := rfl
          refine ⟨_, rfl, _, _, rfl, rfl, big _ (by omega), _, rfl, _, _, rfl, rfl, big _ (by omega), _, rfl, _, rfl, _, rfl, b, l, 5, rfl, B11, by decide, by decide, fun n6 H12 e12 n60 n61 => ?_⟩
          obtain ⟨kn, rfl⟩ : ∃ kn : Nat, n6 = (kn : Int) := ⟨n6.toNat, by omega⟩
          have kb : KeyT (Txt.mul (sg 60) (kn : Int)) := key_mul (by decide +kernel)
          have lb : (Txt.mul (sg 60) (kn : Int)).length ≤ 5 := by rw [mul_sg, txt_len, List.length_replicate]; omega
          refine ⟨sg 60, kn, rfl, rfl, (by show 1 ≤ 1000; decide), by omega, by omega, _, _, rfl, rfl, big _ (by omega), (by show 7 ≤ sizeLine; decide), fun S nS => ?_⟩
          generalize Txt.mul (sg 60) (kn : Int) = bk at kb lb ⊢
          have x12 : Ex H H12 := x11.trans e12
          refine ⟨_, rfl, .inl ⟨rfl, _, SqL.of upd_same⟩, _, rfl, _, _, rfl, rfl, big _ (by omega), S, _, _, rfl, rfl, upd_same, (by show 7 < sizeLine; decide), ?_⟩
          obtain ⟨v, hv, kv, lv⟩ : ∃ v : Str, atI [V.str (Str.ofString "say " ++ wd), V.str (Str.ofString "many " ++ nb), V.str (Str.ofString "stop"), V.str (Str.ofString "clear"), V.str wd, V.str (wd ++ bk), V.str (Str.ofString "<"), V.str (Str.ofString "say " ++ nb)] way = some (.str v) ∧ KeyT v ∧ v.length ≤ 60 := by
            rcases (show way = 0 ∨ way = 1 ∨ way = 2 ∨ way = 3 ∨ way = 4 ∨ way = 5 ∨ way = 6 ∨ way = 7 by omega) with rfl | rfl | rfl | rfl | rfl | rfl | rfl | rfl
            · exact ⟨_, rfl, key_app (key_of (by decide +kernel)) kw, by rw [Str.length_append]; omega⟩
            · exact ⟨_, rfl, key_app (key_of (by decide +kernel)) kN, by rw [Str.length_append]; omega⟩
            · exact ⟨_, rfl, key_of (by decide +kernel), by decide⟩
            · exact ⟨_, rfl, key_of (by decide +kernel), by decide⟩
            · exact ⟨_, rfl, kw, by omega⟩
            · exact ⟨_, rfl, key_app kw kb, by rw [Str.length_append]; omega⟩
            · exact ⟨_, rfl, key_of (by decide +kernel), by decide⟩
            · exact ⟨_, rfl, key_app (key_of (by decide +kernel)) kN, by rw [Str.length_append]; omega⟩
          have x13 : ∀ o o', Ex H (upd (upd H12 S o) S o') := fun o o' => ex_set (x12.trans (Ex.new nS)) (fresh_back x12 nS)
          refine ⟨_, rfl, _, rfl, _, rfl, S, _, _, _, rfl, rfl, SqL.of upd_same, hv, _, _, rfl, rfl, big _ (by omega), ?_⟩
          refine ⟨_, rfl, b, l, 5, rfl, B.ex (x13 _ _), by decide, by decide, fun n7 H13 e13 n70 n71 => ?_⟩
          obtain ⟨cn, hcn, lcn⟩ : ∃ cn : Nat, (if decide (0 < n7) = true then (1 : Int) else 0) = (cn : Int) ∧ cn ≤ 1 := by
            by_cases hh : decide (0 < n7) = true
            · exact ⟨1, by rw [if_pos hh]; rfl, by decide⟩
            · exact ⟨0, by rw [if_neg hh]; rfl, by decide⟩
          have kc : KeyT (Txt.mul (sg 59) (cn : Int)) := key_mul (by decide +kernel)
          have lc : (Txt.mul (sg 59) (cn : Int)).length ≤ 1 := by rw [mul_sg, txt_len, List.length_replicate]; omega
          refine ⟨_, _, rfl, rfl, .inr ⟨_, rfl, sg 59, (cn : Int), rfl, congrArg V.int hcn, (by show 1 ≤ 1000; decide), by omega, by omega, _, _, rfl, rfl, big _ (by rw [Str.length_append]; omega), ?_⟩⟩
          refine ⟨z ++ v ++ Txt.mul (sg 59) (cn : Int), _, _, _, _, _, _, _, rfl, (x13 _ _).trans e13, key_app (key_app kz kv) kc, ?_⟩
          rw [Str.length_append, Str.length_append]
          omega
    · rintro σ H3 ⟨z, c2, c3, c4, c5, c6, c7, c8, rfl, x3, kz, lz⟩
      exact ⟨_, rfl, q z H3 x3 (by omega) kz⟩
end
end Vf
namespace Vf
open PySem PySem.Spec PyProof.Rows L2 Evl
/-! ### a pane as a thing -/
def panA (C p : Addr) (s : Pn) : List Addr → Hp → Prop := fun fp H => ∃ dx r t u, fp = [p, r, t, u] ∧ PanAt C H p dx r t u s
theorem panT (C p : Addr) (s : Pn) : Thing (panA C p s) := by
  refine ⟨fun fp H H' ⟨dx, r, t, u, e, h⟩ te k => ?_, fun fp H ⟨dx, r, t, u, e, h⟩ a ha => ?_⟩
  · subst e
    exact ⟨dx, r, t, u, rfl, h.mono te (k _ (by simp)) (k _ (by simp)) (k _ (by simp)) (k _ (by simp))⟩
  · subst e
    obtain ⟨⟨jv, ts, us, a1, a2, a3, _⟩, a7, _⟩ := h
    rcases List.mem_cons.mp ha with rfl | ha
    · exact ⟨_, a1, fun _ z => by cases z⟩
    · rcases List.mem_cons.mp ha with rfl | ha
      · exact ⟨_, a7, fun _ z => by cases z⟩
      · rcases List.mem_cons.mp ha with rfl | ha
        · exact ⟨_, a2, fun _ z => by cases z⟩
        · rw [List.mem_singleton.mp ha]
          exact ⟨_, a3, fun _ z => by cases z⟩
theorem pan_beh {C p : Addr} {H0 H : Hp} {s : Pn} : Pan C H0 H p s ↔ Beh (panA C p s) H0 H := by
  constructor
  · rintro ⟨x, n, dx, r, t, u, n1, n2, n3, h⟩
    refine ⟨x, [p, r, t, u], fun a ha => ?_, dx, r, t, u, rfl, h⟩
    rcases List.mem_cons.mp ha with rfl | ha
    · exact n
    · rcases List.mem_cons.mp ha with rfl | ha
      · exact n1
      · rcases List.mem_cons.mp ha with rfl | ha
        · exact n2
        · rw [List.mem_singleton.mp ha]
          exact n3
  · rintro ⟨x, fp, n, dx, r, t, u, rfl, h⟩
    exact ⟨x, n _ (by simp), dx, r, t, u, n _ (by simp), n _ (by simp), n _ (by simp), h⟩
end Vf
namespace Vf
open PySem PySem.Spec PyProof.Rows L2 Evl
/-! ### the law's own pane: a dict -/
def ofs (r : Addr) (line : Str) (jv : V) (pa al ty : Addr) : List (Key × V) :=
  [(.inr "rows", .ref r), (.inr "line", .str line), (.inr "job", jv), (.inr "past", .ref pa), (.inr "all", .ref al), (.inr "typed", .ref ty)]
theorem kq12 : ¬ (Sum.inr ("rows" : Str) : Key) = .inr "line" := by decide +kernel
theorem kq13 : ¬ (Sum.inr ("rows" : Str) : Key) = .inr "job" := by decide +kernel
theorem kq14 : ¬ (Sum.inr ("rows" : Str) : Key) = .inr "past" := by decide +kernel
theorem kq15 : ¬ (Sum.inr ("rows" : Str) : Key) = .inr "all" := by decide +kernel
theorem kq16 : ¬ (Sum.inr ("rows" : Str) : Key) = .inr "typed" := by decide +kernel
theorem kq23 : ¬ (Sum.inr ("line" : Str) : Key) = .inr "job" := by decide +kernel
theorem kq24 : ¬ (Sum.inr ("line" : Str) : Key) = .inr "past" := by decide +kernel
theorem kq25 : ¬ (Sum.inr ("line" : Str) : Key) = .inr "all" := by decide +kernel
theorem kq26 : ¬ (Sum.inr ("line" : Str) : Key) = .inr "typed" := by decide +kernel
theorem kq34 : ¬ (Sum.inr ("job" : Str) : Key) = .inr "past" := by decide +kernel
theorem kq35 : ¬ (Sum.inr ("job" : Str) : Key) = .inr "all" := by decide +kernel
theorem kq36 : ¬ (Sum.inr ("job" : Str) : Key) = .inr "typed" := by decide +kernel
theorem kq45 : ¬ (Sum.inr ("past" : Str) : Key) = .inr "all" := by decide +kernel
theorem kq46 : ¬ (Sum.inr ("past" : Str) : Key) = .inr "typed" := by decide +kernel
theorem kq56 : ¬ (Sum.inr ("all" : Str) : Key) = .inr "typed" := by decide +kernel
section
variable {r pa al ty : Addr} {line : Str} {jv : V}
theorem of_rows : valV (ofs r line jv pa al ty) (.inr "rows") = some (.ref r) := valV_pos rfl
theorem of_line : valV (ofs r line jv pa al ty) (.inr "line") = some (.str line) := (valV_neg kq12).trans (valV_pos rfl)
theorem of_job : valV (ofs r line jv pa al ty) (.inr "job") = some jv := (valV_neg kq13).trans ((valV_neg kq23).trans (valV_pos rfl))
theorem of_past : valV (ofs r line jv pa al ty) (.inr "past") = some (.ref pa) := (valV_neg kq14).trans ((valV_neg kq24).trans ((valV_neg kq34).trans (valV_pos rfl)))
theorem of_all : valV (ofs r line jv pa al ty) (.inr "all") = some (.ref al) := (valV_neg kq15).trans ((valV_neg kq25).trans ((valV_neg kq35).trans ((valV_neg kq45).trans (valV_pos rfl))))
theorem of_typed : valV (ofs r line jv pa al ty) (.inr "typed") = some (.ref ty) := (valV_neg kq16).trans ((valV_neg kq26).trans ((valV_neg kq36).trans ((valV_neg kq46).trans ((valV_neg kq56).trans (valV_pos rfl)))))
theorem sq12 : ¬ ("rows" : Str) = "line" := by decide +kernel
theorem sq13 : ¬ ("rows" : Str) = "job" := by decide +kernel
theorem sq14 : ¬ ("rows" : Str) = "past" := by decide +kernel
theorem sq15 : ¬ ("rows" : Str) = "all" := by decide +kernel
theorem sq16 : ¬ ("rows" : Str) = "typed" := by decide +kernel
theorem sq23 : ¬ ("line" : Str) = "job" := by decide +kernel
theorem sq24 : ¬ ("line" : Str) = "past" := by decide +kernel
theorem sq25 : ¬ ("line" : Str) = "all" := by decide +kernel
theorem sq26 : ¬ ("line" : Str) = "typed" := by decide +kernel
theorem sq34 : ¬ ("job" : Str) = "past" := by decide +kernel
theorem sq35 : ¬ ("job" : Str) = "all" := by decide +kernel
theorem sq36 : ¬ ("job" : Str) = "typed" := by decide +kernel
theorem sq45 : ¬ ("past" : Str) = "all" := by decide +kernel
theorem sq46 : ¬ ("past" : Str) = "typed" := by decide +kernel
theorem sq56 : ¬ ("all" : Str) = "typed" := by decide +kernel
theorem putK_in {kvs : List (Key × V)} {k : Key} {v : V} (h : (kvs.any fun kv => decide (kv.1 = k)) = true) : putK kvs k v = kvs.map (fun kv => if kv.1 = k then (kv.1, v) else kv) := if_pos h
theorem op_rows {a : Addr} : putK (ofs r line jv pa al ty) (.inr "rows") (.ref a) = ofs a line jv pa al ty := by
  rw [putK_in (by simp [ofs])]
  simp [ofs, sq12, sq13, sq14, sq15, sq16, sq23, sq24, sq25, sq26, sq34, sq35, sq36, sq45, sq46, sq56, Ne.symm sq12, Ne.symm sq13, Ne.symm sq14, Ne.symm sq15, Ne.symm sq16, Ne.symm sq23, Ne.symm sq24, Ne.symm sq25, Ne.symm sq26, Ne.symm sq34, Ne.symm sq35, Ne.symm sq36, Ne.symm sq45, Ne.symm sq46, Ne.symm sq56]
theorem op_line {z : Str} : putK (ofs r line jv pa al ty) (.inr "line") (.str z) = ofs r z jv pa al ty := by
  rw [putK_in (by simp [ofs])]
  simp [ofs, sq12, sq13, sq14, sq15, sq16, sq23, sq24, sq25, sq26, sq34, sq35, sq36, sq45, sq46, sq56, Ne.symm sq12, Ne.symm sq13, Ne.symm sq14, Ne.symm sq15, Ne.symm sq16, Ne.symm sq23, Ne.symm sq24, Ne.symm sq25, Ne.symm sq26, Ne.symm sq34, Ne.symm sq35, Ne.symm sq36, Ne.symm sq45, Ne.symm sq46, Ne.symm sq56]
theorem op_job {z : V} : putK (ofs r line jv pa al ty) (.inr "job") z = ofs r line z pa al ty := by
  rw [putK_in (by simp [ofs])]
  simp [ofs, sq12, sq13, sq14, sq15, sq16, sq23, sq24, sq25, sq26, sq34, sq35, sq36, sq45, sq46, sq56, Ne.symm sq12, Ne.symm sq13, Ne.symm sq14, Ne.symm sq15, Ne.symm sq16, Ne.symm sq23, Ne.symm sq24, Ne.symm sq25, Ne.symm sq26, Ne.symm sq34, Ne.symm sq35, Ne.symm sq36, Ne.symm sq45, Ne.symm sq46, Ne.symm sq56]
theorem of_short : (ofs r line jv pa al ty).length < sizeLine := by show 6 < sizeLine; decide
theorem of_made : mergeK [] (ofs r line jv pa al ty) = ofs r line jv pa al ty := by
  simp [mergeK, ofs, putK, sq12, sq13, sq14, sq15, sq16, sq23, sq24, sq25, sq26, sq34, sq35, sq36, sq45, sq46, sq56, Ne.symm sq12, Ne.symm sq13, Ne.symm sq14, Ne.symm sq15, Ne.symm sq16, Ne.symm sq23, Ne.symm sq24, Ne.symm sq25, Ne.symm sq26, Ne.symm sq34, Ne.symm sq35, Ne.symm sq36, Ne.symm sq45, Ne.symm sq46, Ne.symm sq56]
end
structure OwnAt (H : Hp) (d r pa al ty : Addr) (o : Pn) : Prop where
  ex : ∃ (jv : V) (ps as ts : List V), H d = some (.dK (ofs r o.line jv pa al ty)) ∧ H pa = some (.lst ps) ∧ H al = some (.lst as) ∧ H ty = some (.lst ts) ∧ JobAt H jv o.job ∧ Tups H ps (o.log.map chV) ∧ Tups H ts o.typed ∧ as.length ≤ o.log.length + 1
  hr : H r = some (.lst (o.rows.map V.str))
  rp : r ≠ pa
  ra : r ≠ al
  rt : r ≠ ty
  pl : pa ≠ al
  pt : pa ≠ ty
  at_ : al ≠ ty
theorem OwnAt.mono {d r pa al ty : Addr} {H H' : Hp} {o : Pn} (h : OwnAt H d r pa al ty o) (e : TupEx H H') (hd : H' d = H d) (hr : H' r = H r) (hp : H' pa = H pa) (ha : H' al = H al) (ht : H' ty = H ty) : OwnAt H' d r pa al ty o := by
  obtain ⟨⟨jv, ps, as, ts, a1, a2, a3, a4, a5, a6, a7, a8⟩, a9, b1, b2, b3, b4, b5, b6⟩ := h
  exact ⟨⟨jv, ps, as, ts, by rw [hd]; exact a1, by rw [hp]; exact a2, by rw [ha]; exact a3, by rw [ht]; exact a4, a5.mono e, a6.mono e, a7.mono e, a8⟩, by rw [hr]; exact a9, b1, b2, b3, b4, b5, b6⟩
def ownA (d : Addr) (o : Pn) : List Addr → Hp → Prop := fun fp H => ∃ r pa al ty, fp = [d, r, pa, al, ty] ∧ OwnAt H d r pa al ty o
theorem ownT (d : Addr) (o : Pn) : Thing (ownA d o) := by
  refine ⟨fun fp H H' ⟨r, pa, al, ty, e, h⟩ te k => ?_, fun fp H ⟨r, pa, al, ty, e, h⟩ a ha => ?_⟩
  · subst e
    exact ⟨r, pa, al, ty, rfl, h.mono te (k _ (by simp)) (k _ (by simp)) (k _ (by simp)) (k _ (by simp)) (k _ (by simp))⟩
  · subst e
    obtain ⟨⟨jv, ps, as, ts, a1, a2, a3, a4, a5, a6, a7, a8⟩, a9, _⟩ := h
    rcases List.mem_cons.mp ha with rfl | ha
    · exact ⟨_, a1, fun _ z => by cases z⟩
    · rcases List.mem_cons.mp ha with rfl | ha
      · exact ⟨_, a9, fun _ z => by cases z⟩
      · rcases List.mem_cons.mp ha with rfl | ha
        · exact ⟨_, a2, fun _ z => by cases z⟩
        · rcases List.mem_cons.mp ha with rfl | ha
          · exact ⟨_, a3, fun _ z => by cases z⟩
          · rw [List.mem_singleton.mp ha]
            exact ⟨_, a4, fun _ z => by cases z⟩
/-- behind the heap H0 the law's pane stands at d -/
def Own (H0 H : Hp) (d : Addr) (o : Pn) : Prop := Ex H0 H ∧ H0 d = none ∧ ∃ r pa al ty : Addr, H0 r = none ∧ H0 pa = none ∧ H0 al = none ∧ H0 ty = none ∧ OwnAt H d r pa al ty o
theorem own_beh {d : Addr} {H0 H : Hp} {o : Pn} : Own H0 H d o ↔ Beh (ownA d o) H0 H := by
  constructor
  · rintro ⟨x, n, r, pa, al, ty, n1, n2, n3, n4, h⟩
    refine ⟨x, [d, r, pa, al, ty], fun a ha => ?_, r, pa, al, ty, rfl, h⟩
    rcases List.mem_cons.mp ha with rfl | ha
    · exact n
    · rcases List.mem_cons.mp ha with rfl | ha
      · exact n1
      · rcases List.mem_cons.mp ha with rfl | ha
        · exact n2
        · rcases List.mem_cons.mp ha with rfl | ha
          · exact n3
          · rw [List.mem_singleton.mp ha]
            exact n4
  · rintro ⟨x, fp, n, r, pa, al, ty, rfl, h⟩
    exact ⟨x, n _ (by simp), r, pa, al, ty, n _ (by simp), n _ (by simp), n _ (by simp), n _ (by simp), h⟩
theorem Own.ex {d : Addr} {H0 H H' : Hp} {o : Pn} (h : Own H0 H d o) (e : Ex H H') : Own H0 H' d o := own_beh.mpr ((own_beh.mp h).ex (ownT d o) e)
/-- a pane and the law's own, side by side -/
def Both (C : Addr) (Hb H : Hp) (p d : Addr) (s o : Pn) : Prop := ∃ H1, Own Hb H1 d o ∧ Pan C H1 H p s
section
variable {C : Addr} {Hb H H' : Hp} {p d : Addr} {s o : Pn}
theorem Both.ex (h : Both C Hb H p d s o) (e : Ex H H') : Both C Hb H' p d s o := by
  obtain ⟨H1, h1, h2⟩ := h
  exact ⟨H1, h1, h2.ex e⟩
theorem Both.base (h : Both C Hb H p d s o) : Ex Hb H := by
  obtain ⟨H1, h1, h2⟩ := h
  exact h1.1.trans h2.1
theorem Both.left (h : Both C Hb H p d s o) : ∃ H1, Pan C H1 H p s ∧ ∀ H' s', Pan C H1 H' p s' → Both C Hb H' p d s' o := by
  obtain ⟨H1, h1, h2⟩ := h
  exact ⟨H1, h2, fun H' s' h => ⟨H1, h1, h⟩⟩
theorem Both.right (h : Both C Hb H p d s o) : ∃ H1, Own H1 H d o ∧ ∀ H' o', Own H1 H' d o' → Both C Hb H' p d s o' := by
  obtain ⟨H1, h1, h2⟩ := h
  obtain ⟨H2, h3, h4⟩ := Beh.swap (ownT d o) (panT C p s) (own_beh.mp h1) (pan_beh.mp h2)
  refine ⟨H2, own_beh.mpr h4, fun H' o' k => ?_⟩
  obtain ⟨H3, k1, k2⟩ := Beh.swap (panT C p s) (ownT d o') h3 (own_beh.mp k)
  exact ⟨H3, own_beh.mpr k1, pan_beh.mpr k2⟩
end
theorem dg {H : Hp} {a : Addr} {kvs : List (Key × V)} {k : Key} {v : V} (e : H a = some (.dK kvs)) (h : valV kvs k = some v) : DGet H a (kV k) (some v) := by
  have := DGet.k (k := k) e
  rw [h] at this
  exact this
/-! ### the law's own pane: its beginning, a change -/
abbrev sOwn : Stmt := topS 24
theorem scOwn : FnScope [] [] (defScope sOwn) := ⟨rfl, rfl, rfl, by decide +kernel, rfl, by decide +kernel, by decide +kernel⟩
abbrev sChg : Stmt := topS 25
theorem scChg : FnScope ["_law_p", "_law_word", "_law_text"] ["_law_p", "_law_word", "_law_text"] (defScope sChg) := ⟨rfl, rfl, rfl, by decide +kernel, rfl, by decide +kernel, by decide +kernel⟩
structure TOwn (mg : Str → Option Value) : Prop where
  z_list : mg "list" = none
  z_len : mg "len" = none
  z_str : mg "str" = none
  z_int : mg "int" = none
def Pn.lchg (o : Pn) (k x : Str) : Pn := if k = "line" then Pn.chg { o with line := x } k x else Pn.chg { o with rows := if k = "clear" then [] else lst 40 (o.rows ++ [x]) } k x
section
variable {P : Program} {w : World} {K : PySem.W.Frag} {mg : Str → Option Value} {base : Heap}
def spOwn : Sp := fun vs H Q _ => vs = [] ∧ ∀ d H', Own H H' d Pn.new → Q (.ref d) H'
theorem ok_own {f : Addr} {fd : FuncData} (F : Fun K "_law_pane" "_law_pane" sOwn f fd) : FnOk P w K mg base CX0 1 f fd [] spOwn := by
  refine F.ok scOwn (fun vs H Q E h => ?_) (fun cdv A outer s H vs Q E hr h => ?_)
  · obtain ⟨rfl, _⟩ := h
    rfl
  · obtain ⟨rfl, q⟩ := h
    refine ⟨_, (pss_one (ps_ret (pe_disp (pps_cons pe_str (pe_lst pa_nil) (pps_cons pe_str pe_str (pps_cons pe_str pe_non (pps_cons pe_str (pe_lst pa_nil) (pps_cons pe_str (pe_lst (pa_cons (pe_tup (pa_cons (pe_lst pa_nil) (pa_cons pe_str pa_nil))) pa_nil)) (pps_cons pe_str (pe_lst pa_nil) pps_nil)))))) (by rfl) (by rfl) (fun z => by cases z) (by decide)))), ?_⟩
    intro d nd
    refine ⟨Nat.zero_le _, fun r nr => ⟨Nat.zero_le _, fun pa npa => ⟨Nat.zero_le _, fun e ne => ⟨(by show 2 ≤ sizeLine; decide), fun t nt => ⟨(by show 1 ≤ sizeLine; decide), fun al nal => ⟨Nat.zero_le _, fun ty nty => ?_⟩⟩⟩⟩⟩⟩
    have e0 : Ex H (upd H d (.dK [])) := Ex.new nd
    have e1 := Ex.new (o := .lst []) nr
    have e2 := Ex.new (o := .lst []) npa
    have e3 := Ex.new (o := .lst []) ne
    have e4 := Ex.new (o := .tup [.ref e, .str (Str.ofString "")]) nt
    have e5 := Ex.new (o := .lst [.ref t]) nal
    have e6 := Ex.new (o := .lst []) nty
    have hd := (e1.trans (e2.trans (e3.trans (e4.trans (e5.trans e6))))) _ _ upd_same
    have hr := (e2.trans (e3.trans (e4.trans (e5.trans e6)))) _ _ upd_same
    have hp := (e3.trans (e4.trans (e5.trans e6))) _ _ upd_same
    have ha := e6 _ _ upd_same
    have d1 : r ≠ d := (ne_of_none upd_same nr).symm
    have d2 : pa ≠ d := (ne_of_none (e1 _ _ upd_same) npa).symm
    have d3 : al ≠ d := (ne_of_none ((e1.trans (e2.trans (e3.trans e4))) _ _ upd_same) nal).symm
    have d4 : ty ≠ d := (ne_of_none ((e1.trans (e2.trans (e3.trans (e4.trans e5)))) _ _ upd_same) nty).symm
    have b1 : r ≠ pa := ne_of_none upd_same npa
    have b2 : r ≠ al := ne_of_none ((e2.trans (e3.trans e4)) _ _ upd_same) nal
    have b3 : r ≠ ty := ne_of_none ((e2.trans (e3.trans (e4.trans e5))) _ _ upd_same) nty
    have b4 : pa ≠ al := ne_of_none ((e3.trans e4) _ _ upd_same) nal
    have b5 : pa ≠ ty := ne_of_none ((e3.trans (e4.trans e5)) _ _ upd_same) nty
    have b6 : al ≠ ty := ne_of_none upd_same nty
    have n1 := ex_free e0 nr
    have n2 := ex_free (e0.trans e1) npa
    have n3 := ex_free (e0.trans (e1.trans (e2.trans (e3.trans e4)))) nal
    have n4 := ex_free (e0.trans (e1.trans (e2.trans (e3.trans (e4.trans e5))))) nty
    have xH := e0.trans (e1.trans (e2.trans (e3.trans (e4.trans (e5.trans e6)))))
    refine ⟨hd, ofs r (Str.ofString "") .non pa al ty, rfl, by show 6 ≤ 15; decide, q d _ ?_⟩
    rw [of_made]
    refine ⟨ex_set xH nd, nd, r, pa, al, ty, n1, n2, n3, n4, ⟨⟨.non, [], [.ref t], [], upd_same, ?_, ?_, ?_, rfl, trivial, trivial, Nat.le_refl 1⟩, ?_, b1, b2, b3, b4, b5, b6⟩⟩
    · rw [upd_ne d2]
      exact hp
    · rw [upd_ne d3]
      exact ha
    · rw [upd_ne d4]
      exact upd_same
    · rw [upd_ne d1]
      exact hr
def spChg : Sp := fun vs H Q _ => ∃ (H0 : Hp) (d : Addr) (o : Pn) (k x : Str), vs = [.ref d, .str k, .str x] ∧ Own H0 H d o ∧ o.log.length ≤ 10000000 ∧ o.rows.length ≤ 40 ∧ ∀ H', Own H0 H' d (o.lchg k x) → Q .non H'
theorem ok_chg {f : Addr} {fd : FuncData} (F : Fun K "_law_change" "_law_change" sChg f fd) (T : TOwn mg) : FnOk P w K mg base CX0 1 f fd ["_law_p", "_law_word", "_law_text"] spChg := by
  refine F.ok scChg (fun vs H Q E h => ?_) (fun cdv A outer s H vs Q E hr h => ?_)
  · obtain ⟨H0, d, o, k, x, rfl, _⟩ := h
    rfl
  · obtain ⟨H0, d, o, k, x, rfl, W, hl, hR, q⟩ := h
    refine ⟨_, (pss_cut (ps_if (pt_cmpR op_eq (pv 1) pe_str (nomark _)) (pss_one (ps_asg (pv 2) (pg_sub (pv 0) pe_str (set_dict (hu_of hr))))) (pss_one (ps_asg (pe_ifExp (pt_cmpR op_eq (pv 1) pe_str (nomark _)) (pe_lst pa_nil) (pe_slice sl_list (pe_op op_cat (pe_dget (hu_of hr) (pv 0) pe_str (fun _ _ => rfl)) (pe_lst (pa_cons (pv 2) pa_nil))) (po_some (pe_un un_neg pe_int)) po_none)) (pg_sub (pv 0) pe_str (set_dict (hu_of hr))))))
      (pss_cons (ps_expr (pe_bm PySem.F.plainAttrs_list PySem.F.slot_list_append PySem.F.type_list_append mt_append (pe_dget (hu_of hr) (pv 0) pe_str (fun _ _ => rfl)) (pa_cons (pe_tup (pa_cons (pv 1) (pa_cons (pv 2) pa_nil))) pa_nil)))
      (pss_one (ps_expr (pe_bm PySem.F.plainAttrs_list PySem.F.slot_list_append PySem.F.type_list_append mt_append (pe_dget (hu_of hr) (pv 0) pe_str (fun _ _ => rfl)) (pa_cons (pe_tup (pa_cons (pe_callTy call_list_of (by rfl) T.z_list boot_list (pa_cons (pe_dget (hu_of hr) (pv 0) pe_str (fun _ _ => rfl)) pa_nil)) (pa_cons (pe_dget (hu_of hr) (pv 0) pe_str (fun _ _ => rfl)) pa_nil))) pa_nil)))))), ?_⟩
    refine ⟨fun σ' H' => σ' = [some (.ref d), some (.str k), some (.str x)] ∧ ∃ o1 : Pn, o.lchg k x = o1.chg k x ∧ o1.log = o.log ∧ Own H0 H' d o1, ?_, ?_⟩
    · obtain ⟨x0, nd, r, pa, al, ty, n1, n2, n3, n4, ⟨⟨jv, ps, as, ts, a1, a2, a3, a4, a5, a6, a7, a8⟩, a9, b1, b2, b3, b4, b5, b6⟩⟩ := W
      have dr : r ≠ d := ne_of a9 a1 (by intro z; cases z)
      have dp : pa ≠ d := ne_of a2 a1 (by intro z; cases z)
      have da : al ≠ d := ne_of a3 a1 (by intro z; cases z)
      have dt : ty ≠ d := ne_of a4 a1 (by intro z; cases z)
      have tupd : ∀ kv, TupEx H (upd H d (.dK kv)) := fun kv a ys e => by
        rw [upd_ne (by rintro rfl; rw [a1] at e; cases e)]
        exact e
      refine ⟨_, rfl, rfl, _, rfl, ite2 (fun e => ?_) (fun e => ?_)⟩
      · refine ⟨_, rfl, _, rfl, d, _, rfl, DPut.k (k := .inr "line") a1 of_short, ?_⟩
        rw [op_line]
        refine ⟨rfl, { o with line := x }, if_pos (vstr.mp e), rfl, ex_set x0 nd, nd, r, pa, al, ty, n1, n2, n3, n4, ⟨⟨jv, ps, as, ts, upd_same, ?_, ?_, ?_, a5.mono (tupd _), a6.mono (tupd _), a7.mono (tupd _), a8⟩, ?_, b1, b2, b3, b4, b5, b6⟩⟩
        · rw [upd_ne dp]
          exact a2
        · rw [upd_ne da]
          exact a3
        · rw [upd_ne dt]
          exact a4
        · rw [upd_ne dr]
          exact a9
      · have e1 : ¬ k = "line" := fun z => e (vstr.mpr z)
        have fin : ∀ (H1 : Hp) (r1 : Addr) (rs : List Str), Ex H H1 → H r1 = none → H1 r1 = some (.lst (rs.map V.str)) → Own H0 (upd H1 d (.dK (ofs r1 o.line jv pa al ty))) d { o with rows := rs } := fun H1 r1 rs ex nr1 hr1 => by
          have dr1 : r1 ≠ d := ne_of hr1 (ex _ _ a1) (by intro z; cases z)
          have tup1 : ∀ kv, TupEx H (upd H1 d (.dK kv)) := fun kv a ys e => by
            rw [upd_ne (by rintro rfl; rw [a1] at e; cases e)]
            exact ex _ _ e
          refine ⟨ex_set (x0.trans ex) nd, nd, r1, pa, al, ty, ex_free x0 nr1, n2, n3, n4, ⟨⟨jv, ps, as, ts, upd_same, ?_, ?_, ?_, a5.mono (tup1 _), a6.mono (tup1 _), a7.mono (tup1 _), a8⟩, ?_, (ne_of_none a2 nr1).symm, (ne_of_none a3 nr1).symm, (ne_of_none a4 nr1).symm, b4, b5, b6⟩⟩
          · rw [upd_ne dp]
            exact ex _ _ a2
          · rw [upd_ne da]
            exact ex _ _ a3
          · rw [upd_ne dt]
            exact ex _ _ a4
          · rw [upd_ne dr1]
            exact hr1
        refine ⟨_, rfl, rfl, _, rfl, ite2 (fun e2 => ?_) (fun e2 => ?_)⟩
        · refine ⟨Nat.zero_le _, fun p np => ?_⟩
          refine ⟨_, rfl, d, _, rfl, DPut.k (k := .inr "rows") ((Ex.new np) _ _ a1) of_short, ?_⟩
          rw [op_rows]
          exact ⟨rfl, { o with rows := [] }, by unfold Pn.lchg; rw [if_neg e1, if_pos (vstr.mp e2)], rfl, fin _ p [] (Ex.new np) np upd_same⟩
        · have e3 : ¬ k = "clear" := fun z => e2 (vstr.mpr z)
          refine ⟨_, rfl, d, .ref r, rfl, dg a1 of_rows, _, rfl, (by show 1 ≤ sizeLine; decide), fun p np => ?_⟩
          have nrp : r ≠ p := ne_of_none a9 np
          refine ⟨r, p, _, _, rfl, rfl, by rw [upd_ne nrp]; exact a9, upd_same, ?_, fun p2 np2 => ?_⟩
          · rw [List.length_map]
            exact Nat.le_trans (Nat.add_le_add_right hR 1) (by decide)
          · refine ⟨_, rfl, _, rfl, p2, _, rfl, SqL.of upd_same, fun p3 np3 => ?_⟩
            have ex3 : Ex H _ := ((Ex.new np).trans (Ex.new np2)).trans (Ex.new (o := .lst (cutV (o.rows.map V.str ++ [V.str x]) (some (-40)) none)) np3)
            refine ⟨_, rfl, d, _, rfl, DPut.k (k := .inr "rows") (ex3 _ _ a1) of_short, ?_⟩
            rw [op_rows]
            refine ⟨rfl, { o with rows := lst 40 (o.rows ++ [x]) }, by unfold Pn.lchg; rw [if_neg e1, if_neg e3], rfl, fin _ p3 _ ex3 (ex_free ((Ex.new np).trans (Ex.new np2)) np3) ?_⟩
            rw [upd_same]
            show some (HO.lst (cutV _ (some (-((40 : Nat) : Int))) none)) = _
            rw [cutV_last (by decide)]
            show some (HO.lst (lst 40 (o.rows.map V.str ++ [V.str x]))) = some (HO.lst ((lst 40 (o.rows ++ [x])).map V.str))
            rw [← lst_map, List.map_append]
            rfl
    · rintro σ' H1 ⟨rfl, o1, eo, el, W⟩
      rw [← el] at hl
      obtain ⟨x0, nd, r, pa, al, ty, n1, n2, n3, n4, ⟨⟨jv, ps, as, ts, a1, a2, a3, a4, a5, a6, a7, a8⟩, a9, b1, b2, b3, b4, b5, b6⟩⟩ := W
      have dr : r ≠ d := ne_of a9 a1 (by intro z; cases z)
      have dp : pa ≠ d := ne_of a2 a1 (by intro z; cases z)
      have da : al ≠ d := ne_of a3 a1 (by intro z; cases z)
      have dt : ty ≠ d := ne_of a4 a1 (by intro z; cases z)
      have lps : ps.length ≤ 10000000 := by rw [a6.len, List.length_map]; exact hl
      refine ⟨_, rfl, d, .ref pa, rfl, dg a1 of_past, .inl ⟨rfl, _, SqL.of a2⟩, _, rfl, _, rfl, (by show 2 ≤ sizeLine; decide), fun l nl => ?_⟩
      have x1 : Ex H1 (upd H1 l (.tup [.str k, .str x])) := Ex.new nl
      have npl : pa ≠ l := ne_of_none a2 nl
      refine ⟨pa, ps, _, rfl, rfl, x1 _ _ a2, Nat.lt_of_le_of_lt lps (by decide), ?_⟩
      have k1 : ∀ a o, a ≠ pa → H1 a = some o → upd (upd H1 l (.tup [.str k, .str x])) pa (.lst (ps ++ [.ref l])) a = some o := fun a o h e => by rw [upd_ne h]; exact x1 _ _ e
      have tl : upd (upd H1 l (.tup [.str k, .str x])) pa (.lst (ps ++ [.ref l])) l = some (.tup [.str k, .str x]) := by rw [upd_ne npl.symm, upd_same]
      have tup1 : TupEx H1 (upd (upd H1 l (.tup [.str k, .str x])) pa (.lst (ps ++ [.ref l]))) := TupEx.trans (TupEx.new nl) (TupEx.lst (x1 _ _ a2))
      have p1 : upd (upd H1 l (.tup [.str k, .str x])) pa (.lst (ps ++ [.ref l])) pa = some (.lst (ps ++ [.ref l])) := upd_same
      have xx : Ex H0 (upd (upd H1 l (.tup [.str k, .str x])) pa (.lst (ps ++ [.ref l]))) := ex_set (x0.trans x1) n2
      generalize upd (upd H1 l (.tup [.str k, .str x])) pa (.lst (ps ++ [.ref l])) = H2 at k1 tl tup1 p1 xx ⊢
      refine ⟨_, rfl, d, .ref al, rfl, dg (k1 _ _ dp.symm a1) of_all, .inl ⟨rfl, _, SqL.of (k1 _ _ b4.symm a3)⟩, _, rfl, d, .ref r, rfl, dg (k1 _ _ dp.symm a1) of_rows, r, _, rfl, .inl (SqL.of (k1 _ _ b1 a9)), fun c nc => ?_⟩
      have x2 := Ex.new (o := .lst (o1.rows.map V.str)) nc
      refine ⟨_, rfl, d, .str o1.line, rfl, dg (x2 _ _ (k1 _ _ dp.symm a1)) of_line, (by show 2 ≤ sizeLine; decide), fun t nt => ?_⟩
      have x3 := x2.trans (Ex.new (o := .tup [.ref c, .str o1.line]) nt)
      refine ⟨al, as, _, rfl, rfl, x3 _ _ (k1 _ _ b4.symm a3), Nat.lt_of_le_of_lt (Nat.le_trans a8 (Nat.add_le_add_right hl 1)) (by decide), q _ ?_⟩
      rw [eo]
      have keep : ∀ a u, a ≠ al → a ≠ pa → H1 a = some u → upd (upd (upd H2 c (.lst (o1.rows.map V.str))) t (.tup [.ref c, .str o1.line])) al (.lst (as ++ [.ref t])) a = some u := fun a u h1 h2 e => by rw [upd_ne h1]; exact x3 _ _ (k1 _ _ h2 e)
      have tupA : TupEx H2 (upd (upd (upd H2 c (.lst (o1.rows.map V.str))) t (.tup [.ref c, .str o1.line])) al (.lst (as ++ [.ref t]))) := TupEx.trans (TupEx.ex x3) (TupEx.lst (x3 _ _ (k1 _ _ b4.symm a3)))
      refine ⟨ex_set (xx.trans x3) n3, nd, r, pa, al, ty, n1, n2, n3, n4, ⟨⟨jv, ps ++ [.ref l], as ++ [.ref t], ts, keep _ _ da.symm dp.symm a1, ?_, upd_same, keep _ _ b6.symm b5.symm a4, (a5.mono tup1).mono tupA, ?_, (a7.mono tup1).mono tupA, ?_⟩, keep _ _ b2 b1 a9, b1, b2, b3, b4, b5, b6⟩⟩
      · rw [upd_ne b4]
        exact x3 _ _ p1
      · show Tups _ _ ((o1.log ++ [(k, x)]).map chV)
        rw [List.map_append]
        exact Tups.snoc (tupA _ _ tl) ((a6.mono tup1).mono tupA)
      · show _ ≤ (o1.log ++ [(k, x)]).length + 1
        rw [List.length_append, List.length_append, List.length_singleton, List.length_singleton]
        exact Nat.add_le_add_right a8 1
end
end Vf
namespace Vf
open PySem PySem.Spec PyProof.Rows L2 Evl
/-! ### the law's own reading of a job's line -/
abbrev sMny : Stmt := topS 26
theorem scMny : FnScope ["_law_line", "_law_number", "_law_sign"] ["_law_line"] (defScope sMny) := ⟨rfl, rfl, rfl, by decide +kernel, rfl, by decide +kernel, by decide +kernel⟩
theorem sub_iff {z y : Str} : Builtin.Str.subAt z y 0 = true ↔ z.cps.toList.take y.length = y.cps.toList := by
  unfold Builtin.Str.subAt
  rw [beq_iff_eq]
  constructor
  · intro h
    have := congrArg Array.toList h
    simpa using this
  · intro h
    apply Array.toList_inj.mp
    simpa using h
theorem take_le {z y : Str} (h : z.cps.toList.take y.length = y.cps.toList) : y.length ≤ z.length := by
  have := congrArg List.length h
  rw [List.length_take, str_len, str_len] at this
  omega
theorem sw_iff {z y : Str} : Txt.startswith z y = true ↔ z.cps.toList.take y.length = y.cps.toList := by
  show (decide (0 + y.length ≤ z.length) && Builtin.Str.subAt z y 0) = true ↔ _
  rw [Bool.and_eq_true, sub_iff, decide_eq_true_iff]
  exact ⟨fun h => h.2, fun h => ⟨by have := take_le h; omega, h⟩⟩
theorem rp_yes {z y : Str} (h : z.cps.toList.take y.length = y.cps.toList) : rp z y = txt (z.cps.toList.drop y.length) := by
  have hl := take_le h
  unfold rp
  rw [StrLaws.removeprefix_eq, if_pos (by rw [Bool.and_eq_true, sub_iff, decide_eq_true_iff]; exact ⟨by omega, h⟩)]
  rw [List.take_of_length_le (by rw [List.length_drop, str_len]; exact Nat.le_refl _)]
  rfl
theorem rp_no {z y : Str} (h : ¬ z.cps.toList.take y.length = y.cps.toList) : rp z y = z := by
  unfold rp
  rw [StrLaws.removeprefix_eq, if_neg (by rw [Bool.and_eq_true, sub_iff]; exact fun k => h k.2)]
/-- what the law reads of the figures -/
theorem dig_all_eq {l : List Nat} : Txt.isdigit (txt l) = (decide (0 < l.length) && l.all Unicode.isDigit) := by
  show (decide ((txt l).length > 0) && (txt l).cps.all Unicode.isDigit) = _
  rw [txt_len, ← Array.all_toList, txt_cps]
def fig (c : Nat) : Bool := decide (c ∈ ("0123456789" : Str).cps.toList)
theorem fig_digit : ((List.range 128).all fun c => fig c == Unicode.isDigit c) = true := by decide +kernel
theorem fig_dig {c : Nat} (h : c < 128) : fig c = Unicode.isDigit c := eq_of_beq (List.all_eq_true.mp fig_digit c (List.mem_range.mpr h))
theorem fig_not : ((List.range 128).all fun c => fig c == (decide (48 ≤ c) && decide (c ≤ 57))) = true := by decide +kernel
theorem job_no {z : Str} (h : ¬ z.cps.toList.take 5 = ("many " : Str).cps.toList) : jobSize z = 0 := by
  unfold jobSize
  rw [if_pos (.inl (rp_no h))]
theorem job_yes {z : Str} (h : z.cps.toList.take 5 = ("many " : Str).cps.toList) : jobSize z = (if Txt.isdigit (txt (z.cps.toList.drop 5)) = false then 0 else if (z.cps.toList.drop 5).head? = some 48 ∨ 2 < (z.cps.toList.drop 5).length then 0 else (figV (txt (z.cps.toList.drop 5)) : Int)) := by
  have e : rp z "many " = txt (z.cps.toList.drop 5) := rp_yes h
  have hl : 5 ≤ z.length := take_le (y := "many ") h
  have ne : ¬ txt (z.cps.toList.drop 5) = z := fun k => by
    have := congrArg Str.length k
    rw [txt_len, List.length_drop, str_len] at this
    omega
  unfold jobSize
  rw [e]
  by_cases h1 : Txt.isdigit (txt (z.cps.toList.drop 5)) = false
  · rw [if_pos (.inr h1), if_pos h1]
  · rw [if_neg (fun k => k.elim ne h1), if_neg h1]
    have e2 : Txt.startswith (txt (z.cps.toList.drop 5)) "0" = true ↔ (z.cps.toList.drop 5).head? = some 48 := by
      rw [sw_iff, txt_cps]
      show List.take 1 _ = [48] ↔ _
      cases z.cps.toList.drop 5 with
      | nil => simp
      | cons a r => simp
    by_cases h2 : (z.cps.toList.drop 5).head? = some 48 ∨ 2 < (z.cps.toList.drop 5).length
    · rw [if_pos h2, if_pos (by rw [e2, txt_len]; exact h2)]
    · rw [if_neg h2, if_neg (by rw [e2, txt_len]; exact h2)]
theorem two_figs : ((List.range 10).all fun a => TL.numL a == [48 + a]) = true ∧ ((List.range 10).all fun a => (List.range 10).all fun b => (TL.numL (10 * a + b) == [48 + a, 48 + b]) == !(a == 0)) = true := by decide +kernel
theorem eqv_strs0 (ss : List Str) : PyData.eqv (.list (ss.map PyData.str)) (.list []) = decide (ss = []) := by
  cases ss with
  | nil => rfl
  | cons n r => rfl
/-- of one or two figures: written so, but for a needless 0 -/
theorem figs_back {l : List Nat} (h : NumText.AllDigits l) (h1 : 0 < l.length) (h2 : l.length ≤ 2) : (txt (TL.numL (NumText.digitsVal l)) = txt l ∧ (l.head? = some 48 → NumText.digitsVal l = 0)) ∨ (¬ txt (TL.numL (NumText.digitsVal l)) = txt l ∧ l.head? = some 48) := by
  have inj : ∀ a b : List Nat, txt a = txt b → a = b := fun a b e => by rw [← txt_cps a, e, txt_cps]
  match l, h1, h2 with
  | [a], _, _ =>
    have ha := h a (by simp)
    have e : NumText.digitsVal [a] = a - 48 := by show 0 * 10 + (a - 48) = _; omega
    have q := eq_of_beq (List.all_eq_true.mp two_figs.1 (a - 48) (List.mem_range.mpr (by omega)))
    refine .inl ⟨by rw [e, q, show 48 + (a - 48) = a by omega], fun k => ?_⟩
    have : a = 48 := by simpa using k
    rw [e, this]
  | [a, b], _, _ =>
    have ha := h a (by simp)
    have hb := h b (by simp)
    have e : NumText.digitsVal [a, b] = 10 * (a - 48) + (b - 48) := by show (0 * 10 + (a - 48)) * 10 + (b - 48) = _; omega
    have q := List.all_eq_true.mp (List.all_eq_true.mp two_figs.2 (a - 48) (List.mem_range.mpr (by omega))) (b - 48) (List.mem_range.mpr (by omega))
    rw [show 48 + (a - 48) = a by omega, show 48 + (b - 48) = b by omega] at q
    have q := eq_of_beq q
    rw [e]
    by_cases h0 : a = 48
    · refine .inr ⟨fun k => ?_, by rw [h0]; rfl⟩
      have := inj _ _ k
      rw [this, h0] at q
      simp at q
    · refine .inl ⟨?_, fun k => absurd (by simpa using k) h0⟩
      have h1 : (a - 48 == 0) = false := by simp; omega
      rw [h1] at q
      rw [eq_of_beq (show (TL.numL (10 * (a - 48) + (b - 48)) == [a, b]) = true from q)]
theorem goodS {ss : List Str} (hl : ss.length ≤ 16777216) (h : ∀ z ∈ ss, Asc z) : good 1 (.list (ss.map PyData.str)) = true := by
  show (decide ((ss.map PyData.str).length ≤ 16777216) && (ss.map PyData.str).all (good 0)) = true
  rw [List.length_map, decide_eq_true hl, Bool.true_and, List.all_eq_true]
  intro d hd
  obtain ⟨z, hz, rfl⟩ := List.mem_map.mp hd
  exact lay_str (h z hz)
section
variable {P : Program} {w : World} {K : PySem.W.Frag} {mg : Str → Option Value} {base : Heap}
def spMny : Sp := fun vs H Q _ => ∃ z : Str, vs = [.str z] ∧ Asc z ∧ z.length ≤ 100 ∧ ∀ H', Ex H H' → Q (.int (jobSize z)) H'
theorem ok_mny {f : Addr} {fd : FuncData} (F : Fun K "_law_many" "_law_many" sMny f fd) (T : TOwn mg) : FnOk P w K mg base CX0 1 f fd ["_law_line"] spMny := by
  refine F.ok scMny (fun vs H Q E h => ?_) (fun cdv A outer s H vs Q E hr h => ?_)
  · obtain ⟨z, rfl, _⟩ := h
    rfl
  · obtain ⟨z, rfl, ha, hz, q⟩ := h
    refine ⟨_, (pss_cons (ps_if (PW.pt (pw_or (pt_cmpR op_ne (pe_slice sl_str (pv 0) po_none (po_some pe_int)) pe_str (nomark _)) (pw_or (pt_cmpR op_ne (pe_m1 PySem.F.slot_str_count PySem.F.type_str_count mt_count (pv 0) pe_str) pe_int (nomark _)) (pw_or1 (pt_not (pt_chain op_le op_le pe_int (pe_callB call_len_str (by rfl) T.z_len PySem.boot_len (pa_cons (pv 0) pa_nil)) pe_int)))))) (pss_one (ps_ret pe_int)) pss_nil)
      (pss_cons (ps_set (i := 1) scMny.nd rfl (Or.inl rfl) (pe_slice sl_str (pv 0) (po_some pe_int) po_none))
      (pss_cons (ps_if (PW.pt (pw_or (pt_cmpR (op_neD hr.units) (pe_lc (own := [("_law_sign", 2)]) (g := gName 2) rfl scMny.nd (pi_str (pv 1)) (blkOk_by (own := [("_law_sign", 2)]) (N := ["_law_line", "_law_number", "_law_sign"]) (sc := defScope sMny) (by decide +kernel)) (fun _ _ _ _ _ => pg_name (i := 2) scMny.nd rfl (Or.inl rfl)) (fun _ _ _ _ _ => pts_one (pt_cmpR op_notIn_sign (pv 2) pe_str rfl)) (fun _ _ _ _ _ => (pv 2))) (pe_lst pa_nil) (nomark _)) (pw_or1 (pt_cmpR op_ne (pe_callTy call_str_int (by rfl) T.z_str boot_str (pa_cons (pe_callTy call_int_str (by rfl) T.z_int boot_int (pa_cons (pv 1) pa_nil)) pa_nil)) (pv 1) (nomark _))))) (pss_one (ps_ret pe_int)) pss_nil)
      (pss_one (ps_ret (pe_callTy call_int_str (by rfl) T.z_int boot_int (pa_cons (pv 1) pa_nil))))))), ?_⟩
    have big : z.length ≤ sizeLine := Nat.le_trans hz (by decide)
    have q0 : ∀ H', Ex H H' → jobSize z = 0 → Q (.int 0) H' := fun H' x e => by rw [← e]; exact q H' x
    refine ⟨_, rfl, _, rfl, z, rfl, big, rfl, _, rfl, ite2 (fun e => ite2 (fun _ => ?_) (fun z => absurd rfl z)) (fun e => ?_)⟩
    · refine q0 H (Ex.refl H) (job_no fun k => ?_)
      rw [show (5 : Int) = ((5 : Nat) : Int) from rfl, cutS_first, k] at e
      exact absurd e (by decide +kernel)
    · have hp : z.cps.toList.take 5 = ("many " : Str).cps.toList := by
        have e := vne.mp (Bool.eq_false_iff.mpr e)
        rw [show (5 : Int) = ((5 : Nat) : Int) from rfl, cutS_first] at e
        have := congrArg (fun y : Str => y.cps.toList) e
        simpa using this
      have hj := job_yes hp
      have hzl : z.cps.toList = ("many " : Str).cps.toList ++ z.cps.toList.drop 5 := by rw [← hp, List.take_append_drop]
      have hlen : z.length = 5 + (z.cps.toList.drop 5).length := by
        rw [List.length_drop, str_len]
        have := take_le (z := z) (y := "many ") hp
        have d : (Str.ofString "many ").length = 5 := rfl
        omega
      have hasc : ∀ c ∈ z.cps.toList.drop 5, c < 128 := fun c hc => ha c (List.mem_of_mem_drop hc)
      refine ⟨_, rfl, ⟨_, rfl⟩, _, _, rfl, rfl, rfl, _, rfl, ite2 (fun e2 => ite2 (fun _ => ?_) (fun z => absurd rfl z)) (fun e2 => ?_)⟩
      · refine q0 H (Ex.refl H) ?_
        rw [hj, if_pos]
        rw [dig_all_eq, Bool.and_eq_false_iff]
        right
        rw [List.all_eq_false]
        refine ⟨32, ?_, by decide +kernel⟩
        have e2 : ¬ Txt.count z " " = 1 := fun k => by
          rw [k, decide_eq_true rfl] at e2
          cases e2
        have ec : Txt.count z " " = ((z.cps.toList.count 32 : Nat) : Int) := count_sg z 32
        rw [ec, hzl, List.count_append, show (("many " : Str).cps.toList.count 32) = 1 by decide +kernel] at e2
        exact List.count_pos_iff.mp (by omega)
      · refine ⟨_, rfl, z, rfl, big, _, _, rfl, rfl, _, rfl, ite2 (fun e3 => ⟨_, _, rfl, rfl, _, rfl, ite2 (fun e4 => ?_) (fun e4 => ?_)⟩) (fun e3 => ⟨_, rfl, ite2 (fun _ => ?_) (fun z => absurd rfl z)⟩)⟩
        · refine q0 H (Ex.refl H) ?_
          have e4 : ¬ (z.length : Int) ≤ 7 := fun k => by
            rw [decide_eq_true k] at e4
            cases e4
          rw [hj]
          split
          · rfl
          · rw [if_pos (.inr (by omega))]
        · have e3 := of_decide_eq_true e3
          have e4 : (z.length : Int) ≤ 7 := by
            cases h : decide ((z.length : Int) ≤ 7) with
            | true => exact of_decide_eq_true h
            | false => rw [h] at e4; exact absurd rfl e4
          have ecut : cutS z (some 5) none = txt (z.cps.toList.drop 5) := cutS_rest (w := 5)
          refine ⟨_, rfl, _, rfl, z, rfl, big, ?_⟩
          rw [ecut]
          have l1 : 0 < (z.cps.toList.drop 5).length := by omega
          have l2 : (z.cps.toList.drop 5).length ≤ 2 := by omega
          generalize z.cps.toList.drop 5 = f at hj hasc l1 l2 ⊢
          clear hzl hlen hp ecut e e2
          refine ⟨_, rfl, txt f, rfl, fun D hD => ?_⟩
          refine lc_it walk_str (fun i H' => Ex H H' ∧ H' D = some (.lst ((((f.take i).filter fun c => !fig c).map sg).map V.str))) ⟨Ex.new hD, upd_same⟩ (fun _ _ _ _ => trivial) ?_ ?_
          · rintro j x H2 H3 hj2 ⟨e, hp⟩ ⟨rfl, cc, hcc, rfl⟩
            have hc : f[j]? = some cc := by
              have : (txt f).cps[j]? = some cc := hcc
              rw [← Array.getElem?_toList, txt_cps] at this
              exact this
            have et : (f.take (j + 1)).filter (fun c => !fig c) = (f.take j).filter (fun c => !fig c) ++ (if (!fig cc) = true then [cc] else []) := by
              rw [List.take_add_one, hc, List.filter_append]
              congr 1
              show List.filter _ [cc] = _
              rw [List.filter_cons, List.filter_nil]
            rw [et]
            refine ⟨rfl, _, rfl, cc, _, rfl, rfl, _, rfl, ite2 (fun h => ?_) (fun h => ?_)⟩
            · have h : (!fig cc) = true := h
              rw [if_pos h]
              refine ⟨_, rfl, _, hp, ?_, ex_set e hD, ?_⟩
              · rw [List.length_map, List.length_map]
                refine Nat.lt_of_le_of_lt (Nat.le_trans (List.length_filter_le _ _) ?_) (show 10 < sizeLine by decide)
                rw [List.length_take]
                omega
              · rw [upd_same, List.map_append, List.map_append]
                rfl
            · have h : ¬ (!fig cc) = true := h
              rw [if_neg h, List.append_nil]
              exact ⟨e, hp⟩
          · rintro H2 ⟨x2, hp⟩
            have ef : f.take (txt f).cps.size = f := List.take_of_length_le (by show _ ≤ (txt f).length; rw [txt_len]; exact Nat.le_refl _)
            rw [ef] at hp
            have lnd : (f.filter fun c => !fig c).length ≤ 2 := Nat.le_trans (List.length_filter_le _ _) l2
            refine ⟨Nat.zero_le _, fun p np => ?_⟩
            have xp : Ex H (upd H2 p (.lst [])) := x2.trans (Ex.new np)
            have g1 : good 1 (.list (((f.filter fun c => !fig c).map sg).map PyData.str)) = true := goodS (by rw [List.length_map]; omega) fun y hy => by
              obtain ⟨c, hc, rfl⟩ := List.mem_map.mp hy
              exact asc_sg (hasc c (List.mem_filter.mp hc).1)
            refine ⟨_, .list [], .lst (SqL.of ((Ex.new np) _ _ hp)) (dp_strs _), .lst (SqL.of upd_same) .nil, sh_of' g1 (by decide), rfl, _, rfl, ?_⟩
            rw [eqv_strs0]
            refine ite2 (fun h => ite2 (fun _ => ?_) (fun z => absurd rfl z)) (fun h => ?_)
            · refine q0 _ xp ?_
              rw [hj, if_pos]
              rw [dig_all_eq, Bool.and_eq_false_iff]
              right
              rw [List.all_eq_false]
              have hne : (f.filter fun c => !fig c) ≠ [] := fun k => by
                rw [k, show ((([] : List Nat).map sg) = []) from rfl, decide_eq_true rfl] at h
                cases h
              obtain ⟨c, hc⟩ := List.exists_mem_of_ne_nil _ hne
              have hc2 := List.mem_filter.mp hc
              refine ⟨c, hc2.1, ?_⟩
              rw [← fig_dig (hasc c hc2.1)]
              simpa using hc2.2
            · have hnil : (f.filter fun c => !fig c) = [] := by
                have h : decide ((f.filter fun c => !fig c).map sg = []) = true := by
                  cases hh : decide ((f.filter fun c => !fig c).map sg = []) with
                  | true => rfl
                  | false => rw [hh] at h; exact absurd rfl h
                exact List.map_eq_nil_iff.mp (of_decide_eq_true h)
              have hfig : ∀ c ∈ f, fig c = true := fun c hc => by
                have := List.filter_eq_nil_iff.mp hnil c hc
                simpa using this
              have hdig : NumText.AllDigits f := fun c hc => by
                have q := eq_of_beq (List.all_eq_true.mp fig_not c (List.mem_range.mpr (hasc c hc)))
                rw [hfig c hc] at q
                simpa using q.symm
              have hdig2 : Txt.isdigit (txt f) = true := by
                rw [dig_all_eq, decide_eq_true l1, Bool.true_and, List.all_eq_true]
                exact fun c hc => by rw [← fig_dig (hasc c hc)]; exact hfig c hc
              have hj2 : jobSize z = if f.head? = some 48 ∨ 2 < f.length then 0 else (figV (txt f) : Int) := by rw [hj, if_neg (by rw [hdig2]; exact fun u => by cases u)]
              have d1 : NumText.AllDigits (txt f).cps.toList := by rw [txt_cps]; exact hdig
              have d2 : (txt f).cps.toList ≠ [] := by rw [txt_cps]; intro k; rw [k] at l1; cases l1
              have lf : (txt f).length ≤ 2 := by rw [txt_len]; exact l2
              have hv := fig_lt d1 lf
              have ev : NumText.digitsVal (txt f).cps.toList = figV (txt f) := rfl
              have hint := PySem.intText_digits d1 d2 (Nat.le_trans lf (by decide))
              refine ⟨_, rfl, _, _, rfl, hint, Nat.le_trans lf (by decide), _, rfl, log2s (by omega) (by rw [ev]; omega), _, rfl, rfl, _, rfl, ite2 (fun h => ?_) (fun h => ?_)⟩
              · refine q0 _ xp ?_
                rcases figs_back hdig l1 l2 with ⟨k, _⟩ | ⟨_, k⟩
                · rw [num_txt, txt_cps, vne.mpr k] at h
                  cases h
                · rw [hj2, if_pos (.inl k)]
              · have h := vne.mp (Bool.eq_false_iff.mpr h)
                rw [num_txt, txt_cps] at h
                refine ⟨_, rfl, _, _, rfl, hint, Nat.le_trans lf (by decide), ?_⟩
                have ej : jobSize z = ((NumText.digitsVal (txt f).cps.toList : Nat) : Int) := by
                  rw [hj2]
                  by_cases k : f.head? = some 48
                  · rw [if_pos (.inl k)]
                    rcases figs_back hdig l1 l2 with ⟨_, k2⟩ | ⟨k2, _⟩
                    · rw [txt_cps, k2 k]
                      rfl
                    · exact absurd h k2
                  · rw [if_neg (fun u => u.elim k (by omega))]
                    rfl
                rw [← ej]
                exact q _ xp
        · refine q0 H (Ex.refl H) ?_
          have e3 : ¬ (6 : Int) ≤ (z.length : Int) := fun k => e3 (decide_eq_true k)
          rw [hj, if_pos]
          rw [dig_all_eq, decide_eq_false (by omega)]
          rfl
end
end Vf
namespace Vf
open PySem PySem.Spec PyProof.Rows L2 Evl
/-! ### the law's own typing and beats: the mathematics -/
abbrev sTyp : Stmt := topS 27
theorem scTyp : FnScope ["_law_p", "_law_look", "_law_session", "_law_sign", "_law_line"] ["_law_p", "_law_look", "_law_session", "_law_sign"] (defScope sTyp) := ⟨rfl, rfl, rfl, by decide +kernel, rfl, by decide +kernel, by decide +kernel⟩
abbrev sBea : Stmt := topS 28
theorem scBea : FnScope ["_law_p", "_law_told", "_law_many_here"] ["_law_p"] (defScope sBea) := ⟨rfl, rfl, rfl, by decide +kernel, rfl, by decide +kernel, by decide +kernel⟩
def Pn.press1 (s : Pn) (c : Nat) : Pn :=
  if sg c = ";" then s.doLine
  else if sg c = "<" then s.setLine (cutS s.line none (some (-1)))
  else if s.line.length < 30 then s.setLine (s.line ++ sg c)
  else s
theorem press_is {s : Pn} {x y : V} {c : Nat} : s.press x y c = Pn.press1 (typ s (lst 100 (s.typed ++ [[x, y, .str (sg c)]]))) c := rfl
theorem press1_typ {s : Pn} {T : List (List V)} {c : Nat} : (typ s T).press1 c = typ (s.press1 c) T := by
  unfold Pn.press1
  show (if sg c = ";" then (typ s T).doLine else if sg c = "<" then (typ s T).setLine (cutS s.line none (some (-1))) else if s.line.length < 30 then (typ s T).setLine (s.line ++ sg c) else typ s T) = _
  rw [doLine_typ, setLine_typ, setLine_typ]
  repeat' split
  all_goals rfl
def Pn.lawDo (s : Pn) : Pn :=
  if s.line = "clear" then s.said.clr
  else if s.line = "stop" ∧ s.said.job ≠ none then { s.said with job := none }
  else if 0 < jobSize s.line then { s.said with job := some (0, jobSize s.line) }
  else if ¬ s.line = "" then s.said.addRow (if cutS s.line none (some 4) = "say " then cutS s.line (some 4) none else "? " ++ s.line)
  else s.said
theorem cut4 (z : Str) : cutS z none (some 4) = txt (z.cps.toList.take 4) := cutS_first (w := 4)
theorem cut4r (z : Str) : cutS z (some 4) none = txt (z.cps.toList.drop 4) := cutS_rest (w := 4)
theorem txt_inj {a : List Nat} {z : Str} : txt a = z ↔ a = z.cps.toList := by
  constructor
  · intro h
    rw [← h, txt_cps]
  · intro h
    rw [h, txt_of]
theorem say_iff {z : Str} : cutS z none (some 4) = "say " ↔ Txt.startswith z "say " = true := by
  rw [cut4, sw_iff, txt_inj]
  rfl
theorem lawDo_eq (s : Pn) : s.lawDo = s.doLine := by
  unfold Pn.lawDo Pn.doLine
  by_cases h : Txt.startswith s.line "say " = true
  · have h4 : s.line.cps.toList.take 4 = ("say " : Str).cps.toList := sw_iff.mp h
    have n1 : ¬ s.line = "clear" := fun k => by rw [k] at h4; exact absurd h4 (by decide +kernel)
    have n2 : ¬ (s.line = "stop" ∧ s.said.job ≠ none) := fun k => by rw [k.1] at h4; exact absurd h4 (by decide +kernel)
    have n3 : ¬ 0 < jobSize s.line := by
      rw [job_no fun k => ?_]
      · decide
      · have : (s.line.cps.toList.take 5).take 4 = ("many " : Str).cps.toList.take 4 := by rw [k]
        rw [List.take_take, show min 4 5 = 4 from rfl, h4] at this
        exact absurd this (by decide +kernel)
    have n4 : ¬ s.line = "" := fun k => by rw [k] at h4; exact absurd h4 (by decide +kernel)
    rw [if_neg n1, if_neg n2, if_neg n3, if_pos n4, if_pos h, if_pos (say_iff.mpr h), cut4r]
    rw [show rp s.line "say " = txt (s.line.cps.toList.drop 4) from rp_yes h4]
  · rw [if_neg h, if_neg (fun k => h (say_iff.mp k))]
theorem cut_same {z : Str} : cutS z none (some (-1)) = z ↔ z = "" := by
  rw [cutS_butlast, txt_inj]
  constructor
  · intro h
    have := congrArg List.length h
    rw [List.length_dropLast, str_len] at this
    have h0 : z.cps.toList = [] := List.length_eq_zero_iff.mp (by rw [str_len]; omega)
    rw [← txt_of z, h0]
    rfl
  · intro h
    subst h
    rfl
theorem app_ne {z : Str} {c : Nat} : ¬ z ++ sg c = z := fun k => by
  have := congrArg Str.length k
  rw [Str.length_append] at this
  have d : (sg c).length = 1 := rfl
  omega
theorem lrow {o : Pn} {x : Str} : o.lchg "row" x = o.addRow x := by
  unfold Pn.lchg
  rw [if_neg kinds.1, if_neg kinds.2.1]
  rfl
theorem lclr {o : Pn} : o.lchg "clear" "" = o.clr := by
  unfold Pn.lchg
  rw [if_neg kinds.2.2, if_pos rfl]
  rfl
theorem lline {o : Pn} {x : Str} (h : ¬ x = o.line) : o.lchg "line" x = o.setLine x := by
  unfold Pn.lchg Pn.setLine
  rw [if_pos rfl, if_neg h]
theorem Own.at {H0 H : Hp} {d : Addr} {o : Pn} (h : Own H0 H d o) : ∃ r pa al ty jv, H d = some (.dK (ofs r o.line jv pa al ty)) ∧ JobAt H jv o.job := by
  obtain ⟨x, n, r, pa, al, ty, n1, n2, n3, n4, ⟨⟨jv, ps, as, ts, a1, a2, a3, a4, a5, a6, a7, a8⟩, a9, b1, b2, b3, b4, b5, b6⟩⟩ := h
  exact ⟨r, pa, al, ty, jv, a1, a5⟩
theorem Own.setJob {H0 H : Hp} {d r pa al ty : Addr} {o : Pn} {jv jv' : V} {line : Str} {j : Option (Int × Int)} (h : Own H0 H d o) (e : H d = some (.dK (ofs r line jv pa al ty))) (k : JobAt H jv' j) :
    Own H0 (upd H d (.dK (ofs r line jv' pa al ty))) d { o with job := j } := by
  obtain ⟨x, n, r1, pa1, al1, ty1, n1, n2, n3, n4, ⟨⟨jv1, ps, as, ts, a1, a2, a3, a4, a5, a6, a7, a8⟩, a9, b1, b2, b3, b4, b5, b6⟩⟩ := h
  rw [a1] at e
  have e := HO.dK.inj (Option.some.inj e)
  unfold ofs at e
  injection e with e1 e
  injection e with e2 e
  injection e with e3 e
  injection e with e4 e
  injection e with e5 e
  injection e with e6 e
  have e1 := V.ref.inj (Prod.mk.inj e1).2
  have e2 := V.str.inj (Prod.mk.inj e2).2
  have e4 := V.ref.inj (Prod.mk.inj e4).2
  have e5 := V.ref.inj (Prod.mk.inj e5).2
  have e6 := V.ref.inj (Prod.mk.inj e6).2
  subst e1 e2 e4 e5 e6
  have dr : r1 ≠ d := ne_of a9 a1 (by intro z; cases z)
  have dp : pa1 ≠ d := ne_of a2 a1 (by intro z; cases z)
  have da : al1 ≠ d := ne_of a3 a1 (by intro z; cases z)
  have dt : ty1 ≠ d := ne_of a4 a1 (by intro z; cases z)
  have tupd : ∀ kv, TupEx H (upd H d (.dK kv)) := fun kv a ys e => by
    rw [upd_ne (by rintro rfl; rw [a1] at e; cases e)]
    exact e
  exact ⟨ex_set x n, n, r1, pa1, al1, ty1, n1, n2, n3, n4, ⟨⟨jv', ps, as, ts, upd_same, by rw [upd_ne dp]; exact a2, by rw [upd_ne da]; exact a3, by rw [upd_ne dt]; exact a4, k.mono (tupd _), a6.mono (tupd _), a7.mono (tupd _), a8⟩, by rw [upd_ne dr]; exact a9, b1, b2, b3, b4, b5, b6⟩⟩
section
variable {P : Program} {w : World} {K : PySem.W.Frag} {mg : Str → Option Value} {base : Heap}
structure CTyp (P : Program) (w : World) (K : PySem.W.Frag) (mg : Str → Option Value) (base : Heap) : Prop where
  law_change : Cal P w K mg base "_law_change" 1 ["_law_p", "_law_word", "_law_text"] spChg
  law_many : Cal P w K mg base "_law_many" 1 ["_law_line"] spMny
def spTyp : Sp := fun vs H Q _ => ∃ (H0 : Hp) (d : Addr) (o : Pn) (v w : V) (c : Nat), vs = [.ref d, v, w, .str (sg c)] ∧ Own H0 H d o ∧ o.rows.length ≤ 40 ∧ Asc o.line ∧ o.line.length ≤ 30 ∧ o.log.length ≤ 9000000 ∧ o.typed.length ≤ 9000000 ∧
  ∀ H', Own H0 H' d (typ (o.press1 c) (o.typed ++ [[v, w, .str (sg c)]])) → Q .non H'
theorem said_len {s : Pn} : s.said.log.length ≤ s.log.length + 2 := by
  unfold Pn.said Pn.setLine
  split
  · show (s.log ++ [_]).length ≤ _
    rw [List.length_append]
    exact Nat.le_succ _
  · show ((s.log ++ [_]) ++ [_]).length ≤ _
    rw [List.length_append, List.length_append]
    exact Nat.le_refl _
theorem ok_typ {f : Addr} {fd : FuncData} (F : Fun K "_law_type" "_law_type" sTyp f fd) (T : TOwn mg) (C : CTyp P w K mg base) : FnOk P w K mg base CX0 2 f fd ["_law_p", "_law_look", "_law_session", "_law_sign"] spTyp := by
  refine F.ok scTyp (fun vs H Q E h => ?_) (fun cdv A outer s H vs Q E hr h => ?_)
  · obtain ⟨H0, d, o, v, w, c, rfl, _⟩ := h
    rfl
  · obtain ⟨H0, d, o, v, w, c, rfl, W, hR, ha, hl, hL, hT, q⟩ := h
    refine ⟨_, (pss_cons (ps_expr (pe_bm PySem.F.plainAttrs_list PySem.F.slot_list_append PySem.F.type_list_append mt_append (pe_dget (hu_of hr) (pv 0) pe_str (fun _ _ => rfl)) (pa_cons (pe_tup (pa_cons (pv 1) (pa_cons (pv 2) (pa_cons (pv 3) pa_nil)))) pa_nil)))
      (pss_cons (ps_set (i := 4) scTyp.nd rfl (Or.inl rfl) (pe_dget (hu_of hr) (pv 0) pe_str (fun _ _ => rfl)))
      (pss_cut (ps_if (PW.pt (pw_and (pt_cmpR op_eq (pv 3) pe_str (nomark _)) (pw_and1 (pt_cmpR op_ne (pv 4) pe_str (nomark _))))) (pss_one (ps_expr (pcall C.law_change (hr.mono (by first | decide | omega)) (pa_cons (pv 0) (pa_cons pe_str (pa_cons (pe_slice sl_str (pv 4) po_none (po_some (pe_un un_neg pe_int))) pa_nil)))))) pss_nil)
      (pss_cut (ps_if (PW.pt (pw_and (pt_cmpR op_notIn_sign (pv 3) pe_str rfl) (pw_and1 (pt_cmpR op_lt (pe_callB call_len_str (by rfl) T.z_len PySem.boot_len (pa_cons (pv 4) pa_nil)) pe_int (nomark _))))) (pss_one (ps_expr (pcall C.law_change (hr.mono (by first | decide | omega)) (pa_cons (pv 0) (pa_cons pe_str (pa_cons (pe_op op_add_str (pv 4) (pv 3)) pa_nil)))))) pss_nil)
      (pss_one (ps_if (pt_cmpR op_eq (pv 3) pe_str (nomark _)) (pss_cons (ps_expr (pcall C.law_change (hr.mono (by first | decide | omega)) (pa_cons (pv 0) (pa_cons pe_str (pa_cons (pe_op op_add_str pe_str (pv 4)) pa_nil)))))
      (pss_cut (ps_if (pt_cmpR op_ne (pv 4) pe_str (nomark _)) (pss_one (ps_expr (pcall C.law_change (hr.mono (by first | decide | omega)) (pa_cons (pv 0) (pa_cons pe_str (pa_cons pe_str pa_nil)))))) pss_nil)
      (pss_one (ps_if (pt_cmpR op_eq (pv 4) pe_str (nomark _)) (pss_one (ps_expr (pcall C.law_change (hr.mono (by first | decide | omega)) (pa_cons (pv 0) (pa_cons pe_str (pa_cons pe_str pa_nil)))))) (pss_one (ps_if (PW.pt (pw_and (pt_cmpR op_eq (pv 4) pe_str (nomark _)) (pw_and1 (pt_cmpR op_notN (pe_dget (hu_of hr) (pv 0) pe_str (fun _ _ => rfl)) pe_non (nomark _))))) (pss_one (ps_asg pe_non (pg_sub (pv 0) pe_str (set_dict (hu_of hr))))) (pss_one (ps_if (pt_cmpR op_gt (pcall C.law_many (hr.mono (by first | decide | omega)) (pa_cons (pv 4) pa_nil)) pe_int (nomark _)) (pss_one (ps_asg (pe_tup (pa_cons pe_int (pa_cons (pcall C.law_many (hr.mono (by first | decide | omega)) (pa_cons (pv 4) pa_nil)) pa_nil))) (pg_sub (pv 0) pe_str (set_dict (hu_of hr))))) (pss_one (ps_if (pt_cmpR op_ne (pv 4) pe_str (nomark _)) (pss_one (ps_expr (pcall C.law_change (hr.mono (by first | decide | omega)) (pa_cons (pv 0) (pa_cons pe_str (pa_cons (pe_ifExp (pt_cmpR op_eq (pe_slice sl_str (pv 4) po_none (po_some pe_int)) pe_str (nomark _)) (pe_slice sl_str (pv 4) (po_some pe_int) po_none) (pe_op op_add_str pe_str (pv 4))) pa_nil)))))) pss_nil)))))))))) pss_nil)))))), ?_⟩
    have big : ∀ n : Nat, n ≤ 1000000 → n ≤ sizeLine := fun n h => Nat.le_trans h (by decide)
    obtain ⟨x0, nd, r, pa, al, ty, n1, n2, n3, n4, ⟨⟨jv, ps, as, ts, a1, a2, a3, a4, a5, a6, a7, a8⟩, a9, b1, b2, b3, b4, b5, b6⟩⟩ := W
    have dt : ty ≠ d := ne_of a4 a1 (by intro z; cases z)
    refine ⟨_, rfl, d, .ref ty, rfl, dg a1 of_typed, .inl ⟨rfl, _, SqL.of a4⟩, _, rfl, _, rfl, _, rfl, (by show 3 ≤ sizeLine; decide), fun l nl => ?_⟩
    have x1 : Ex H (upd H l (.tup [v, w, .str (sg c)])) := Ex.new nl
    refine ⟨ty, ts, _, rfl, rfl, x1 _ _ a4, Nat.lt_of_le_of_lt (by rw [a7.len]; exact hT) (show 9000000 < sizeLine by decide), ?_⟩
    have tup1 : TupEx H (upd (upd H l (.tup [v, w, .str (sg c)])) ty (.lst (ts ++ [.ref l]))) := TupEx.trans (TupEx.new nl) (TupEx.lst (x1 _ _ a4))
    have k1 : ∀ a o, a ≠ ty → H a = some o → upd (upd H l (.tup [v, w, .str (sg c)])) ty (.lst (ts ++ [.ref l])) a = some o := fun a o h e => by rw [upd_ne h]; exact x1 _ _ e
    have W1 : Own H0 (upd (upd H l (.tup [v, w, .str (sg c)])) ty (.lst (ts ++ [.ref l]))) d (typ o (o.typed ++ [[v, w, .str (sg c)]])) := by
      refine ⟨ex_set (x0.trans x1) n4, nd, r, pa, al, ty, n1, n2, n3, n4, ⟨⟨jv, ps, as, _, k1 _ _ dt.symm a1, k1 _ _ b5 a2, k1 _ _ b6 a3, upd_same, a5.mono tup1, a6.mono tup1, Tups.snoc ?_ (a7.mono tup1), a8⟩, k1 _ _ b3 a9, b1, b2, b3, b4, b5, b6⟩⟩
      rw [upd_ne (ne_of_none a4 nl).symm, upd_same]
    have q : ∀ H', Own H0 H' d ((typ o (o.typed ++ [[v, w, .str (sg c)]])).press1 c) → Q .non H' := fun H' h => q H' (by rw [← press1_typ]; exact h)
    have eL : (typ o (o.typed ++ [[v, w, .str (sg c)]])).line = o.line := rfl
    have eR : (typ o (o.typed ++ [[v, w, .str (sg c)]])).rows = o.rows := rfl
    have eG : (typ o (o.typed ++ [[v, w, .str (sg c)]])).log = o.log := rfl
    generalize typ o (o.typed ++ [[v, w, .str (sg c)]]) = t at W1 q eL eR eG
    generalize upd (upd H l (.tup [v, w, .str (sg c)])) ty (.lst (ts ++ [.ref l])) = H1 at W1 ⊢
    rw [← eR] at hR
    rw [← eL] at ha hl
    rw [← eG] at hL
    clear k1 tup1 x1 nl a9 a8 a7 a6 a5 a4 a3 a2 a1 dt hT x0 b1 b2 b3 b4 b5 b6 n1 n2 n3 n4 eG eR eL
    obtain ⟨r1, pa1, al1, ty1, jv1, c1, j1⟩ := W1.at
    refine ⟨_, rfl, d, _, rfl, dg c1 of_line, ?_⟩
    clear c1 j1
    -- the sign that takes one back
    refine ⟨fun σ' H' => σ' = [some (.ref d), some v, some w, some (.str (sg c)), some (.str t.line)] ∧ Own H0 H' d (if sg c = "<" then t.setLine (cutS t.line none (some (-1))) else t), ?_, ?_⟩
    · refine ⟨_, rfl, rfl, _, rfl, ite2 (fun e => ?_) (fun e => ite2 (fun z => by cases z) (fun _ => ?_))⟩
      · refine ⟨_, rfl, rfl, _, rfl, ite2 (fun e2 => ?_) (fun e2 => ?_)⟩
        · have e2 : ¬ t.line = "" := fun k => (by rw [vne.mpr k] at e2; cases e2)
          refine ⟨_, rfl, _, rfl, _, rfl, _, rfl, t.line, rfl, big _ (by omega), H0, d, t, _, _, rfl, W1, Nat.le_trans hL (by decide), hR, fun H2 W2 => ⟨rfl, ?_⟩⟩
          rw [if_pos (vstr.mp e), ← lline (fun k => e2 (cut_same.mp k))]
          exact W2
        · have e2 : t.line = "" := vne.mp (Bool.eq_false_iff.mpr e2)
          refine ⟨rfl, ?_⟩
          rw [if_pos (vstr.mp e), show t.setLine (cutS t.line none (some (-1))) = t from if_pos (cut_same.mpr e2)]
          exact W1
      · refine ⟨rfl, ?_⟩
        rw [if_neg fun k => e (vstr.mpr k)]
        exact W1
    · rintro σ' H2 ⟨rfl, W2⟩
      -- a sign that is written
      refine ⟨fun σ' H' => σ' = [some (.ref d), some v, some w, some (.str (sg c)), some (.str t.line)] ∧ Own H0 H' d (if sg c = ";" then t else if sg c = "<" then t.setLine (cutS t.line none (some (-1))) else if t.line.length < 30 then t.setLine (t.line ++ sg c) else t), ?_, ?_⟩
      · refine ⟨_, rfl, c, _, rfl, rfl, _, rfl, ite2 (fun e => ?_) (fun e => ite2 (fun z => by cases z) (fun _ => ?_))⟩
        · have e : ¬ c ∈ ("<;" : Str).cps.toList := fun k => (by rw [decide_eq_true k] at e; cases e)
          have f1 : ¬ sg c = ";" := fun k => e (by
            have : c = 59 := (Array.mk.inj (Str.mk.inj k)) |> List.cons.inj |>.1
            rw [this]; decide +kernel)
          have f2 : ¬ sg c = "<" := fun k => e (by
            have : c = 60 := (Array.mk.inj (Str.mk.inj k)) |> List.cons.inj |>.1
            rw [this]; decide +kernel)
          rw [if_neg f2] at W2
          refine ⟨_, rfl, t.line, rfl, big _ (by omega), _, _, rfl, rfl, _, rfl, ite2 (fun e2 => ?_) (fun e2 => ?_)⟩
          · have e2 : t.line.length < 30 := Int.ofNat_lt.mp (of_decide_eq_true e2)
            refine ⟨_, rfl, _, rfl, _, rfl, _, _, rfl, rfl, big _ (by show t.line.length + 1 ≤ 1000000; omega), H0, d, t, _, _, rfl, W2, Nat.le_trans hL (by decide), hR, fun H3 W3 => ⟨rfl, ?_⟩⟩
            rw [if_neg f1, if_neg f2, if_pos e2, ← lline app_ne]
            exact W3
          · have e2 : ¬ t.line.length < 30 := fun k => e2 (decide_eq_true (Int.ofNat_lt.mpr k))
            refine ⟨rfl, ?_⟩
            rw [if_neg f1, if_neg f2, if_neg e2]
            exact W2
        · have e : c ∈ ("<;" : Str).cps.toList := by
            cases h : decide (c ∈ ("<;" : Str).cps.toList) with
            | true => exact of_decide_eq_true h
            | false => exact absurd (by rw [h]; rfl) e
          refine ⟨rfl, ?_⟩
          have e' : c = 60 ∨ c = 59 := by
            have : c ∈ [60, 59] := e
            simpa using this
          rcases e' with rfl | rfl
          · rw [if_pos (show sg 60 = "<" from rfl)] at W2
            rw [if_neg (show ¬ sg 60 = ";" by decide +kernel), if_pos (show sg 60 = "<" from rfl)]
            exact W2
          · rw [if_neg (show ¬ sg 59 = "<" by decide +kernel)] at W2
            rw [if_pos (show sg 59 = ";" from rfl)]
            exact W2
      · rintro σ' H3 ⟨rfl, W3⟩
        refine ⟨_, rfl, rfl, _, rfl, ite2 (fun e => ?_) (fun e => ?_)⟩
        · have e : sg c = ";" := vstr.mp e
          rw [if_pos e] at W3
          have q : ∀ H', Own H0 H' d t.lawDo → Q .non H' := fun H' h => q H' (by rw [show t.press1 c = t.doLine from if_pos e, ← lawDo_eq]; exact h)
          refine ⟨_, rfl, _, rfl, _, _, rfl, rfl, big _ (by show 2 + t.line.length ≤ 1000000; omega), H0, d, t, _, _, rfl, W3, Nat.le_trans hL (by decide), hR, fun H4 W4 => ?_⟩
          rw [lrow] at W4
          refine ⟨fun σ' H' => σ' = [some (.ref d), some v, some w, some (.str (sg c)), some (.str t.line)] ∧ Own H0 H' d t.said, ?_, ?_⟩
          · refine ⟨_, rfl, rfl, _, rfl, ite2 (fun e2 => ?_) (fun e2 => ?_)⟩
            · have e2 : ¬ t.line = "" := fun k => (by rw [vne.mpr k] at e2; cases e2)
              refine ⟨_, rfl, H0, d, _, _, _, rfl, W4, ?_, lst_le, fun H5 W5 => ⟨rfl, ?_⟩⟩
              · show (t.log ++ [_]).length ≤ _
                rw [List.length_append]
                exact Nat.le_trans (Nat.add_le_add_right hL 1) (by decide)
              · rw [show t.said = (t.addRow ("> " ++ t.line)).lchg "line" "" from (lline (o := t.addRow ("> " ++ t.line)) (x := "") fun k => e2 k.symm).symm]
                exact W5
            · have e2 : t.line = "" := vne.mp (Bool.eq_false_iff.mpr e2)
              refine ⟨rfl, ?_⟩
              rw [show t.said = t.addRow ("> " ++ t.line) from if_pos e2.symm]
              exact W4
          · rintro σ' H5 ⟨rfl, W5⟩
            have rl5 : t.said.rows.length ≤ 40 := by
              show ((t.addRow _).setLine _).rows.length ≤ 40
              rw [set_rows]
              exact lst_le
            have ll5 : t.said.log.length ≤ 10000000 := Nat.le_trans said_len (Nat.le_trans (Nat.add_le_add_right hL 2) (by decide))
            obtain ⟨r1, pa1, al1, ty1, jv1, c1, j1⟩ := W5.at
            refine ⟨_, rfl, rfl, _, rfl, ite2 (fun e2 => ?_) (fun e2 => ?_)⟩
            · refine ⟨_, rfl, H0, d, _, _, _, rfl, W5, ll5, rl5, fun H6 W6 => q _ ?_⟩
              rw [show t.lawDo = t.said.clr from if_pos (vstr.mp e2), ← lclr]
              exact W6
            · have e2 : ¬ t.line = "clear" := fun k => e2 (vstr.mpr k)
              refine ⟨_, rfl, rfl, _, rfl, ite2 (fun e3 => ?_) (fun e3 => ite2 (fun z => by cases z) (fun _ => ?_))⟩
              · refine ⟨_, rfl, d, _, rfl, dg c1 of_job, rfl, _, rfl, ite2 (fun e4 => ?_) (fun e4 => ?_)⟩
                · have e4 : t.said.job ≠ none := fun k => (by rw [decide_eq_true (j1.non.mpr k)] at e4; cases e4)
                  refine ⟨_, rfl, d, _, rfl, DPut.k (k := .inr "job") c1 of_short, ?_⟩
                  rw [op_job]
                  refine q _ ?_
                  rw [show t.lawDo = { t.said with job := none } from by unfold Pn.lawDo; rw [if_neg e2, if_pos ⟨vstr.mp e3, e4⟩]]
                  exact W5.setJob c1 rfl
                · have e3 : ¬ (t.line = "stop" ∧ t.said.job ≠ none) := fun k => e4 (by rw [decide_eq_false (fun z => k.2 (j1.non.mp z))]; rfl)
                  refine ⟨_, rfl, t.line, rfl, ha, Nat.le_trans hl (by decide), fun H6 x6 => ⟨_, _, rfl, rfl, _, rfl, ite2 (fun e4 => ?_) (fun e4 => ?_)⟩⟩
                  · have e4 : 0 < jobSize t.line := of_decide_eq_true e4
                    refine ⟨_, rfl, t.line, rfl, ha, Nat.le_trans hl (by decide), fun H7 x7 => ⟨(by show 2 ≤ sizeLine; decide), fun l2 nl2 => ?_⟩⟩
                    have x8 := (x6.trans x7).trans (Ex.new (o := .tup [.int 0, .int (jobSize t.line)]) nl2)
                    refine ⟨_, rfl, d, _, rfl, DPut.k (k := .inr "job") (x8 _ _ c1) of_short, ?_⟩
                    rw [op_job]
                    refine q _ ?_
                    rw [show t.lawDo = { t.said with job := some (0, jobSize t.line) } from by unfold Pn.lawDo; rw [if_neg e2, if_neg e3, if_pos e4]]
                    exact (W5.ex x8).setJob (x8 _ _ c1) ⟨l2, rfl, upd_same⟩
                  · have e4 : ¬ 0 < jobSize t.line := fun k => e4 (decide_eq_true k)
                    refine ⟨_, rfl, rfl, _, rfl, ite2 (fun e5 => ?_) (fun e5 => ?_)⟩
                    · have e5 : ¬ t.line = "" := fun k => (by rw [vne.mpr k] at e5; cases e5)
                      refine ⟨_, rfl, _, rfl, _, rfl, t.line, rfl, big _ (by omega), rfl, _, rfl, ite2 (fun e6 => ?_) (fun e6 => ?_)⟩
                      · refine ⟨_, rfl, _, rfl, t.line, rfl, big _ (by omega), H0, d, _, _, _, rfl, W5.ex x6, ll5, rl5, fun H7 W7 => q _ ?_⟩
                        rw [show t.lawDo = t.said.addRow (cutS t.line (some 4) none) from by unfold Pn.lawDo; rw [if_neg e2, if_neg e3, if_neg e4, if_pos e5, if_pos (vstr.mp e6)], ← lrow]
                        exact W7
                      · refine ⟨_, rfl, _, _, rfl, rfl, big _ (by show 2 + t.line.length ≤ 1000000; omega), H0, d, _, _, _, rfl, W5.ex x6, ll5, rl5, fun H7 W7 => q _ ?_⟩
                        rw [show t.lawDo = t.said.addRow ("? " ++ t.line) from by unfold Pn.lawDo; rw [if_neg e2, if_neg e3, if_neg e4, if_pos e5, if_neg fun k => e6 (vstr.mpr k)], ← lrow]
                        exact W7
                    · have e5 : ¬ ¬ t.line = "" := fun k => e5 (by rw [vne2 k])
                      refine q _ ?_
                      rw [show t.lawDo = t.said from by unfold Pn.lawDo; rw [if_neg e2, if_neg e3, if_neg e4, if_neg e5]]
                      exact W5.ex x6
              · have e3 : ¬ (t.line = "stop" ∧ t.said.job ≠ none) := fun k => e3 (vstr.mpr k.1)
                refine ⟨_, rfl, t.line, rfl, ha, Nat.le_trans hl (by decide), fun H6 x6 => ⟨_, _, rfl, rfl, _, rfl, ite2 (fun e4 => ?_) (fun e4 => ?_)⟩⟩
                · have e4 : 0 < jobSize t.line := of_decide_eq_true e4
                  refine ⟨_, rfl, t.line, rfl, ha, Nat.le_trans hl (by decide), fun H7 x7 => ⟨(by show 2 ≤ sizeLine; decide), fun l2 nl2 => ?_⟩⟩
                  have x8 := (x6.trans x7).trans (Ex.new (o := .tup [.int 0, .int (jobSize t.line)]) nl2)
                  refine ⟨_, rfl, d, _, rfl, DPut.k (k := .inr "job") (x8 _ _ c1) of_short, ?_⟩
                  rw [op_job]
                  refine q _ ?_
                  rw [show t.lawDo = { t.said with job := some (0, jobSize t.line) } from by unfold Pn.lawDo; rw [if_neg e2, if_neg e3, if_pos e4]]
                  exact (W5.ex x8).setJob (x8 _ _ c1) ⟨l2, rfl, upd_same⟩
                · have e4 : ¬ 0 < jobSize t.line := fun k => e4 (decide_eq_true k)
                  refine ⟨_, rfl, rfl, _, rfl, ite2 (fun e5 => ?_) (fun e5 => ?_)⟩
                  · have e5 : ¬ t.line = "" := fun k => (by rw [vne.mpr k] at e5; cases e5)
                    refine ⟨_, rfl, _, rfl, _, rfl, t.line, rfl, big _ (by omega), rfl, _, rfl, ite2 (fun e6 => ?_) (fun e6 => ?_)⟩
                    · refine ⟨_, rfl, _, rfl, t.line, rfl, big _ (by omega), H0, d, _, _, _, rfl, W5.ex x6, ll5, rl5, fun H7 W7 => q _ ?_⟩
                      rw [show t.lawDo = t.said.addRow (cutS t.line (some 4) none) from by unfold Pn.lawDo; rw [if_neg e2, if_neg e3, if_neg e4, if_pos e5, if_pos (vstr.mp e6)], ← lrow]
                      exact W7
                    · refine ⟨_, rfl, _, _, rfl, rfl, big _ (by show 2 + t.line.length ≤ 1000000; omega), H0, d, _, _, _, rfl, W5.ex x6, ll5, rl5, fun H7 W7 => q _ ?_⟩
                      rw [show t.lawDo = t.said.addRow ("? " ++ t.line) from by unfold Pn.lawDo; rw [if_neg e2, if_neg e3, if_neg e4, if_pos e5, if_neg fun k => e6 (vstr.mpr k)], ← lrow]
                      exact W7
                  · have e5 : ¬ ¬ t.line = "" := fun k => e5 (by rw [vne2 k])
                    refine q _ ?_
                    rw [show t.lawDo = t.said from by unfold Pn.lawDo; rw [if_neg e2, if_neg e3, if_neg e4, if_neg e5]]
                    exact W5.ex x6
        · have e : ¬ sg c = ";" := fun k => e (vstr.mpr k)
          refine q _ ?_
          rw [if_neg e] at W3
          rw [show t.press1 c = _ from if_neg e]
          exact W3
theorem empty_app (a : Str) : Str.empty ++ a = a := TL.ext_tl (by rw [TL.tl_append]; rfl)
def spBea : Sp := fun vs H Q _ => ∃ (H0 : Hp) (d : Addr) (o : Pn), vs = [.ref d] ∧ Own H0 H d o ∧ (∀ b n, o.job = some (b, n) → 0 ≤ b ∧ b < n ∧ n ≤ 99) ∧ o.rows.length ≤ 40 ∧ o.log.length ≤ 9000000 ∧ ∀ H', Own H0 H' d o.beat → Q .non H'
structure CBea (P : Program) (w : World) (K : PySem.W.Frag) (mg : Str → Option Value) (base : Heap) : Prop where
  law_change : Cal P w K mg base "_law_change" 1 ["_law_p", "_law_word", "_law_text"] spChg
theorem ok_bea {f : Addr} {fd : FuncData} (F : Fun K "_law_beat" "_law_beat" sBea f fd) (T : TOwn mg) (C : CBea P w K mg base) : FnOk P w K mg base CX0 2 f fd ["_law_p"] spBea := by
  refine F.ok scBea (fun vs H Q E h => ?_) (fun cdv A outer s H vs Q E hr h => ?_)
  · obtain ⟨H0, d, o, rfl, _⟩ := h
    rfl
  · obtain ⟨H0, d, o, rfl, W, hj, hR, hL, q⟩ := h
    refine ⟨_, (pss_one (ps_if (pt_cmpR op_notN (pe_dget (hu_of hr) (pv 0) pe_str (fun _ _ => rfl)) pe_non (nomark _)) (pss_cons (ps_asg (pe_dget (hu_of hr) (pv 0) pe_str (fun _ _ => rfl)) (pg_tup rfl (pgs_cons (pg_name (i := 1) scBea.nd rfl (Or.inl rfl)) (pgs_cons (pg_name (i := 2) scBea.nd rfl (Or.inl rfl)) pgs_nil))))
      (pss_cut (ps_asg (pe_ifExp (pt_cmpR op_lt (pe_op op_add (pv 1) pe_int) (pv 2) (nomark _)) (pe_tup (pa_cons (pe_op op_add (pv 1) pe_int) (pa_cons (pv 2) pa_nil))) pe_non) (pg_sub (pv 0) pe_str (set_dict (hu_of hr))))
      (pss_one (ps_expr (pcall C.law_change (hr.mono (by first | decide | omega)) (pa_cons (pv 0) (pa_cons pe_str (pa_cons (pe_op op_add_str (pe_op op_add_str (pe_callTy call_str_int (by rfl) T.z_str boot_str (pa_cons (pe_op op_add (pv 1) pe_int) pa_nil)) pe_str) (pe_callTy call_str_int (by rfl) T.z_str boot_str (pa_cons (pv 2) pa_nil))) pa_nil)))))))) pss_nil)), ?_⟩
    obtain ⟨r1, pa1, al1, ty1, jv1, c1, j1⟩ := W.at
    refine ⟨_, rfl, d, _, rfl, dg c1 of_job, rfl, _, rfl, ite2 (fun e => ?_) (fun e => ?_)⟩
    · cases ej : o.job with
      | none =>
        rw [ej] at j1
        rw [decide_eq_true (show jv1 = V.non from j1)] at e
        cases e
      | some bn =>
        obtain ⟨b, n⟩ := bn
        obtain ⟨o1, o2, o3⟩ := hj b n ej
        rw [ej] at j1
        obtain ⟨ja, rfl, hja⟩ := j1
        refine ⟨_, rfl, d, _, rfl, dg c1 of_job, ja, _, rfl, SqT.of hja, rfl, _, _, rfl, _, _, rfl, rfl, ?_⟩
        refine ⟨fun σ' H' => σ' = [some (.ref d), some (.int b), some (.int n)] ∧ Own H0 H' d { o with job := if b + 1 < n then some (b + 1, n) else none }, ?_, ?_⟩
        · refine ⟨_, rfl, _, _, rfl, rfl, _, rfl, _, _, rfl, rfl, _, rfl, ite2 (fun e2 => ?_) (fun e2 => ?_)⟩
          · have e2 : b + 1 < n := of_decide_eq_true e2
            refine ⟨_, rfl, _, _, rfl, rfl, _, rfl, (by show 2 ≤ sizeLine; decide), fun l nl => ?_⟩
            have x1 := Ex.new (o := .tup [.int (b + 1), .int n]) nl
            refine ⟨_, rfl, d, _, rfl, DPut.k (k := .inr "job") (x1 _ _ c1) of_short, rfl, ?_⟩
            rw [op_job, if_pos e2]
            exact (W.ex x1).setJob (x1 _ _ c1) ⟨l, rfl, upd_same⟩
          · have e2 : ¬ b + 1 < n := fun k => e2 (decide_eq_true k)
            refine ⟨_, rfl, d, _, rfl, DPut.k (k := .inr "job") c1 of_short, rfl, ?_⟩
            rw [op_job, if_neg e2]
            exact W.setJob c1 rfl
        · rintro σ' H2 ⟨rfl, W2⟩
          have n1 := nst_len (n := b + 1) (by omega) (by omega)
          have n2 := nst_len (n := n) (by omega) (by omega)
          have d1 : (Str.ofString " of ").length = 4 := rfl
          have big : ∀ x : Nat, x ≤ 100 → x ≤ sizeLine := fun x h => Nat.le_trans h (by decide)
          refine ⟨_, rfl, _, rfl, _, _, rfl, rfl, _, rfl, log2s (by omega) (by omega), _, _, rfl, rfl, big _ (by omega), _, rfl, _, rfl, log2s (by omega) (by omega), _, _, rfl, rfl, big _ (by rw [Str.length_append]; omega), ?_⟩
          refine ⟨H0, d, _, _, _, rfl, W2, Nat.le_trans hL (by decide), hR, fun H3 W3 => q _ ?_⟩
          rw [lrow] at W3
          rw [show o.beat = Pn.addRow { o with job := if b + 1 < n then some (b + 1, n) else none } (ofRow (b + 1) n) from by unfold Pn.beat; rw [ej]; rfl]
          unfold ofRow
          rw [empty_app]
          exact W3
    · have hn : o.job = none := j1.non.mp (by
        cases h : decide (jv1 = V.non) with
        | true => exact of_decide_eq_true h
        | false => rw [h] at e; exact absurd rfl e)
      refine q _ ?_
      rw [show o.beat = o from by unfold Pn.beat; rw [hn]]
      exact W
end
end Vf
namespace Vf
open PySem PySem.Spec PyProof.Rows L2 Evl
/-! ### all that is told, held against the law's own pane -/
abbrev sRig : Stmt := topS 29
theorem scRig : FnScope ["_law_box", "_law_pane_here", "_law_own", "_law_found", "_law_many_here", "_law_number", "_law_due", "_law_told"] ["_law_box", "_law_pane_here", "_law_own"] (defScope sRig) := ⟨rfl, rfl, rfl, by decide +kernel, rfl, by decide +kernel, by decide +kernel⟩
structure TRig (mg : Str → Option Value) : Prop where
  z_len : mg "len" = none
structure TRigP (K : PySem.W.Frag) (mg : Str → Option Value) (cP : Addr) : Prop extends TRig mg where
  cl : Cls K cP
def jobD : Option (Int × Int) → PyData
  | none => .none
  | some (b, n) => .tuple [.int b, .int n]
theorem JobAt.dp {K : PySem.W.Frag} {H : Hp} {jv : V} : ∀ {j : Option (Int × Int)}, JobAt H jv j → Dp K H jv (jobD j)
  | none, h => by rw [show jv = .non from h]; exact .non
  | some (b, n), ⟨a, h, k⟩ => by rw [h]; exact .tup (SqT.of k) (.cons (.int b) (.cons (.int n) .nil))
def TyV (x : List V) : Prop := ∃ (i j : Int) (c : Nat), x = [.int i, .int j, .str (sg c)] ∧ c < 128
def tyD : List V → PyData
  | [.int i, .int j, .str z] => .tuple [.int i, .int j, .str z]
  | [.str a, .str b] => .tuple [.str a, .str b]
  | _ => .none
theorem Tups.dp {K : PySem.W.Frag} {H : Hp} {f : List V → PyData} : ∀ {vs : List V} {xs : List (List V)}, Tups H vs xs → (∀ x ∈ xs, ∀ a, H a = some (.tup x) → Dp K H (.ref a) (f x)) → DpAll K H vs (xs.map f)
  | [], [], _, _ => .nil
  | v :: vs, x :: xs, h, k => by
    obtain ⟨a, h1, h2⟩ := h.1
    rw [h1]
    exact .cons (k x (List.mem_cons_self ..) a h2) (Tups.dp h.2 fun y hy => k y (List.mem_cons_of_mem _ hy))
  | [], _ :: _, h, _ => h.elim
  | _ :: _, [], h, _ => h.elim
theorem dp_typed {K : PySem.W.Frag} {H : Hp} {vs : List V} {xs : List (List V)} (h : Tups H vs xs) (k : ∀ x ∈ xs, TyV x) : DpAll K H vs (xs.map tyD) :=
  h.dp fun x hx a ha => by
    obtain ⟨i, j, c, rfl, _⟩ := k x hx
    exact .tup (SqT.of ha) (.cons (.int i) (.cons (.int j) (.cons (.str _) .nil)))
theorem dp_log {K : PySem.W.Frag} {H : Hp} {vs : List V} {cs : List (Str × Str)} (h : Tups H vs (cs.map chV)) : DpAll K H vs ((cs.map chV).map tyD) :=
  h.dp fun x hx a ha => by
    obtain ⟨c, _, rfl⟩ := List.mem_map.mp hx
    exact .tup (SqT.of ha) (.cons (.str _) (.cons (.str _) .nil))
theorem good_typed {xs : List (List V)} (hl : xs.length ≤ 16777216) (k : ∀ x ∈ xs, TyV x) : good 2 (.list (xs.map tyD)) = true := by
  show (decide ((xs.map tyD).length ≤ 16777216) && (xs.map tyD).all (good 1)) = true
  rw [List.length_map, decide_eq_true hl, Bool.true_and, List.all_eq_true]
  intro e he
  obtain ⟨x, hx, rfl⟩ := List.mem_map.mp he
  obtain ⟨i, j, c, rfl, hc⟩ := k x hx
  show (decide (3 ≤ 16777216) && (true && (true && (PyData.canLay0 (.str (sg c)) && true)))) = true
  rw [lay_str (asc_sg hc)]
  rfl
theorem good_log {cs : List (Str × Str)} (hl : cs.length ≤ 16777216) (k : ∀ c ∈ cs, Asc c.1 ∧ Asc c.2) : good 3 (.list ((cs.map chV).map tyD)) = true := by
  show (decide (((cs.map chV).map tyD).length ≤ 16777216) && ((cs.map chV).map tyD).all (good 2)) = true
  rw [List.length_map, List.length_map, decide_eq_true hl, Bool.true_and, List.all_eq_true]
  intro e he
  obtain ⟨x, hx, rfl⟩ := List.mem_map.mp he
  obtain ⟨c, hc, rfl⟩ := List.mem_map.mp hx
  show (decide (2 ≤ 16777216) && (PyData.canLay0 (.str c.1) && (PyData.canLay0 (.str c.2) && true))) = true
  rw [lay_str (k c hc).1, lay_str (k c hc).2]
  rfl
structure CRig (P : Program) (w : World) (K : PySem.W.Frag) (mg : Str → Option Value) (base : Heap) (cP : Addr) : Prop where
  law_take : Cal P w K mg base "_law_take" 1 ["_law_box", "_law_many_here"] spTak
  law_alike : Cal P w K mg base "_law_alike" 4 ["_law_found", "_law_due"] (spAli K 3)
  rows : MCal P w K mg base cP "rows" 1 ["self"] (spRo cP)
  line : MCal P w K mg base cP "line" 1 ["self"] (spLi cP)
  job : MCal P w K mg base cP "job" 1 ["self"] (spJo cP)
  changes : MCal P w K mg base cP "changes" 1 ["self"] (spCh cP)
  typed : MCal P w K mg base cP "typed" 1 ["self"] (spTy cP)
  since : MCal P w K mg base cP "since" 3 ["self", "number"] (spSi cP)
/-- the program's pane and the law's own hold the same -/
structure Rel (s o : Pn) : Prop where
  eq : s = typ o (lst 100 o.typed)
  ok : POk s
  ty : ∀ x ∈ o.typed, TyV x
def spRig (C : Addr) : Sp := fun vs H Q _ => ∃ (Hb : Hp) (b l p d : Addr) (s o : Pn), vs = [.ref b, .ref p, .ref d] ∧ Box Hb b l ∧ Both C Hb H p d s o ∧ Rel s o ∧ o.log.length ≤ 9000000 ∧ o.typed.length ≤ 9000000 ∧ ∀ H', Both C Hb H' p d s o → Q (.bl true) H'
section
variable {P : Program} {w : World} {K : PySem.W.Frag} {mg : Str → Option Value} {base : Heap}
theorem ok_rig {f cP : Addr} {fd : FuncData} (F : Fun K "_law_right" "_law_right" sRig f fd) (T : TRigP K mg cP) (C : CRig P w K mg base cP) : FnOk P w K mg base CX0 5 f fd ["_law_box", "_law_pane_here", "_law_own"] (spRig cP) := by
  refine F.ok scRig (fun vs H Q E h => ?_) (fun cdv A outer s H vs Q E hr h => ?_)
  · obtain ⟨Hb, b, l, p, d, s, o, rfl, _⟩ := h
    rfl
  · obtain ⟨Hb, b, l, p, d, st, o, rfl, B, W, ⟨es, O, hty⟩, hL, hTy, q⟩ := h
    refine ⟨_, (pss_cons (ps_set (i := 3) scRig.nd rfl (Or.inl rfl) (pe_lst (pa_cons (pmeth0 (pv 1) T.cl C.rows (hr.mono (by first | decide | omega))) (pa_cons (pmeth0 (pv 1) T.cl C.line (hr.mono (by first | decide | omega))) (pa_cons (pmeth0 (pv 1) T.cl C.job (hr.mono (by first | decide | omega))) (pa_cons (pmeth0 (pv 1) T.cl C.changes (hr.mono (by first | decide | omega))) (pa_cons (pmeth0 (pv 1) T.cl C.typed (hr.mono (by first | decide | omega))) pa_nil)))))))
      (pss_cons (ps_if (pt_not (pt_val (pcall C.law_alike (hr.mono (by first | decide | omega)) (pa_cons (pv 3) (pa_cons (pe_lst (pa_cons (pe_dget (hu_of hr) (pv 2) pe_str (fun _ _ => rfl)) (pa_cons (pe_dget (hu_of hr) (pv 2) pe_str (fun _ _ => rfl)) (pa_cons (pe_dget (hu_of hr) (pv 2) pe_str (fun _ _ => rfl)) (pa_cons (pe_callB call_len_seq (by rfl) T.z_len PySem.boot_len (pa_cons (pe_dget (hu_of hr) (pv 2) pe_str (fun _ _ => rfl)) pa_nil)) (pa_cons (pe_slice sl_list (pe_dget (hu_of hr) (pv 2) pe_str (fun _ _ => rfl)) (po_some (pe_un un_neg pe_int)) po_none) pa_nil)))))) pa_nil))))) (pss_one (ps_ret pe_bl)) pss_nil)
      (pss_cons (ps_expr (pe_bm PySem.F.plainAttrs_list PySem.F.slot_list_append PySem.F.type_list_append mt_append (pe_ix ix_list (pv 3) pe_int (fun _ _ => rfl)) (pa_cons pe_str pa_nil)))
      (pss_cons (ps_expr (pe_bm PySem.F.plainAttrs_list PySem.F.slot_list_append PySem.F.type_list_append mt_append (pe_ix ix_list (pv 3) pe_int (fun _ _ => rfl)) (pa_cons (pe_tup pa_nil) pa_nil)))
      (pss_cons (ps_set (i := 4) scRig.nd rfl (Or.inl rfl) (pe_callB call_len_seq (by rfl) T.z_len PySem.boot_len (pa_cons (pe_dget (hu_of hr) (pv 2) pe_str (fun _ _ => rfl)) pa_nil)))
      (pss_cons (ps_for PassesOwn.never rfl (pi_list (pe_lst (pa_cons (pv 4) (pa_cons (pcall C.law_take (hr.mono (by first | decide | omega)) (pa_cons (pv 0) (pa_cons (pe_op op_add (pv 4) pe_int) pa_nil))) (pa_cons (pe_op op_sub (pv 4) pe_int) (pa_cons (pe_op op_sub (pv 4) pe_int) (pa_cons (pe_op op_add (pe_op op_add (pv 4) pe_int) (pcall C.law_take (hr.mono (by first | decide | omega)) (pa_cons (pv 0) (pa_cons pe_int pa_nil)))) (pa_cons (pe_un un_neg pe_int) pa_nil)))))))) (pg_name (i := 5) scRig.nd rfl (Or.inl rfl)) (pss_cons (ps_set (i := 6) scRig.nd rfl (Or.inl rfl) pe_non)
      (pss_cut (ps_if (PW.pt (pw_and (pt_chain op_le op_le pe_int (pv 5) (pv 4)) (pw_and1 (pt_cmpR op_ge (pv 5) (pe_op op_sub (pv 4) pe_int) (nomark _))))) (pss_one (ps_set (i := 6) scRig.nd rfl (Or.inl rfl) (pe_slice sl_list (pe_dget (hu_of hr) (pv 2) pe_str (fun _ _ => rfl)) (po_some (pv 5)) po_none))) pss_nil)
      (pss_cons (ps_set (i := 7) scRig.nd rfl (Or.inl rfl) (pmeth (pv 1) T.cl C.since (hr.mono (by first | decide | omega)) (pa_cons (pv 5) pa_nil)))
      (pss_cons (ps_if (pt_not (pt_val (pcall C.law_alike (hr.mono (by first | decide | omega)) (pa_cons (pv 7) (pa_cons (pv 6) pa_nil))))) (pss_one (ps_ret pe_bl)) pss_nil)
      (pss_one (ps_if (pt_cmpR op_notN (pv 7) pe_non (nomark _)) (pss_one (ps_expr (pe_bm PySem.F.plainAttrs_list PySem.F.slot_list_append PySem.F.type_list_append mt_append (pv 7) (pa_cons (pe_tup pa_nil) pa_nil)))) pss_nil)))))))
      (pss_one (ps_ret pe_bl)))))))), ?_⟩
    have BH := B.ex W.base
    have q : ∀ H', Ex H H' → Q (.bl true) H' := fun H' x => q H' (W.ex x)
    obtain ⟨G, R, _⟩ := W.left
    obtain ⟨G2, R2, _⟩ := W.right
    obtain ⟨d0, r0, t0, u0, jv0, b0, j0⟩ := R.at
    obtain ⟨_, _, r, pa, al, ty, _, _, _, _, ⟨⟨jv, ps, as, ts, a1, a2, a3, a4, a5, a6, a7, a8⟩, a9, _⟩⟩ := R2
    have e1 : st.rows = o.rows := by rw [es]; rfl
    have e2 : st.line = o.line := by rw [es]; rfl
    have e3 : st.job = o.job := by rw [es]; rfl
    have e4 : st.log = o.log := by rw [es]; rfl
    have e5 : st.typed = lst 100 o.typed := by rw [es]; rfl
    have lps : (ps.length : Int) = (o.log.length : Int) := by rw [a6.len, List.length_map]
    -- what is told
    refine ⟨_, rfl, p, d0, _, rfl, b0, pf_no (by decide +kernel) (by decide +kernel) (by decide +kernel) (by decide +kernel) (by decide +kernel) (by decide +kernel), G, p, st, rfl, R, fun r1 nr1 => ?_⟩
    have x1 : Ex H (upd H r1 (.lst (st.rows.map V.str))) := Ex.new nr1
    refine ⟨_, rfl, p, d0, _, rfl, x1 _ _ b0, pf_no (by decide +kernel) (by decide +kernel) (by decide +kernel) (by decide +kernel) (by decide +kernel) (by decide +kernel), ⟨G, p, st, rfl, R.ex x1, ?_⟩⟩
    refine ⟨_, rfl, p, d0, _, rfl, x1 _ _ b0, pf_no (by decide +kernel) (by decide +kernel) (by decide +kernel) (by decide +kernel) (by decide +kernel) (by decide +kernel), G, p, st, rfl, R.ex x1, fun jw hjw => ?_⟩
    refine ⟨_, rfl, p, d0, _, rfl, x1 _ _ b0, pf_no (by decide +kernel) (by decide +kernel) (by decide +kernel) (by decide +kernel) (by decide +kernel) (by decide +kernel), ⟨G, p, st, rfl, R.ex x1, ?_⟩⟩
    refine ⟨_, rfl, p, d0, _, rfl, x1 _ _ b0, pf_no (by decide +kernel) (by decide +kernel) (by decide +kernel) (by decide +kernel) (by decide +kernel) (by decide +kernel), G, p, st, rfl, R.ex x1, fun l1 tt nl1 htt => ?_⟩
    have y1 := Ex.new (o := .lst tt) nl1
    refine ⟨(by show 5 ≤ sizeLine; decide), fun fo nfo => ?_⟩
    have y2 := Ex.new (o := .lst [.ref r1, .str st.line, jw, .int st.log.length, .ref l1]) nfo
    have hr1 := (y1.trans y2) _ _ upd_same
    have hl1 := y2 _ _ upd_same
    have hfo : upd (upd (upd H r1 (.lst (st.rows.map V.str))) l1 (.lst tt)) fo (.lst [.ref r1, .str st.line, jw, .int st.log.length, .ref l1]) fo = some (.lst [.ref r1, .str st.line, jw, .int st.log.length, .ref l1]) := upd_same
    have hjw := hjw.mono (TupEx.ex (y1.trans y2))
    have htt := htt.mono (TupEx.ex (y1.trans y2))
    have xF := x1.trans (y1.trans y2)
    have nl1' := ex_free x1 nl1
    have nfo' := ex_free (x1.trans y1) nfo
    have n1 : r1 ≠ l1 := ne_of_none upd_same nl1
    have n2 : r1 ≠ fo := ne_of_none (y1 _ _ upd_same) nfo
    have n3 : l1 ≠ fo := ne_of_none upd_same nfo
    generalize upd (upd (upd H r1 (.lst (st.rows.map V.str))) l1 (.lst tt)) fo (.lst [.ref r1, .str st.line, jw, .int st.log.length, .ref l1]) = H3 at hr1 hl1 hfo hjw htt xF ⊢
    clear y1 y2 x1 nfo nl1
    -- what is due
    refine ⟨_, rfl, _, rfl, d, _, rfl, dg (xF _ _ a1) of_rows, _, rfl, d, _, rfl, dg (xF _ _ a1) of_line, _, rfl, d, _, rfl, dg (xF _ _ a1) of_job, _, rfl, d, _, rfl, dg (xF _ _ a1) of_past, pa, ps, rfl, .inl (SqL.of (xF _ _ a2)), ?_⟩
    refine ⟨_, rfl, d, _, rfl, dg (xF _ _ a1) of_typed, _, rfl, _, rfl, ty, ts, rfl, SqL.of (xF _ _ a4), fun ct nct => ⟨(by show 5 ≤ sizeLine; decide), fun du ndu => ?_⟩⟩
    have ecut : cutV ts (some (-100)) none = ts.drop (ts.length - 100) := cutV_last (c := 100) (by decide)
    rw [ecut] at ndu ⊢
    have y1 := Ex.new (o := .lst (ts.drop (ts.length - 100))) nct
    have y2 := Ex.new (o := .lst [.ref r, .str o.line, jv, .int ps.length, .ref ct]) ndu
    have x4 := y1.trans y2
    have g1 : good 2 (.list (st.rows.map PyData.str)) = true := by
      show (decide ((st.rows.map PyData.str).length ≤ 16777216) && (st.rows.map PyData.str).all (good 1)) = true
      rw [List.length_map, decide_eq_true (show st.rows.length ≤ 16777216 from Nat.le_trans O.rows (by decide)), Bool.true_and, List.all_eq_true]
      intro e he
      obtain ⟨z, hz, rfl⟩ := List.mem_map.mp he
      exact lay_str (O.rasc z hz).1
    have g2 : good 2 (jobD st.job) = true := by
      cases st.job with
      | none => rfl
      | some bn => rfl
    have hty2 : ∀ x ∈ st.typed, TyV x := fun x hx => hty x (lst_mem (by rw [← e5]; exact hx))
    have g3 : good 2 (.list (st.typed.map tyD)) = true := good_typed (Nat.le_trans O.typed (by decide)) hty2
    have g4 : good 3 (.list [.list (st.rows.map PyData.str), .str st.line, jobD st.job, .int st.log.length, .list (st.typed.map tyD)]) = true := by
      show (decide (5 ≤ 16777216) && (good 2 (.list (st.rows.map PyData.str)) && (PyData.canLay0 (.str st.line) && (good 2 (jobD st.job) && (true && (good 2 (.list (st.typed.map tyD)) && true)))))) = true
      rw [g1, g2, g3, lay_str O.lasc]
      rfl
    have own : Tups H (ts.drop (ts.length - 100)) st.typed := by rw [e5]; exact Tups.lst a7
    have xall := xF.trans x4
    refine ⟨_, _, _, rfl, .lst (SqL.of (x4 _ _ hfo)) (.cons (.lst (SqL.of (x4 _ _ hr1)) (dp_strs _)) (.cons (.str _) (.cons (hjw.mono (TupEx.ex x4)).dp (.cons (.int _) (.cons (.lst (SqL.of (x4 _ _ hl1)) (dp_typed (htt.mono (TupEx.ex x4)) hty2)) .nil))))),
      .lst (SqL.of upd_same) (.cons (.lst (SqL.of (xall _ _ a9)) (by rw [e1]; exact dp_strs _)) (.cons (by rw [e2]; exact .str _) (.cons (by rw [e3]; exact (a5.mono (TupEx.ex xall)).dp) (.cons (by rw [e4, ← lps]; exact .int _) (.cons (.lst (SqL.of (y2 _ _ upd_same)) (dp_typed (own.mono (TupEx.ex xall)) hty2)) .nil))))), g4, by decide, _, rfl, iteF ?_⟩
    -- what was told is spoilt
    refine ⟨_, rfl, fo, _, 0, _, rfl, rfl, SqL.of (x4 _ _ hfo), rfl, .inl ⟨rfl, _, SqL.of (x4 _ _ hr1)⟩, r1, _, _, rfl, rfl, x4 _ _ hr1, ?_, ?_⟩
    · rw [List.length_map]
      exact Nat.lt_of_le_of_lt O.rows (by decide)
    have x5 : Ex H _ := ex_set (p := r1) (o := .lst (st.rows.map V.str ++ [.str (Str.ofString "")])) xall nr1
    have hfo5 : upd (upd (upd H3 ct (.lst (ts.drop (ts.length - 100)))) du (.lst [.ref r, .str o.line, jv, .int ps.length, .ref ct])) r1 (.lst (st.rows.map V.str ++ [.str (Str.ofString "")])) fo = some (.lst [.ref r1, .str st.line, jw, .int st.log.length, .ref l1]) := by rw [upd_ne n2.symm]; exact x4 _ _ hfo
    have hl5 : upd (upd (upd H3 ct (.lst (ts.drop (ts.length - 100)))) du (.lst [.ref r, .str o.line, jv, .int ps.length, .ref ct])) r1 (.lst (st.rows.map V.str ++ [.str (Str.ofString "")])) l1 = some (.lst tt) := by rw [upd_ne n1.symm]; exact x4 _ _ hl1
    generalize upd (upd (upd H3 ct (.lst (ts.drop (ts.length - 100)))) du (.lst [.ref r, .str o.line, jv, .int ps.length, .ref ct])) r1 (.lst (st.rows.map V.str ++ [.str (Str.ofString "")])) = H5 at x5 hfo5 hl5 ⊢
    refine ⟨_, rfl, fo, _, 4, _, rfl, rfl, SqL.of hfo5, rfl, .inl ⟨rfl, _, SqL.of hl5⟩, (by show 0 ≤ sizeLine; decide), fun em nem => ?_⟩
    have y5 := Ex.new (o := .tup []) nem
    refine ⟨l1, _, _, rfl, rfl, y5 _ _ hl5, ?_, ?_⟩
    · rw [htt.len]
      exact Nat.lt_of_le_of_lt O.typed (by decide)
    have x6 : Ex H _ := ex_set (p := l1) (o := .lst (tt ++ [.ref em])) (x5.trans y5) nl1'
    generalize upd (upd H5 em (.tup [])) l1 (.lst (tt ++ [.ref em])) = H6 at x6 ⊢
    clear y5 hl5 hfo5 x5 xall own g4 g3 g2 g1 x4 y1 y2 nct ndu ecut n1 n2 n3 htt hjw hfo hl1 hr1 xF
    -- since
    refine ⟨_, rfl, d, _, rfl, dg (x6 _ _ a1) of_past, pa, ps, rfl, .inl (SqL.of (x6 _ _ a2)), ?_⟩
    rw [lps]
    refine ⟨_, rfl, _, rfl, _, rfl, _, _, rfl, rfl, b, l, _, rfl, BH.ex x6, by omega, by omega, fun k H7 x7 k0 k1 => ?_⟩
    have x67 := x6.trans x7
    refine ⟨_, rfl, _, _, rfl, rfl, _, rfl, _, _, rfl, rfl, _, rfl, _, _, rfl, rfl, _, rfl, b, l, 9, rfl, BH.ex x67, by decide, by decide, fun k2 H8 x8 k20 k21 => ⟨_, _, rfl, rfl, _, rfl, (by show 6 ≤ sizeLine; decide), fun li nli => ?_⟩⟩
    have x9 := (x67.trans x8).trans (Ex.new (o := .lst ([(o.log.length : Int), k, (o.log.length : Int) - 30, (o.log.length : Int) - 31, (o.log.length : Int) + 1 + k2, -1].map V.int)) nli)
    have hli : upd H8 li (.lst ([(o.log.length : Int), k, (o.log.length : Int) - 30, (o.log.length : Int) - 31, (o.log.length : Int) + 1 + k2, -1].map V.int)) li = some (.lst ([(o.log.length : Int), k, (o.log.length : Int) - 30, (o.log.length : Int) - 31, (o.log.length : Int) + 1 + k2, -1].map V.int)) := upd_same
    refine ⟨li, rfl, ⟨_, SqL.of hli⟩, for_list (K := K) (a := li) (xs := [(o.log.length : Int), k, (o.log.length : Int) - 30, (o.log.length : Int) - 31, (o.log.length : Int) + 1 + k2, -1].map V.int) (fun i σ H' => ∃ c5 c6 c7, σ = [some (.ref b), some (.ref p), some (.ref d), some (.ref fo), some (.int o.log.length), c5, c6, c7] ∧ Ex H H' ∧ H' li = some (.lst ([(o.log.length : Int), k, (o.log.length : Int) - 30, (o.log.length : Int) - 31, (o.log.length : Int) + 1 + k2, -1].map V.int)))
      ⟨none, none, none, rfl, x9, hli⟩ (fun i σ H' _ ⟨_, _, _, _, _, e⟩ => SqL.of e) ?_ ?_⟩
    · clear hli x9 nli x8 x67 x7 x6 e5 a8 a7 a5
      generalize [(o.log.length : Int), k, (o.log.length : Int) - 30, (o.log.length : Int) - 31, (o.log.length : Int) + 1 + k2, -1] = ns
      rintro i y σ Hi hi ⟨c5, c6, c7, rfl, xi, hli⟩
      obtain ⟨n, rfl⟩ : ∃ n, y = V.int n := by
        rw [List.getElem?_map] at hi
        cases e : ns[i]? with
        | none =>
          rw [e] at hi
          cases hi
        | some u =>
          rw [e] at hi
          exact ⟨u, (Option.some.inj hi).symm⟩
      refine ⟨fun σ' H' => ∃ v, σ' = [some (.ref b), some (.ref p), some (.ref d), some (.ref fo), some (.int o.log.length), some (.int n), some v, c7] ∧ Ex Hi H' ∧ ((∃ (m : Nat) (q : Addr) (us : List V), n = m ∧ m ≤ o.log.length ∧ o.log.length ≤ m + 30 ∧ v = .ref q ∧ H' q = some (.lst us) ∧ Tups H' us ((o.log.drop m).map chV)) ∨ (¬ (0 ≤ n ∧ n ≤ o.log.length ∧ (o.log.length : Int) - 30 ≤ n) ∧ v = .non)), ?_, ?_⟩
      · refine ⟨_, rfl, _, _, rfl, rfl, _, rfl, ite2 (fun h1 => ⟨_, rfl, _, _, rfl, rfl, _, rfl, ite2 (fun h2 => ?_) (fun h2 => ite2 (fun z => by cases z) (fun _ => ?_))⟩) (fun h1 => ⟨_, rfl, ite2 (fun z => by cases z) (fun _ => ite2 (fun z => by cases z) (fun _ => ?_))⟩)⟩
        · have h1 := of_decide_eq_true h1
          have h2 := of_decide_eq_true h2
          refine ⟨_, rfl, _, rfl, _, _, rfl, rfl, _, _, rfl, rfl, _, rfl, ite2 (fun h3 => ?_) (fun h3 => ?_)⟩
          · have h3 := of_decide_eq_true h3
            obtain ⟨m, rfl⟩ := Int.eq_ofNat_of_zero_le h1
            refine ⟨_, rfl, d, _, rfl, dg (xi _ _ a1) of_past, _, rfl, _, rfl, pa, ps, rfl, SqL.of (xi _ _ a2), fun z nz => ?_⟩
            refine ⟨.ref z, rfl, Ex.new nz, .inl ⟨m, z, _, rfl, by omega, by omega, rfl, upd_same, ?_⟩⟩
            rw [cutV_rest, List.map_drop]
            exact Tups.drop _ ((a6.mono (TupEx.ex xi)).mono (TupEx.new nz))
          · exact ⟨.non, rfl, Ex.refl _, .inr ⟨fun z => h3 (decide_eq_true z.2.2), rfl⟩⟩
        · exact ⟨.non, rfl, Ex.refl _, .inr ⟨fun z => h2 (decide_eq_true z.2.1), rfl⟩⟩
        · exact ⟨.non, rfl, Ex.refl _, .inr ⟨fun z => h1 (decide_eq_true z.1), rfl⟩⟩
      · rintro σ' Hj ⟨v, rfl, xj, hv⟩
        have xij := xi.trans xj
        refine ⟨_, rfl, p, d0, _, rfl, xij _ _ b0, pf_no (by decide +kernel) (by decide +kernel) (by decide +kernel) (by decide +kernel) (by decide +kernel) (by decide +kernel), _, rfl, G, p, st, n, rfl, R.ex xij, fun hn => ?_, fun m lt us em h1 h2 hlt hTs => ?_⟩
        · obtain rfl : v = .non := by
            rcases hv with ⟨m, _, _, h, hm1, hm2, _⟩ | ⟨_, h⟩
            · rw [e4] at hn
              omega
            · exact h
          refine ⟨_, rfl, _, rfl, _, _, .none, rfl, .non, .non, rfl, by decide, _, rfl, iteF ?_⟩
          refine ⟨_, rfl, rfl, _, rfl, ite2 (fun z => by cases z) (fun _ => ?_)⟩
          exact ⟨_, _, _, rfl, xij, xj _ _ hli⟩
        · rw [e4] at h1 h2 hTs
          rcases hv with ⟨m2, qa, us2, e, hm1, hm2, rfl, hqa, hT2⟩ | ⟨h, _⟩
          · obtain rfl : m2 = m := by omega
            have xn := Ex.new (o := .lst us) hlt
            have gl : good 3 (.list (((o.log.drop m2).map chV).map tyD)) = true := good_log (by rw [List.length_drop]; omega) fun c hc => O.gasc c (by rw [e4]; exact List.mem_of_mem_drop hc)
            refine ⟨_, rfl, _, rfl, _, _, .list (((o.log.drop m2).map chV).map tyD), rfl, .lst (SqL.of upd_same) (dp_log (hTs.mono (TupEx.ex xn))), .lst (SqL.of (xn _ _ hqa)) (dp_log (hT2.mono (TupEx.ex xn))), gl, by decide, _, rfl, iteF ?_⟩
            refine ⟨_, rfl, rfl, _, rfl, ite2 (fun _ => ?_) (fun z => absurd (by rw [decide_eq_false (by intro k; cases k)]; rfl) z)⟩
            refine ⟨_, rfl, .inl ⟨rfl, _, SqL.of upd_same⟩, (by show 0 ≤ sizeLine; decide), fun ee nee => ?_⟩
            have xe := Ex.new (o := .tup []) nee
            refine ⟨lt, us, _, rfl, rfl, xe _ _ upd_same, ?_, ?_⟩
            · rw [hTs.len, List.length_map, List.length_drop]
              exact Nat.lt_of_le_of_lt (Nat.le_trans (Nat.sub_le _ _) hL) (by decide)
            · exact ⟨_, _, _, rfl, ex_set ((xij.trans xn).trans xe) (ex_free xij hlt), (ex_set ((xj.trans xn).trans xe) (ex_free xj hlt)) _ _ hli⟩
          · exact absurd (by omega) h
    · rintro σ Hk ⟨c5, c6, c7, rfl, xk, _⟩
      exact q Hk xk
end
end Vf
namespace Vf
open PySem PySem.Spec PyProof.Rows L2 Evl
/-! ### the law -/
abbrev sL03 : Stmt := topS 30
theorem scL03 : FnScope ["_law_script", "_law_box", "_law_pane_here", "_law_own", "_law_turn", "_law_beat_here", "_law_look", "_law_session", "_law_sign"] ["_law_script"] (defScope sL03) := ⟨rfl, rfl, rfl, by decide +kernel, rfl, by decide +kernel, by decide +kernel⟩
structure TLaw (mg : Str → Option Value) : Prop where
  z_range : mg "range" = none
structure TLawP (K : PySem.W.Frag) (mg : Str → Option Value) (cP : Addr) : Prop extends TLaw mg where
  cl : Cls K cP
structure CLaw (P : Program) (w : World) (K : PySem.W.Frag) (mg : Str → Option Value) (base : Heap) (cP : Addr) : Prop where
  law_begun : Cal P w K mg base "_law_begun" 1 ["_law_script"] (spBeg K)
  law_take : Cal P w K mg base "_law_take" 1 ["_law_box", "_law_many_here"] spTak
  law_signs : Cal P w K mg base "_law_signs" 2 ["_law_box"] spSgs
  law_pane : Cal P w K mg base "_law_pane" 1 [] spOwn
  law_type : Cal P w K mg base "_law_type" 2 ["_law_p", "_law_look", "_law_session", "_law_sign"] spTyp
  law_beat : Cal P w K mg base "_law_beat" 2 ["_law_p"] spBea
  law_right : Cal P w K mg base "_law_right" 5 ["_law_box", "_law_pane_here", "_law_own"] (spRig cP)
  mk_Pane : NCal P w K mg base cP "Pane" 1 ["self"] (spIn cP)
  press : MCal P w K mg base cP "press" 4 ["self", "look", "session", "sign"] (spPr cP)
  beat : MCal P w K mg base cP "beat" 3 ["self"] (spBe cP)
def spLaw (K : PySem.W.Frag) : Sp := fun vs H Q _ => ∃ (a : Addr) (ns : List Int), vs = [.ref a] ∧ SqL K H a (ns.map V.int) ∧ ns.length ≤ 63 ∧ ∀ H', Q (.bl true) H'
theorem add_len {s : Pn} {x : Str} : (s.addRow x).log.length = s.log.length + 1 := by
  show (s.log ++ [_]).length = _
  rw [List.length_append]
  rfl
theorem set_len {s : Pn} {x : Str} : (s.setLine x).log.length ≤ s.log.length + 1 := by
  unfold Pn.setLine
  split
  · exact Nat.le_succ _
  · show (s.log ++ [_]).length ≤ _
    rw [List.length_append]
    exact Nat.le_refl _
theorem do_len {s : Pn} : s.doLine.log.length ≤ s.log.length + 3 := by
  have h := said_len (s := s)
  unfold Pn.doLine
  split
  · rw [add_len]
    omega
  · split
    · show (s.said.log ++ [_]).length ≤ _
      rw [List.length_append]
      show s.said.log.length + 1 ≤ _
      omega
    · split
      · show s.said.log.length ≤ _
        omega
      · split
        · show s.said.log.length ≤ _
          omega
        · split
          · rw [add_len]
            omega
          · omega
theorem press1_len {s : Pn} {c : Nat} : (s.press1 c).log.length ≤ s.log.length + 3 := by
  unfold Pn.press1
  split
  · exact do_len
  · split
    · exact Nat.le_trans set_len (by omega)
    · split
      · exact Nat.le_trans set_len (by omega)
      · omega
theorem beat_len {s : Pn} : s.beat.log.length ≤ s.log.length + 1 := by
  unfold Pn.beat
  split
  · exact Nat.le_succ _
  · show (s.addRow _).log.length ≤ _
    rw [add_len]
    exact Nat.le_refl _
theorem beat_typed {s : Pn} : s.beat.typed = s.typed := by
  unfold Pn.beat
  split <;> rfl
theorem Rel.beat {s o : Pn} (h : Rel s o) : Rel s.beat o.beat := by
  refine ⟨?_, h.ok.beat, by rw [beat_typed]; exact h.ty⟩
  rw [beat_typed, ← beat_typ, ← h.eq]
theorem typ_typ {s : Pn} {T U : List (List V)} : typ (typ s T) U = typ s U := rfl
theorem typ_typed {s : Pn} {T : List (List V)} : (typ s T).typed = T := rfl
theorem Rel.press {s o : Pn} {i j : Int} {c : Nat} (h : Rel s o) (hc : c ∈ KEY.cps.toList) : Rel (s.press (.int i) (.int j) c) (typ (o.press1 c) (o.typed ++ [[.int i, .int j, .str (sg c)]])) := by
  obtain ⟨e, ok, ty⟩ := h
  have e1 : s.typed = lst 100 o.typed := by rw [e, typ_typed]
  have e2 : ∀ T, typ s T = typ o T := fun T => by rw [e, typ_typ]
  refine ⟨?_, ok.press hc, fun x hx => ?_⟩
  · rw [press_is, e2, e1, lst_snoc, press1_typ, typ_typ, typ_typed]
  · rw [typ_typed] at hx
    rcases List.mem_append.mp hx with hx | hx
    · exact ty x hx
    · rw [List.mem_singleton.mp hx]
      exact ⟨i, j, c, rfl, of_decide_eq_true (List.all_eq_true.mp key_low c hc)⟩
theorem Rel.new : Rel Pn.new Pn.new := ⟨rfl, POk.new, fun _ h => nomatch h⟩
section
variable {P : Program} {w : World} {K : PySem.W.Frag} {mg : Str → Option Value} {base : Heap}
theorem ok_law {f cP : Addr} {fd : FuncData} (F : Fun K "law" "law" sL03 f fd) (T : TLawP K mg cP) (C : CLaw P w K mg base cP) : FnOk P w K mg base CX0 6 f fd ["_law_script"] (spLaw K) := by
  refine F.ok scL03 (fun vs H Q E h => ?_) (fun cdv A outer s H vs Q E hr h => ?_)
  · obtain ⟨a, ns, rfl, _⟩ := h
    rfl
  · obtain ⟨a, ns, rfl, hS, hlen, q⟩ := h
    refine ⟨_, (pss_cons (ps_set (i := 1) scL03.nd rfl (Or.inl rfl) (pcall C.law_begun (hr.mono (by first | decide | omega)) (pa_cons (pv 0) pa_nil)))
      (pss_cons (ps_par (i := 2) (j := 3) (by rfl) scL03.nd rfl rfl (by decide) rfl rfl (pa_cons (pmake0 C.mk_Pane (hr.mono (by first | decide | omega))) (pa_cons (pcall0 C.law_pane (hr.mono (by first | decide | omega))) pa_nil)) (by rfl))
      (pss_cons (ps_for PassesOwn.never rfl (pi_range1 rfl T.z_range (pa_cons (pcall C.law_take (hr.mono (by first | decide | omega)) (pa_cons (pv 1) (pa_cons (pe_ix ix_list (pe_lst (pa_cons pe_int (pa_cons pe_int pa_nil))) (pcall C.law_take (hr.mono (by first | decide | omega)) (pa_cons (pv 1) (pa_cons pe_int pa_nil))) (fun _ _ => rfl)) pa_nil))) pa_nil)) (pg_name (i := 4) scL03.nd rfl (Or.inl rfl)) (pss_cut (ps_if (pt_cmpR op_eq (pcall C.law_take (hr.mono (by first | decide | omega)) (pa_cons (pv 1) (pa_cons pe_int pa_nil))) pe_int (nomark _)) (pss_one (ps_for PassesOwn.never rfl (pi_range1 rfl T.z_range (pa_cons (pcall C.law_take (hr.mono (by first | decide | omega)) (pa_cons (pv 1) (pa_cons (pe_ix ix_list (pe_lst (pa_cons pe_int (pa_cons pe_int (pa_cons pe_int pa_nil)))) (pcall C.law_take (hr.mono (by first | decide | omega)) (pa_cons (pv 1) (pa_cons pe_int pa_nil))) (fun _ _ => rfl)) pa_nil))) pa_nil)) (pg_name (i := 5) scL03.nd rfl (Or.inl rfl)) (pss_cons (ps_expr (pmeth0 (pv 2) T.cl C.beat (hr.mono (by first | decide | omega))))
      (pss_one (ps_expr (pcall C.law_beat (hr.mono (by first | decide | omega)) (pa_cons (pv 3) pa_nil))))))) (pss_cons (ps_par (i := 6) (j := 7) (by rfl) scL03.nd rfl rfl (by decide) rfl rfl (pa_cons (pcall C.law_take (hr.mono (by first | decide | omega)) (pa_cons (pv 1) (pa_cons pe_int pa_nil))) (pa_cons (pe_op op_add pe_int (pcall C.law_take (hr.mono (by first | decide | omega)) (pa_cons (pv 1) (pa_cons (pe_op op_pow pe_int pe_int) pa_nil)))) pa_nil)) (by rfl))
      (pss_one (ps_for PassesOwn.never rfl (pi_str (pcall C.law_signs (hr.mono (by first | decide | omega)) (pa_cons (pv 1) pa_nil))) (pg_name (i := 8) scL03.nd rfl (Or.inl rfl)) (pss_cons (ps_expr (pmeth (pv 2) T.cl C.press (hr.mono (by first | decide | omega)) (pa_cons (pv 6) (pa_cons (pv 7) (pa_cons (pv 8) pa_nil)))))
      (pss_one (ps_expr (pcall C.law_type (hr.mono (by first | decide | omega)) (pa_cons (pv 3) (pa_cons (pv 6) (pa_cons (pv 7) (pa_cons (pv 8) pa_nil))))))))))))
      (pss_one (ps_if (pt_not (pt_val (pcall C.law_right (hr.mono (by first | decide | omega)) (pa_cons (pv 1) (pa_cons (pv 2) (pa_cons (pv 3) pa_nil)))))) (pss_one (ps_ret pe_bl)) pss_nil))))
      (pss_one (ps_ret pe_bl))))), ?_⟩
    refine ⟨_, rfl, a, ns, rfl, hS, hlen, fun b l Hb _ B => ?_⟩
    -- the two panes
    intro p dx np ndx ne
    have x1 : Ex Hb (upd (upd Hb dx (.own p)) p (.ins cP dx [])) := ex_set (Ex.new ndx) np
    refine ⟨Hb, p, dx, rfl, x1, np, upd_same, fun H1 R1 => ⟨rfl, ?_⟩⟩
    refine ⟨rfl, fun d H2 W2 => ?_⟩
    have W0 : Both cP Hb H2 p d Pn.new Pn.new := by
      obtain ⟨H3, k1, k2⟩ := Beh.swap (panT cP p Pn.new) (ownT d Pn.new) (pan_beh.mp R1) (own_beh.mp W2)
      exact ⟨H3, own_beh.mpr k1, pan_beh.mpr k2⟩
    clear R1 W2 x1 ne np ndx
    refine ⟨_, _, rfl, ?_⟩
    refine ⟨_, rfl, (by show 2 ≤ sizeLine; decide), fun t nt => ?_⟩
    have WA := W0.ex (Ex.new (o := .lst [.int 10, .int 40]) nt)
    refine ⟨_, rfl, b, l, 2, rfl, B.ex WA.base, by decide, by decide, fun k H3 e3 k0 k1 => ?_⟩
    obtain ⟨m, hm, hm0, hm2⟩ : ∃ m : Int, atI [V.int 10, V.int 40] k = some (.int m) ∧ 0 < m ∧ m ≤ 40 := by
      rcases (show k = 0 ∨ k = 1 by omega) with rfl | rfl
      · exact ⟨10, rfl, by decide, by decide⟩
      · exact ⟨40, rfl, by decide, by decide⟩
    refine ⟨t, _, _, _, rfl, rfl, SqL.of (e3 _ _ upd_same), hm, b, l, m, rfl, B.ex (WA.ex e3).base, hm0, by omega, fun n H4 e4 n0 n1 => ?_⟩
    have W4 := (WA.ex e3).ex e4
    clear e4 e3 WA W0 hm nt
    refine ⟨n, rfl, by omega, by omega, ?_⟩
    refine for_it walk_range (fun i σ H' => ∃ c4 c5 c6 c7 c8 st o, σ = [some (.ref a), some (.ref b), some (.ref p), some (.ref d), c4, c5, c6, c7, c8] ∧ Both cP Hb H' p d st o ∧ Rel st o ∧ o.log.length ≤ 5000 * i ∧ o.typed.length ≤ 5000 * i)
      ⟨_, _, _, _, _, Pn.new, Pn.new, rfl, W4, Rel.new, Nat.zero_le _, Nat.zero_le _⟩ (fun _ _ _ _ _ => trivial) ?_ ?_
    · clear W4
      rintro i x σ Hio Hi hi ⟨c4, c5, c6, c7, c8, s0, o0, rfl, W, Re, lg, lt⟩ ⟨rfl, rfl⟩
      have hi40 : i < 40 := by omega
      refine ⟨fun σ' H' => ∃ c5 c6 c7 c8 st o, σ' = [some (.ref a), some (.ref b), some (.ref p), some (.ref d), some (.int (0 + (i : Nat))), c5, c6, c7, c8] ∧ Both cP Hb H' p d st o ∧ Rel st o ∧ o.log.length ≤ 5000 * i + 5000 ∧ o.typed.length ≤ 5000 * i + 5000, ?_, ?_⟩
      · refine ⟨_, rfl, b, l, 3, rfl, B.ex W.base, by decide, by decide, fun k3 H5 e5 k30 k31 => ?_⟩
        have W5 := W.ex e5
        refine ⟨rfl, _, rfl, ite2 (fun _ => ?_) (fun _ => ?_)⟩
        · -- beats
          refine ⟨_, rfl, (by show 3 ≤ sizeLine; decide), fun t nt => ?_⟩
          have WA := W5.ex (Ex.new (o := .lst [.int 3, .int 12, .int 120]) nt)
          refine ⟨_, rfl, b, l, 3, rfl, B.ex WA.base, by decide, by decide, fun k H6 e6 k0 k1 => ?_⟩
          obtain ⟨m, hm, hm0, hm2⟩ : ∃ m : Int, atI [V.int 3, V.int 12, V.int 120] k = some (.int m) ∧ 0 < m ∧ m ≤ 120 := by
            rcases (show k = 0 ∨ k = 1 ∨ k = 2 by omega) with rfl | rfl | rfl
            · exact ⟨3, rfl, by decide, by decide⟩
            · exact ⟨12, rfl, by decide, by decide⟩
            · exact ⟨120, rfl, by decide, by decide⟩
          refine ⟨t, _, _, _, rfl, rfl, SqL.of (e6 _ _ upd_same), hm, b, l, m, rfl, B.ex (WA.ex e6).base, hm0, by omega, fun nb H7 e7 nb0 nb1 => ?_⟩
          have W7 := (WA.ex e6).ex e7
          refine ⟨nb, rfl, by omega, by omega, ?_⟩
          refine for_it walk_range (fun j σ H' => ∃ c5 st o, σ = [some (.ref a), some (.ref b), some (.ref p), some (.ref d), some (.int (0 + (i : Nat))), c5, c6, c7, c8] ∧ Both cP Hb H' p d st o ∧ Rel st o ∧ o.log.length ≤ 5000 * i + j ∧ o.typed.length ≤ 5000 * i)
            ⟨_, s0, o0, rfl, W7, Re, by omega, lt⟩ (fun _ _ _ _ _ => trivial) ?_ ?_
          · rintro j x σ Hjo Hj hj ⟨c5, s1, o1, rfl, W, Re, lg, lt⟩ ⟨rfl, rfl⟩
            obtain ⟨G, R, back⟩ := W.left
            obtain ⟨d0, r0, t0, u0, jv, b0, j0⟩ := R.at
            refine ⟨_, rfl, p, d0, _, rfl, b0, pf_no (by decide +kernel) (by decide +kernel) (by decide +kernel) (by decide +kernel) (by decide +kernel) (by decide +kernel), G, p, s1, rfl, R, Re.ok, fun H8 R8 => ?_⟩
            have W8 := back _ _ R8
            obtain ⟨G2, R2, back2⟩ := W8.right
            have ej : s1.job = o1.job := by rw [Re.eq]; rfl
            have er : s1.rows = o1.rows := by rw [Re.eq]; rfl
            refine ⟨_, rfl, G2, d, o1, rfl, R2, fun b n h => Re.ok.job b n (by rw [ej]; exact h), by rw [← er]; exact Re.ok.rows, by omega, fun H9 R9 => ?_⟩
            exact ⟨_, _, _, rfl, back2 _ _ R9, Re.beat, Nat.le_trans beat_len (by omega), by rw [beat_typed]; exact lt⟩
          · rintro σ Hj ⟨c5, s1, o1, rfl, W, Re, lg, lt⟩
            exact ⟨_, _, _, _, s1, o1, rfl, W, Re, by omega, by omega⟩
        · -- signs
          refine ⟨_, rfl, b, l, 4, rfl, B.ex W5.base, by decide, by decide, fun lk H6 e6 lk0 lk1 => ?_⟩
          have W6 := W5.ex e6
          refine ⟨_, rfl, _, _, rfl, rfl, ⟨by decide, by decide, by decide⟩, b, l, _, rfl, B.ex W6.base, by decide, by decide, fun se H7 e7 se0 se1 => ⟨_, _, rfl, rfl, _, _, rfl, ?_⟩⟩
          have W7 := W6.ex e7
          refine ⟨_, rfl, b, l, rfl, B.ex W7.base, fun z H8 e8 lz kz => ⟨z, rfl, ?_⟩⟩
          have W8 := W7.ex e8
          have zsz : z.cps.size ≤ 1000 := lz
          refine for_it walk_str (fun j σ H' => ∃ c8 st o, σ = [some (.ref a), some (.ref b), some (.ref p), some (.ref d), some (.int (0 + (i : Nat))), c5, some (.int lk), some (.int (1 + se)), c8] ∧ Both cP Hb H' p d st o ∧ Rel st o ∧ o.log.length ≤ 5000 * i + 3 * j ∧ o.typed.length ≤ 5000 * i + j)
            ⟨_, s0, o0, rfl, W8, Re, lg, lt⟩ (fun _ _ _ _ _ => trivial) ?_ ?_
          · clear W8 W7 W6 W5 W e8 e7 e6 e5 Re lg lt
            rintro j x σ Hj Hj' hj ⟨c8, s1, o1, rfl, W, Re, lg, lt⟩ ⟨rfl, cc, hcc, rfl⟩
            have hk : cc ∈ KEY.cps.toList := kz cc (List.mem_of_getElem? (by rw [Array.getElem?_toList]; exact hcc))
            obtain ⟨G, R, back⟩ := W.left
            obtain ⟨d0, r0, t0, u0, jv, b0, j0⟩ := R.at
            refine ⟨_, rfl, p, d0, _, rfl, b0, pf_no (by decide +kernel) (by decide +kernel) (by decide +kernel) (by decide +kernel) (by decide +kernel) (by decide +kernel), _, rfl, _, rfl, _, rfl, G, p, s1, _, _, cc, rfl, hk, R, Re.ok, fun H9 R9 => ?_⟩
            have W9 := back _ _ R9
            obtain ⟨G2, R2, back2⟩ := W9.right
            have el : s1.line = o1.line := by rw [Re.eq]; rfl
            have er : s1.rows = o1.rows := by rw [Re.eq]; rfl
            refine ⟨_, rfl, _, rfl, _, rfl, _, rfl, G2, d, o1, .int lk, .int (1 + se), cc, rfl, R2, by rw [← er]; exact Re.ok.rows, by rw [← el]; exact Re.ok.lasc, by rw [← el]; exact Re.ok.line, by omega, by omega, fun H10 R10 => ?_⟩
            refine ⟨_, _, _, rfl, back2 _ _ R10, Re.press hk, ?_, ?_⟩
            · have hp : (o1.press1 cc).log.length ≤ o1.log.length + 3 := press1_len
              show (o1.press1 cc).log.length ≤ _
              omega
            · rw [typ_typed, List.length_append, List.length_singleton]
              omega
          · rintro σ Hj ⟨c8, s1, o1, rfl, W, Re, lg, lt⟩
            exact ⟨_, _, _, _, s1, o1, rfl, W, Re, by omega, by omega⟩
      · clear W Re lg lt
        rintro σ' H5 ⟨c5, c6, c7, c8, s1, o1, rfl, W, Re, lg, lt⟩
        refine ⟨_, rfl, _, rfl, _, rfl, Hb, b, l, p, d, s1, o1, rfl, B, W, Re, by omega, by omega, fun H6 W6 => ⟨_, rfl, iteF ?_⟩⟩
        exact ⟨_, _, _, _, _, s1, o1, rfl, W6, Re, by omega, by omega⟩
    · rintro σ H' ⟨c4, c5, c6, c7, c8, st, o, rfl, _⟩
      exact q _
end
end Vf
namespace Vf
open PySem PySem.Spec PyProof.Rows L2 Evl
/-! ### what the top has written -/
theorem all_mk {l : PySem.W.OpenLaw} {w : World} {K : PySem.W.Frag} {h : Heap} {mg : Str → Option Value} {fa f1 f2 f3 f4 f5 f6 f7 f8 f9 f10 f11 f12 f13 f14 f15 f16 cP f17 f18 f19 f20 f21 f22 f23 f24 f25 f26 f27 f28 f29 f30 : Addr} (X : K.In h) (G : h.Ns mainGlobals mg) (hfa : mg "law" = some (.ref fa))
    {od1 an1 od2 an2 od3 an3 od4 an4 od5 an5 od6 an6 od7 an7 od8 an8 od9 an9 od10 an10 od11 an11 od12 an12 od13 an13 od14 an14 od15 an15 od16 an16 od17 an17 od18 an18 od19 an19 od20 an20 od21 an21 od22 an22 od23 an23 od24 an24 od25 an25 od26 an26 od27 an27 od28 an28 od29 an29 od30 an30 : Option Addr} {sl1 sl2 sl3 sl4 sl5 sl6 sl7 sl8 sl9 sl10 sl11 sl12 sl13 sl14 sl15 sl16 sl17 sl18 sl19 sl20 sl21 sl22 sl23 sl24 sl25 sl26 sl27 sl28 sl29 sl30 : Array (Option Value)} {oc1 kV1 dc1 pm1 cd1 ct1 oc2 kV2 dc2 pm2 cd2 ct2 oc3 kV3 dc3 pm3 cd3 ct3 oc4 kV4 dc4 pm4 cd4 ct4 oc5 kV5 dc5 pm5 cd5 ct5 oc6 kV6 dc6 pm6 cd6 ct6 oc7 kV7 dc7 pm7 cd7 ct7 oc8 kV8 dc8 pm8 cd8 ct8 oc9 kV9 dc9 pm9 cd9 ct9 oc10 kV10 dc10 pm10 cd10 ct10 oc11 kV11 dc11 pm11 cd11 ct11 oc12 kV12 dc12 pm12 cd12 ct12 oc13 kV13 dc13 pm13 cd13 ct13 oc14 kV14 dc14 pm14 cd14 ct14 oc15 kV15 dc15 pm15 cd15 ct15 oc16 kV16 dc16 pm16 cd16 ct16 oc17 kV17 dc17 pm17 cd17 ct17 oc18 kV18 dc18 pm18 cd18 ct18 oc19 kV19 dc19 pm19 cd19 ct19 oc20 kV20 dc20 pm20 cd20 ct20 oc21 kV21 dc21 pm21 cd21 ct21 oc22 kV22 dc22 pm22 cd22 ct22 oc23 kV23 dc23 pm23 cd23 ct23 oc24 kV24 dc24 pm24 cd24 ct24 oc25 kV25 dc25 pm25 cd25 ct25 oc26 kV26 dc26 pm26 cd26 ct26 oc27 kV27 dc27 pm27 cd27 ct27 oc28 kV28 dc28 pm28 cd28 ct28 oc29 kV29 dc29 pm29 cd29 ct29 oc30 kV30 dc30 pm30 cd30 ct30 : Value} {t_KEYS t_SAY t_MANY t_LINE_SIGNS t_ROWS_KEPT t_TYPED_KEPT t_CHANGES_KEPT : Tok}
    (a1 : PySem.W.nsIn K mainGlobals "is_number" = some (some (.ref f1))) (l1 : K.lookup f1 = some ⟨oc1, od1, .func (PySem.W.fnOf "is_number" "is_number" (defArgs sIsN) (defBody sIsN) (defScope sIsN) .none kV1 dc1 pm1 an1 cd1 ct1), sl1⟩) (c1 : PySem.W.codeIn K cd1 "is_number" = true) (k1 : PySem.W.keepIn K (.ref f1) = true)
    (a2 : PySem.W.nsIn K mainGlobals "is_within" = some (some (.ref f2))) (l2 : K.lookup f2 = some ⟨oc2, od2, .func (PySem.W.fnOf "is_within" "is_within" (defArgs sWit) (defBody sWit) (defScope sWit) .none kV2 dc2 pm2 an2 cd2 ct2), sl2⟩) (c2 : PySem.W.codeIn K cd2 "is_within" = true) (k2 : PySem.W.keepIn K (.ref f2) = true)
    (a3 : PySem.W.nsIn K mainGlobals "number_of" = some (some (.ref f3))) (l3 : K.lookup f3 = some ⟨oc3, od3, .func (PySem.W.fnOf "number_of" "number_of" (defArgs sNum) (defBody sNum) (defScope sNum) .none kV3 dc3 pm3 an3 cd3 ct3), sl3⟩) (c3 : PySem.W.codeIn K cd3 "number_of" = true) (k3 : PySem.W.keepIn K (.ref f3) = true)
    (a4 : PySem.W.nsIn K mainGlobals "wrong_place" = some (some (.ref f4))) (l4 : K.lookup f4 = some ⟨oc4, od4, .func (PySem.W.fnOf "wrong_place" "wrong_place" (defArgs sWrp) (defBody sWrp) (defScope sWrp) .none kV4 dc4 pm4 an4 cd4 ct4), sl4⟩) (c4 : PySem.W.codeIn K cd4 "wrong_place" = true) (k4 : PySem.W.keepIn K (.ref f4) = true)
    (a5 : PySem.W.nsIn K mainGlobals "job_size" = some (some (.ref f5))) (l5 : K.lookup f5 = some ⟨oc5, od5, .func (PySem.W.fnOf "job_size" "job_size" (defArgs sJsz) (defBody sJsz) (defScope sJsz) .none kV5 dc5 pm5 an5 cd5 ct5), sl5⟩) (c5 : PySem.W.codeIn K cd5 "job_size" = true) (k5 : PySem.W.keepIn K (.ref f5) = true)
    (a6 : PySem.W.nsIn K mainGlobals "_law_begun" = some (some (.ref f6))) (l6 : K.lookup f6 = some ⟨oc6, od6, .func (PySem.W.fnOf "_law_begun" "_law_begun" (defArgs sBeg) (defBody sBeg) (defScope sBeg) .none kV6 dc6 pm6 an6 cd6 ct6), sl6⟩) (c6 : PySem.W.codeIn K cd6 "_law_begun" = true) (k6 : PySem.W.keepIn K (.ref f6) = true)
    (a7 : PySem.W.nsIn K mainGlobals "_law_take" = some (some (.ref f7))) (l7 : K.lookup f7 = some ⟨oc7, od7, .func (PySem.W.fnOf "_law_take" "_law_take" (defArgs sTak) (defBody sTak) (defScope sTak) .none kV7 dc7 pm7 an7 cd7 ct7), sl7⟩) (c7 : PySem.W.codeIn K cd7 "_law_take" = true) (k7 : PySem.W.keepIn K (.ref f7) = true)
    (a8 : PySem.W.nsIn K mainGlobals "_law_alike" = some (some (.ref f8))) (l8 : K.lookup f8 = some ⟨oc8, od8, .func (PySem.W.fnOf "_law_alike" "_law_alike" (defArgs sAli) (defBody sAli) (defScope sAli) .none kV8 dc8 pm8 an8 cd8 ct8), sl8⟩) (c8 : PySem.W.codeIn K cd8 "_law_alike" = true) (k8 : PySem.W.keepIn K (.ref f8) = true)
    (a9 : PySem.W.nsIn K mainGlobals "_law_signs" = some (some (.ref f9))) (l9 : K.lookup f9 = some ⟨oc9, od9, .func (PySem.W.fnOf "_law_signs" "_law_signs" (defArgs sSgs) (defBody sSgs) (defScope sSgs) .none kV9 dc9 pm9 an9 cd9 ct9), sl9⟩) (c9 : PySem.W.codeIn K cd9 "_law_signs" = true) (k9 : PySem.W.keepIn K (.ref f9) = true)
    (a10 : PySem.W.nsIn K mainGlobals "_law_pane" = some (some (.ref f10))) (l10 : K.lookup f10 = some ⟨oc10, od10, .func (PySem.W.fnOf "_law_pane" "_law_pane" (defArgs sOwn) (defBody sOwn) (defScope sOwn) .none kV10 dc10 pm10 an10 cd10 ct10), sl10⟩) (c10 : PySem.W.codeIn K cd10 "_law_pane" = true) (k10 : PySem.W.keepIn K (.ref f10) = true)
    (a11 : PySem.W.nsIn K mainGlobals "_law_change" = some (some (.ref f11))) (l11 : K.lookup f11 = some ⟨oc11, od11, .func (PySem.W.fnOf "_law_change" "_law_change" (defArgs sChg) (defBody sChg) (defScope sChg) .none kV11 dc11 pm11 an11 cd11 ct11), sl11⟩) (c11 : PySem.W.codeIn K cd11 "_law_change" = true) (k11 : PySem.W.keepIn K (.ref f11) = true)
    (a12 : PySem.W.nsIn K mainGlobals "_law_many" = some (some (.ref f12))) (l12 : K.lookup f12 = some ⟨oc12, od12, .func (PySem.W.fnOf "_law_many" "_law_many" (defArgs sMny) (defBody sMny) (defScope sMny) .none kV12 dc12 pm12 an12 cd12 ct12), sl12⟩) (c12 : PySem.W.codeIn K cd12 "_law_many" = true) (k12 : PySem.W.keepIn K (.ref f12) = true)
    (a13 : PySem.W.nsIn K mainGlobals "_law_type" = some (some (.ref f13))) (l13 : K.lookup f13 = some ⟨oc13, od13, .func (PySem.W.fnOf "_law_type" "_law_type" (defArgs sTyp) (defBody sTyp) (defScope sTyp) .none kV13 dc13 pm13 an13 cd13 ct13), sl13⟩) (c13 : PySem.W.codeIn K cd13 "_law_type" = true) (k13 : PySem.W.keepIn K (.ref f13) = true)
    (a14 : PySem.W.nsIn K mainGlobals "_law_beat" = some (some (.ref f14))) (l14 : K.lookup f14 = some ⟨oc14, od14, .func (PySem.W.fnOf "_law_beat" "_law_beat" (defArgs sBea) (defBody sBea) (defScope sBea) .none kV14 dc14 pm14 an14 cd14 ct14), sl14⟩) (c14 : PySem.W.codeIn K cd14 "_law_beat" = true) (k14 : PySem.W.keepIn K (.ref f14) = true)
    (a15 : PySem.W.nsIn K mainGlobals "_law_right" = some (some (.ref f15))) (l15 : K.lookup f15 = some ⟨oc15, od15, .func (PySem.W.fnOf "_law_right" "_law_right" (defArgs sRig) (defBody sRig) (defScope sRig) .none kV15 dc15 pm15 an15 cd15 ct15), sl15⟩) (c15 : PySem.W.codeIn K cd15 "_law_right" = true) (k15 : PySem.W.keepIn K (.ref f15) = true)
    (a16 : PySem.W.nsIn K mainGlobals "law" = some (some (.ref f16))) (l16 : K.lookup f16 = some ⟨oc16, od16, .func (PySem.W.fnOf "law" "law" (defArgs sL03) (defBody sL03) (defScope sL03) .none kV16 dc16 pm16 an16 cd16 ct16), sl16⟩) (c16 : PySem.W.codeIn K cd16 "law" = true) (k16 : PySem.W.keepIn K (.ref f16) = true)
    (aC_Pane : PySem.W.nsIn K mainGlobals "Pane" = some (some (.ref cP))) (pg_Pane : PySem.W.plainGet K cP Str.empty = true) (hd_Pane : PySem.W.hasDictIn K cP = true) (po_Pane : PySem.W.plainOver K cP = true) (sa_Pane : PySem.W.findIn K (.ref cP) "__setattr__" = some (some (.builtin "object.__setattr__"))) (mk_Pane : PySem.W.makesIn K cP = true) (kc_Pane : PySem.W.keepIn K (.ref cP) = true)
    (nf_Pane_rows : PySem.W.findIn K (.ref cP) "_rows" = some none)
    (nf_Pane_line : PySem.W.findIn K (.ref cP) "_line" = some none)
    (nf_Pane_job : PySem.W.findIn K (.ref cP) "_job" = some none)
    (nf_Pane_typed : PySem.W.findIn K (.ref cP) "_typed" = some none)
    (nf_Pane_changes : PySem.W.findIn K (.ref cP) "_changes" = some none)
    (nf_Pane_latest : PySem.W.findIn K (.ref cP) "_latest" = some none)
    (a17 : PySem.W.findIn K (.ref cP) "__init__" = some (some (.ref f17))) (i17 : PySem.W.isFn K (.ref f17) = true) (l17 : K.lookup f17 = some ⟨oc17, od17, .func (PySem.W.fnOf "__init__" "Pane.__init__" (defArgs sPIn) (defBody sPIn) (defScope sPIn) .none kV17 dc17 pm17 an17 cd17 ct17), sl17⟩) (c17 : PySem.W.codeIn K cd17 "Pane.__init__" = true) (k17 : PySem.W.keepIn K (.ref f17) = true)
    (a18 : PySem.W.findIn K (.ref cP) "press" = some (some (.ref f18))) (i18 : PySem.W.isFn K (.ref f18) = true) (l18 : K.lookup f18 = some ⟨oc18, od18, .func (PySem.W.fnOf "press" "Pane.press" (defArgs sPPr) (defBody sPPr) (defScope sPPr) .none kV18 dc18 pm18 an18 cd18 ct18), sl18⟩) (c18 : PySem.W.codeIn K cd18 "Pane.press" = true) (k18 : PySem.W.keepIn K (.ref f18) = true)
    (a19 : PySem.W.findIn K (.ref cP) "beat" = some (some (.ref f19))) (i19 : PySem.W.isFn K (.ref f19) = true) (l19 : K.lookup f19 = some ⟨oc19, od19, .func (PySem.W.fnOf "beat" "Pane.beat" (defArgs sPBe) (defBody sPBe) (defScope sPBe) .none kV19 dc19 pm19 an19 cd19 ct19), sl19⟩) (c19 : PySem.W.codeIn K cd19 "Pane.beat" = true) (k19 : PySem.W.keepIn K (.ref f19) = true)
    (a20 : PySem.W.findIn K (.ref cP) "rows" = some (some (.ref f20))) (i20 : PySem.W.isFn K (.ref f20) = true) (l20 : K.lookup f20 = some ⟨oc20, od20, .func (PySem.W.fnOf "rows" "Pane.rows" (defArgs sPRo) (defBody sPRo) (defScope sPRo) .none kV20 dc20 pm20 an20 cd20 ct20), sl20⟩) (c20 : PySem.W.codeIn K cd20 "Pane.rows" = true) (k20 : PySem.W.keepIn K (.ref f20) = true)
    (a21 : PySem.W.findIn K (.ref cP) "line" = some (some (.ref f21))) (i21 : PySem.W.isFn K (.ref f21) = true) (l21 : K.lookup f21 = some ⟨oc21, od21, .func (PySem.W.fnOf "line" "Pane.line" (defArgs sPLi) (defBody sPLi) (defScope sPLi) .none kV21 dc21 pm21 an21 cd21 ct21), sl21⟩) (c21 : PySem.W.codeIn K cd21 "Pane.line" = true) (k21 : PySem.W.keepIn K (.ref f21) = true)
    (a22 : PySem.W.findIn K (.ref cP) "job" = some (some (.ref f22))) (i22 : PySem.W.isFn K (.ref f22) = true) (l22 : K.lookup f22 = some ⟨oc22, od22, .func (PySem.W.fnOf "job" "Pane.job" (defArgs sPJo) (defBody sPJo) (defScope sPJo) .none kV22 dc22 pm22 an22 cd22 ct22), sl22⟩) (c22 : PySem.W.codeIn K cd22 "Pane.job" = true) (k22 : PySem.W.keepIn K (.ref f22) = true)
    (a23 : PySem.W.findIn K (.ref cP) "changes" = some (some (.ref f23))) (i23 : PySem.W.isFn K (.ref f23) = true) (l23 : K.lookup f23 = some ⟨oc23, od23, .func (PySem.W.fnOf "changes" "Pane.changes" (defArgs sPCh) (defBody sPCh) (defScope sPCh) .none kV23 dc23 pm23 an23 cd23 ct23), sl23⟩) (c23 : PySem.W.codeIn K cd23 "Pane.changes" = true) (k23 : PySem.W.keepIn K (.ref f23) = true)
    (a24 : PySem.W.findIn K (.ref cP) "typed" = some (some (.ref f24))) (i24 : PySem.W.isFn K (.ref f24) = true) (l24 : K.lookup f24 = some ⟨oc24, od24, .func (PySem.W.fnOf "typed" "Pane.typed" (defArgs sPTy) (defBody sPTy) (defScope sPTy) .none kV24 dc24 pm24 an24 cd24 ct24), sl24⟩) (c24 : PySem.W.codeIn K cd24 "Pane.typed" = true) (k24 : PySem.W.keepIn K (.ref f24) = true)
    (a25 : PySem.W.findIn K (.ref cP) "since" = some (some (.ref f25))) (i25 : PySem.W.isFn K (.ref f25) = true) (l25 : K.lookup f25 = some ⟨oc25, od25, .func (PySem.W.fnOf "since" "Pane.since" (defArgs sPSi) (defBody sPSi) (defScope sPSi) .none kV25 dc25 pm25 an25 cd25 ct25), sl25⟩) (c25 : PySem.W.codeIn K cd25 "Pane.since" = true) (k25 : PySem.W.keepIn K (.ref f25) = true)
    (a26 : PySem.W.findIn K (.ref cP) "_do_line" = some (some (.ref f26))) (i26 : PySem.W.isFn K (.ref f26) = true) (l26 : K.lookup f26 = some ⟨oc26, od26, .func (PySem.W.fnOf "_do_line" "Pane._do_line" (defArgs sPDo) (defBody sPDo) (defScope sPDo) .none kV26 dc26 pm26 an26 cd26 ct26), sl26⟩) (c26 : PySem.W.codeIn K cd26 "Pane._do_line" = true) (k26 : PySem.W.keepIn K (.ref f26) = true)
    (a27 : PySem.W.findIn K (.ref cP) "_add_row" = some (some (.ref f27))) (i27 : PySem.W.isFn K (.ref f27) = true) (l27 : K.lookup f27 = some ⟨oc27, od27, .func (PySem.W.fnOf "_add_row" "Pane._add_row" (defArgs sPAr) (defBody sPAr) (defScope sPAr) .none kV27 dc27 pm27 an27 cd27 ct27), sl27⟩) (c27 : PySem.W.codeIn K cd27 "Pane._add_row" = true) (k27 : PySem.W.keepIn K (.ref f27) = true)
    (a28 : PySem.W.findIn K (.ref cP) "_clear_rows" = some (some (.ref f28))) (i28 : PySem.W.isFn K (.ref f28) = true) (l28 : K.lookup f28 = some ⟨oc28, od28, .func (PySem.W.fnOf "_clear_rows" "Pane._clear_rows" (defArgs sPCl) (defBody sPCl) (defScope sPCl) .none kV28 dc28 pm28 an28 cd28 ct28), sl28⟩) (c28 : PySem.W.codeIn K cd28 "Pane._clear_rows" = true) (k28 : PySem.W.keepIn K (.ref f28) = true)
    (a29 : PySem.W.findIn K (.ref cP) "_set_line" = some (some (.ref f29))) (i29 : PySem.W.isFn K (.ref f29) = true) (l29 : K.lookup f29 = some ⟨oc29, od29, .func (PySem.W.fnOf "_set_line" "Pane._set_line" (defArgs sPSl) (defBody sPSl) (defScope sPSl) .none kV29 dc29 pm29 an29 cd29 ct29), sl29⟩) (c29 : PySem.W.codeIn K cd29 "Pane._set_line" = true) (k29 : PySem.W.keepIn K (.ref f29) = true)
    (a30 : PySem.W.findIn K (.ref cP) "_add_change" = some (some (.ref f30))) (i30 : PySem.W.isFn K (.ref f30) = true) (l30 : K.lookup f30 = some ⟨oc30, od30, .func (PySem.W.fnOf "_add_change" "Pane._add_change" (defArgs sPAc) (defBody sPAc) (defScope sPAc) .none kV30 dc30 pm30 an30 cd30 ct30), sl30⟩) (c30 : PySem.W.codeIn K cd30 "Pane._add_change" = true) (k30 : PySem.W.keepIn K (.ref f30) = true)
    (z_isinstance : PySem.W.nsIn K mainGlobals "isinstance" = some none)
    (z_bool : PySem.W.nsIn K mainGlobals "bool" = some none)
    (z_list : PySem.W.nsIn K mainGlobals "list" = some none)
    (z_int : PySem.W.nsIn K mainGlobals "int" = some none)
    (z_len : PySem.W.nsIn K mainGlobals "len" = some none)
    (z_str : PySem.W.nsIn K mainGlobals "str" = some none)
    (z_tuple : PySem.W.nsIn K mainGlobals "tuple" = some none)
    (z_range : PySem.W.nsIn K mainGlobals "range" = some none)
    (z_enumerate : PySem.W.nsIn K mainGlobals "enumerate" = some none)
    (mg_KEYS : PySem.W.nsIn K mainGlobals "KEYS" = some (some (.str KEY t_KEYS)))
    (mg_SAY : PySem.W.nsIn K mainGlobals "SAY" = some (some (.str "say " t_SAY)))
    (mg_MANY : PySem.W.nsIn K mainGlobals "MANY" = some (some (.str "many " t_MANY)))
    (mg_LINE_SIGNS : PySem.W.nsIn K mainGlobals "LINE_SIGNS" = some (some (.int 30 t_LINE_SIGNS)))
    (mg_ROWS_KEPT : PySem.W.nsIn K mainGlobals "ROWS_KEPT" = some (some (.int 40 t_ROWS_KEPT)))
    (mg_TYPED_KEPT : PySem.W.nsIn K mainGlobals "TYPED_KEPT" = some (some (.int 100 t_TYPED_KEPT)))
    (mg_CHANGES_KEPT : PySem.W.nsIn K mainGlobals "CHANGES_KEPT" = some (some (.int 30 t_CHANGES_KEPT)))
    : ∃ fd : FuncData, (∀ (s : Shared) (v : Value), BindsTo s fd ⟨[v], []⟩ [("_law_script", v)]) ∧ ∀ base : Heap, K.In base → base.Ns mainGlobals mg → FnOk l.prog w K mg base CX0 6 fa fd ["_law_script"] (spLaw K) := by
  have e := hfa.symm.trans (PySem.W.mg_of X G a16)
  cases e
  have FIsN := fun_mk (st := sIsN) l1 c1 k1
  have bIsN := FIsN.binds (ps := ["number"]) fun _ _ _ _ _ _ us hl => match us, hl with | [_], _ => rfl
  have mIsN := PySem.W.mg_of X G a1
  have FWit := fun_mk (st := sWit) l2 c2 k2
  have bWit := FWit.binds (ps := ["number", "least", "most"]) fun _ _ _ _ _ _ us hl => match us, hl with | [_, _, _], _ => rfl
  have mWit := PySem.W.mg_of X G a2
  have FNum := fun_mk (st := sNum) l3 c3 k3
  have bNum := FNum.binds (ps := ["text", "most"]) fun _ _ _ _ _ _ us hl => match us, hl with | [_, _], _ => rfl
  have mNum := PySem.W.mg_of X G a3
  have FWrp := fun_mk (st := sWrp) l4 c4 k4
  have bWrp := FWrp.binds (ps := ["signs"]) fun _ _ _ _ _ _ us hl => match us, hl with | [_], _ => rfl
  have mWrp := PySem.W.mg_of X G a4
  have FJsz := fun_mk (st := sJsz) l5 c5 k5
  have bJsz := FJsz.binds (ps := ["line"]) fun _ _ _ _ _ _ us hl => match us, hl with | [_], _ => rfl
  have mJsz := PySem.W.mg_of X G a5
  have FBeg := fun_mk (st := sBeg) l6 c6 k6
  have bBeg := FBeg.binds (ps := ["_law_script"]) fun _ _ _ _ _ _ us hl => match us, hl with | [_], _ => rfl
  have mBeg := PySem.W.mg_of X G a6
  have FTak := fun_mk (st := sTak) l7 c7 k7
  have bTak := FTak.binds (ps := ["_law_box", "_law_many_here"]) fun _ _ _ _ _ _ us hl => match us, hl with | [_, _], _ => rfl
  have mTak := PySem.W.mg_of X G a7
  have FAli := fun_mk (st := sAli) l8 c8 k8
  have bAli := FAli.binds (ps := ["_law_found", "_law_due"]) fun _ _ _ _ _ _ us hl => match us, hl with | [_, _], _ => rfl
  have mAli := PySem.W.mg_of X G a8
  have FSgs := fun_mk (st := sSgs) l9 c9 k9
  have bSgs := FSgs.binds (ps := ["_law_box"]) fun _ _ _ _ _ _ us hl => match us, hl with | [_], _ => rfl
  have mSgs := PySem.W.mg_of X G a9
  have FOwn := fun_mk (st := sOwn) l10 c10 k10
  have bOwn := FOwn.binds (ps := []) fun _ _ _ _ _ _ us hl => match us, hl with | [], _ => rfl
  have mOwn := PySem.W.mg_of X G a10
  have FChg := fun_mk (st := sChg) l11 c11 k11
  have bChg := FChg.binds (ps := ["_law_p", "_law_word", "_law_text"]) fun _ _ _ _ _ _ us hl => match us, hl with | [_, _, _], _ => rfl
  have mChg := PySem.W.mg_of X G a11
  have FMny := fun_mk (st := sMny) l12 c12 k12
  have bMny := FMny.binds (ps := ["_law_line"]) fun _ _ _ _ _ _ us hl => match us, hl with | [_], _ => rfl
  have mMny := PySem.W.mg_of X G a12
  have FTyp := fun_mk (st := sTyp) l13 c13 k13
  have bTyp := FTyp.binds (ps := ["_law_p", "_law_look", "_law_session", "_law_sign"]) fun _ _ _ _ _ _ us hl => match us, hl with | [_, _, _, _], _ => rfl
  have mTyp := PySem.W.mg_of X G a13
  have FBea := fun_mk (st := sBea) l14 c14 k14
  have bBea := FBea.binds (ps := ["_law_p"]) fun _ _ _ _ _ _ us hl => match us, hl with | [_], _ => rfl
  have mBea := PySem.W.mg_of X G a14
  have FRig := fun_mk (st := sRig) l15 c15 k15
  have bRig := FRig.binds (ps := ["_law_box", "_law_pane_here", "_law_own"]) fun _ _ _ _ _ _ us hl => match us, hl with | [_, _, _], _ => rfl
  have mRig := PySem.W.mg_of X G a15
  have FL03 := fun_mk (st := sL03) l16 c16 k16
  have bL03 := FL03.binds (ps := ["_law_script"]) fun _ _ _ _ _ _ us hl => match us, hl with | [_], _ => rfl
  have mL03 := PySem.W.mg_of X G a16
  have cl_Pane : Cls K cP := ⟨pg_Pane, hd_Pane, po_Pane, sa_Pane⟩
  have mg_Pane := PySem.W.mg_of X G aC_Pane
  have FPIn := fun_mk (st := sPIn) l17 c17 k17
  have bPIn := FPIn.binds (ps := ["self"]) fun _ _ _ _ _ _ us hl => match us, hl with | [_], _ => rfl
  have mPIn : Mk K cP f17 := ⟨mk_Pane, a17, i17, kc_Pane⟩
  have FPPr := fun_mk (st := sPPr) l18 c18 k18
  have bPPr := FPPr.binds (ps := ["self", "look", "session", "sign"]) fun _ _ _ _ _ _ us hl => match us, hl with | [_, _, _, _], _ => rfl
  have mPPr : Meth K cP "press" f18 := ⟨a18, i18, k18⟩
  have FPBe := fun_mk (st := sPBe) l19 c19 k19
  have bPBe := FPBe.binds (ps := ["self"]) fun _ _ _ _ _ _ us hl => match us, hl with | [_], _ => rfl
  have mPBe : Meth K cP "beat" f19 := ⟨a19, i19, k19⟩
  have FPRo := fun_mk (st := sPRo) l20 c20 k20
  have bPRo := FPRo.binds (ps := ["self"]) fun _ _ _ _ _ _ us hl => match us, hl with | [_], _ => rfl
  have mPRo : Meth K cP "rows" f20 := ⟨a20, i20, k20⟩
  have FPLi := fun_mk (st := sPLi) l21 c21 k21
  have bPLi := FPLi.binds (ps := ["self"]) fun _ _ _ _ _ _ us hl => match us, hl with | [_], _ => rfl
  have mPLi : Meth K cP "line" f21 := ⟨a21, i21, k21⟩
  have FPJo := fun_mk (st := sPJo) l22 c22 k22
  have bPJo := FPJo.binds (ps := ["self"]) fun _ _ _ _ _ _ us hl => match us, hl with | [_], _ => rfl
  have mPJo : Meth K cP "job" f22 := ⟨a22, i22, k22⟩
  have FPCh := fun_mk (st := sPCh) l23 c23 k23
  have bPCh := FPCh.binds (ps := ["self"]) fun _ _ _ _ _ _ us hl => match us, hl with | [_], _ => rfl
  have mPCh : Meth K cP "changes" f23 := ⟨a23, i23, k23⟩
  have FPTy := fun_mk (st := sPTy) l24 c24 k24
  have bPTy := FPTy.binds (ps := ["self"]) fun _ _ _ _ _ _ us hl => match us, hl with | [_], _ => rfl
  have mPTy : Meth K cP "typed" f24 := ⟨a24, i24, k24⟩
  have FPSi := fun_mk (st := sPSi) l25 c25 k25
  have bPSi := FPSi.binds (ps := ["self", "number"]) fun _ _ _ _ _ _ us hl => match us, hl with | [_, _], _ => rfl
  have mPSi : Meth K cP "since" f25 := ⟨a25, i25, k25⟩
  have FPDo := fun_mk (st := sPDo) l26 c26 k26
  have bPDo := FPDo.binds (ps := ["self"]) fun _ _ _ _ _ _ us hl => match us, hl with | [_], _ => rfl
  have mPDo : Meth K cP "_do_line" f26 := ⟨a26, i26, k26⟩
  have FPAr := fun_mk (st := sPAr) l27 c27 k27
  have bPAr := FPAr.binds (ps := ["self", "row"]) fun _ _ _ _ _ _ us hl => match us, hl with | [_, _], _ => rfl
  have mPAr : Meth K cP "_add_row" f27 := ⟨a27, i27, k27⟩
  have FPCl := fun_mk (st := sPCl) l28 c28 k28
  have bPCl := FPCl.binds (ps := ["self"]) fun _ _ _ _ _ _ us hl => match us, hl with | [_], _ => rfl
  have mPCl : Meth K cP "_clear_rows" f28 := ⟨a28, i28, k28⟩
  have FPSl := fun_mk (st := sPSl) l29 c29 k29
  have bPSl := FPSl.binds (ps := ["self", "line"]) fun _ _ _ _ _ _ us hl => match us, hl with | [_, _], _ => rfl
  have mPSl : Meth K cP "_set_line" f29 := ⟨a29, i29, k29⟩
  have FPAc := fun_mk (st := sPAc) l30 c30 k30
  have bPAc := FPAc.binds (ps := ["self", "kind", "text"]) fun _ _ _ _ _ _ us hl => match us, hl with | [_, _, _], _ => rfl
  have mPAc : Meth K cP "_add_change" f30 := ⟨a30, i30, k30⟩
  have TBnd_ : TBnd mg := ⟨PySem.W.mg_none_of X G z_isinstance, PySem.W.mg_none_of X G z_bool⟩
  have TBeg_ : TBeg mg := ⟨PySem.W.mg_none_of X G z_list, PySem.W.mg_none_of X G z_int, PySem.W.mg_none_of X G z_len⟩
  have TAli_ : TAli mg := ⟨PySem.W.mg_none_of X G z_bool, PySem.W.mg_none_of X G z_int, PySem.W.mg_none_of X G z_str, PySem.W.mg_none_of X G z_list, PySem.W.mg_none_of X G z_tuple, PySem.W.mg_none_of X G z_isinstance, PySem.W.mg_none_of X G z_len, PySem.W.mg_none_of X G z_range⟩
  have TFig_ : TFig mg := ⟨PySem.W.mg_none_of X G z_enumerate, ⟨_, PySem.W.mg_of X G mg_KEYS⟩, PySem.W.mg_none_of X G z_len, PySem.W.mg_none_of X G z_int⟩
  have TPn_ : TPn mg := ⟨PySem.W.mg_none_of X G z_len, PySem.W.mg_none_of X G z_int, PySem.W.mg_none_of X G z_list, ⟨_, PySem.W.mg_of X G mg_SAY⟩, ⟨_, PySem.W.mg_of X G mg_MANY⟩, ⟨_, PySem.W.mg_of X G mg_LINE_SIGNS⟩, ⟨_, PySem.W.mg_of X G mg_ROWS_KEPT⟩, ⟨_, PySem.W.mg_of X G mg_TYPED_KEPT⟩, ⟨_, PySem.W.mg_of X G mg_CHANGES_KEPT⟩⟩
  have TSgs_ : TSgs mg := ⟨PySem.W.mg_none_of X G z_range, PySem.W.mg_none_of X G z_str, PySem.W.mg_none_of X G z_int⟩
  have TOwn_ : TOwn mg := ⟨PySem.W.mg_none_of X G z_list, PySem.W.mg_none_of X G z_len, PySem.W.mg_none_of X G z_str, PySem.W.mg_none_of X G z_int⟩
  have TRig_ : TRig mg := ⟨PySem.W.mg_none_of X G z_len⟩
  have TLaw_ : TLaw mg := ⟨PySem.W.mg_none_of X G z_range⟩
  refine ⟨PySem.W.fnOf "law" "law" (defArgs sL03) (defBody sL03) (defScope sL03) .none kV16 dc16 pm16 an16 cd16 ct16, fun s v => ?_, fun base _ _ => ?_⟩
  case refine_2 =>
    have cIsN : Cal l.prog w K mg base "is_number" 1 _ spIsN := ⟨⟨_, _, ok_isn FIsN TBnd_, mIsN, FIsN.kp, bIsN⟩⟩
    have cWit : Cal l.prog w K mg base "is_within" 2 _ spWit := ⟨⟨_, _, ok_wit FWit TBnd_ ⟨cIsN⟩, mWit, FWit.kp, bWit⟩⟩
    have cBeg : Cal l.prog w K mg base "_law_begun" 1 _ (spBeg K) := ⟨⟨_, _, ok_begun FBeg TBeg_, mBeg, FBeg.kp, bBeg⟩⟩
    have cTak : Cal l.prog w K mg base "_law_take" 1 _ spTak := ⟨⟨_, _, ok_take2 FTak, mTak, FTak.kp, bTak⟩⟩
    have TP : TPan K mg cP := ⟨TPn_, cl_Pane, nf_Pane_rows, nf_Pane_line, nf_Pane_job, nf_Pane_typed, nf_Pane_changes, nf_Pane_latest⟩
    have cNum : Cal l.prog w K mg base "number_of" 1 _ spNum := ⟨⟨_, _, ok_num FNum TFig_, mNum, FNum.kp, bNum⟩⟩
    have cWrp : Cal l.prog w K mg base "wrong_place" 1 _ spWrp := ⟨⟨_, _, ok_wrp FWrp TFig_, mWrp, FWrp.kp, bWrp⟩⟩
    have cJsz : Cal l.prog w K mg base "job_size" 2 _ spJsz := ⟨⟨_, _, ok_jsz FJsz TPn_ ⟨cNum⟩, mJsz, FJsz.kp, bJsz⟩⟩
    have nPane : NCal l.prog w K mg base cP "Pane" 1 _ (spIn cP) := ⟨⟨_, _, ok_in FPIn TP, mPIn, mg_Pane, bPIn⟩⟩
    have cAc : MCal l.prog w K mg base cP "_add_change" 1 _ (spAc cP) := ⟨⟨_, _, ok_ac FPAc TP, mPAc, bPAc⟩⟩
    have cAr : MCal l.prog w K mg base cP "_add_row" 2 _ (spAr cP) := ⟨⟨_, _, ok_ar FPAr TP ⟨cAc⟩, mPAr, bPAr⟩⟩
    have cCl : MCal l.prog w K mg base cP "_clear_rows" 2 _ (spCl cP) := ⟨⟨_, _, ok_cl FPCl TP ⟨cAc⟩, mPCl, bPCl⟩⟩
    have cSl : MCal l.prog w K mg base cP "_set_line" 2 _ (spSl cP) := ⟨⟨_, _, ok_sl FPSl TP ⟨cAc⟩, mPSl, bPSl⟩⟩
    have cDo : MCal l.prog w K mg base cP "_do_line" 3 _ (spDo cP) := ⟨⟨_, _, ok_do FPDo TP ⟨cJsz, cAr, cSl, cCl⟩, mPDo, bPDo⟩⟩
    have cPr : MCal l.prog w K mg base cP "press" 4 _ (spPr cP) := ⟨⟨_, _, ok_pr FPPr TP ⟨cDo, cSl, cWrp⟩, mPPr, bPPr⟩⟩
    have cBe : MCal l.prog w K mg base cP "beat" 3 _ (spBe cP) := ⟨⟨_, _, ok_be FPBe TP ⟨cAr⟩, mPBe, bPBe⟩⟩
    have cRo : MCal l.prog w K mg base cP "rows" 1 _ (spRo cP) := ⟨⟨_, _, ok_ro FPRo TP, mPRo, bPRo⟩⟩
    have cLi : MCal l.prog w K mg base cP "line" 1 _ (spLi cP) := ⟨⟨_, _, ok_li FPLi TP, mPLi, bPLi⟩⟩
    have cJo : MCal l.prog w K mg base cP "job" 1 _ (spJo cP) := ⟨⟨_, _, ok_jo FPJo TP, mPJo, bPJo⟩⟩
    have cCh : MCal l.prog w K mg base cP "changes" 1 _ (spCh cP) := ⟨⟨_, _, ok_ch FPCh TP, mPCh, bPCh⟩⟩
    have cTy : MCal l.prog w K mg base cP "typed" 1 _ (spTy cP) := ⟨⟨_, _, ok_ty FPTy TP, mPTy, bPTy⟩⟩
    have cSi : MCal l.prog w K mg base cP "since" 3 _ (spSi cP) := ⟨⟨_, _, ok_si FPSi TP ⟨cWit⟩, mPSi, bPSi⟩⟩
    have cAli : Cal l.prog w K mg base "_law_alike" 4 _ (spAli K 3) := ⟨⟨_, _, ok_alike FAli TAli_ mAli bAli 3, mAli, FAli.kp, bAli⟩⟩
    have cSgs : Cal l.prog w K mg base "_law_signs" 2 _ spSgs := ⟨⟨_, _, ok_sgs FSgs TSgs_ ⟨cTak⟩, mSgs, FSgs.kp, bSgs⟩⟩
    have cOwn : Cal l.prog w K mg base "_law_pane" 1 _ spOwn := ⟨⟨_, _, ok_own FOwn, mOwn, FOwn.kp, bOwn⟩⟩
    have cChg : Cal l.prog w K mg base "_law_change" 1 _ spChg := ⟨⟨_, _, ok_chg FChg TOwn_, mChg, FChg.kp, bChg⟩⟩
    have cMny : Cal l.prog w K mg base "_law_many" 1 _ spMny := ⟨⟨_, _, ok_mny FMny TOwn_, mMny, FMny.kp, bMny⟩⟩
    have cTyp : Cal l.prog w K mg base "_law_type" 2 _ spTyp := ⟨⟨_, _, ok_typ FTyp TOwn_ ⟨cChg, cMny⟩, mTyp, FTyp.kp, bTyp⟩⟩
    have cBea : Cal l.prog w K mg base "_law_beat" 2 _ spBea := ⟨⟨_, _, ok_bea FBea TOwn_ ⟨cChg⟩, mBea, FBea.kp, bBea⟩⟩
    have cRig : Cal l.prog w K mg base "_law_right" 5 _ (spRig cP) := ⟨⟨_, _, ok_rig FRig ⟨TRig_, cl_Pane⟩ ⟨cTak, cAli, cRo, cLi, cJo, cCh, cTy, cSi⟩, mRig, FRig.kp, bRig⟩⟩
    exact ok_law FL03 ⟨TLaw_, cl_Pane⟩ ⟨cBeg, cTak, cSgs, cOwn, cTyp, cBea, cRig, nPane, cPr, cBe⟩
  case refine_1 => exact .of_eq rfl
theorem walk {l : PySem.W.OpenLaw} {q : Program} {loose : List Str} {XP : (Str → Option Value) → Heap → Prop} {YP : World → Heap → Prop} {d : DefRec} {K : Params → PySem.W.Frag} (hn : l.most = some 63) (hdf : d.params.defaults = [])
    (hY : ∀ (w : World) (h : Heap), YP w h → (K w.params).In h)
    (F : ∀ (w : World) (mg : Str → Option Value) (fa : Addr) (h : Heap), (K w.params).In h → h.Ns mainGlobals mg → mg d.name = some (.ref fa) →
      ∃ fd : FuncData, (∀ (s : Shared) (u : Value), BindsTo s fd ⟨[u], []⟩ [("_law_script", u)]) ∧ ∀ base : Heap, (K w.params).In base → base.Ns mainGlobals mg → FnOk l.prog w (K w.params) mg base CX0 6 fa fd ["_law_script"] (spLaw (K w.params))) :
    PySem.W.WalkO q loose XP YP l.row.toRowW d [] (fun f vs => PySem.call f vs) :=
  L2.walk_of (n := 63) (k := 6) (x := "_law_script") (CX := fun _ => CX0) (sp := fun w => spLaw (K w.params)) hn (by decide) hdf ⟨rfl, by decide, by decide⟩ hY F (fun _ _ a ns hl _ hS => ⟨a, ns, rfl, hS, hl, fun _ => rfl⟩) fun _ _ _ _ _ z => z
end Vf
open PySem PySem.W PyProof.Rows in
set_option maxRecDepth 100000 in
set_option maxHeartbeats 0 in
theorem PySem.Challenge.cw_attachhall_k03_panes_sign_by_sign_holds : PySem.Challenge.rw_attachhall_k03_panes_sign_by_sign.Holds := by
  w_on; o_law; k_head; (case hw => w_witness2)
  k_fill
  refine Vf.walk (l := PySem.Challenge.rw_attachhall_k03_panes_sign_by_sign) rfl rfl (fun w h Y => PySem.W.kIn_of Y) ?F
  case F =>
    intro w mg fa h KX G hmg
    refine' Vf.all_mk KX G hmg ?a1 ?l1 ?c1 ?k1 ?a2 ?l2 ?c2 ?k2 ?a3 ?l3 ?c3 ?k3 ?a4 ?l4 ?c4 ?k4 ?a5 ?l5 ?c5 ?k5 ?a6 ?l6 ?c6 ?k6 ?a7 ?l7 ?c7 ?k7 ?a8 ?l8 ?c8 ?k8 ?a9 ?l9 ?c9 ?k9 ?a10 ?l10 ?c10 ?k10 ?a11 ?l11 ?c11 ?k11 ?a12 ?l12 ?c12 ?k12 ?a13 ?l13 ?c13 ?k13 ?a14 ?l14 ?c14 ?k14 ?a15 ?l15 ?c15 ?k15 ?a16 ?l16 ?c16 ?k16 ?aC_Pane ?pg_Pane ?hd_Pane ?po_Pane ?sa_Pane ?mk_Pane ?kc_Pane ?nf_Pane_rows ?nf_Pane_line ?nf_Pane_job ?nf_Pane_typed ?nf_Pane_changes ?nf_Pane_latest ?a17 ?i17 ?l17 ?c17 ?k17 ?a18 ?i18 ?l18 ?c18 ?k18 ?a19 ?i19 ?l19 ?c19 ?k19 ?a20 ?i20 ?l20 ?c20 ?k20 ?a21 ?i21 ?l21 ?c21 ?k21 ?a22 ?i22 ?l22 ?c22 ?k22 ?a23 ?i23 ?l23 ?c23 ?k23 ?a24 ?i24 ?l24 ?c24 ?k24 ?a25 ?i25 ?l25 ?c25 ?k25 ?a26 ?i26 ?l26 ?c26 ?k26 ?a27 ?i27 ?l27 ?c27 ?k27 ?a28 ?i28 ?l28 ?c28 ?k28 ?a29 ?i29 ?l29 ?c29 ?k29 ?a30 ?i30 ?l30 ?c30 ?k30 ?z_isinstance ?z_bool ?z_list ?z_int ?z_len ?z_str ?z_tuple ?z_range ?z_enumerate ?mg_KEYS ?mg_SAY ?mg_MANY ?mg_LINE_SIGNS ?mg_ROWS_KEPT ?mg_TYPED_KEPT ?mg_CHANGES_KEPT
    (case a1 => k_is)
    (case l1 => k_is)
    (case c1 => k_is)
    (case k1 => k_is)
    (case a2 => k_is)
    (case l2 => k_is)
    (case c2 => k_is)
    (case k2 => k_is)
    (case a3 => k_is)
    (case l3 => k_is)
    (case c3 => k_is)
    (case k3 => k_is)
    (case a4 => k_is)
    (case l4 => k_is)
    (case c4 => k_is)
    (case k4 => k_is)
    (case a5 => k_is)
    (case l5 => k_is)
    (case c5 => k_is)
    (case k5 => k_is)
    (case a6 => k_is)
    (case l6 => k_is)
    (case c6 => k_is)
    (case k6 => k_is)
    (case a7 => k_is)
    (case l7 => k_is)
    (case c7 => k_is)
    (case k7 => k_is)
    (case a8 => k_is)
    (case l8 => k_is)
    (case c8 => k_is)
    (case k8 => k_is)
    (case a9 => k_is)
    (case l9 => k_is)
    (case c9 => k_is)
    (case k9 => k_is)
    (case a10 => k_is)
    (case l10 => k_is)
    (case c10 => k_is)
    (case k10 => k_is)
    (case a11 => k_is)
    (case l11 => k_is)
    (case c11 => k_is)
    (case k11 => k_is)
    (case a12 => k_is)
    (case l12 => k_is)
    (case c12 => k_is)
    (case k12 => k_is)
    (case a13 => k_is)
    (case l13 => k_is)
    (case c13 => k_is)
    (case k13 => k_is)
    (case a14 => k_is)
    (case l14 => k_is)
    (case c14 => k_is)
    (case k14 => k_is)
    (case a15 => k_is)
    (case l15 => k_is)
    (case c15 => k_is)
    (case k15 => k_is)
    (case a16 => k_is)
    (case l16 => k_is)
    (case c16 => k_is)
    (case k16 => k_is)
    (case aC_Pane => k_is)
    (case pg_Pane => k_is)
    (case hd_Pane => k_is)
    (case po_Pane => k_is)
    (case sa_Pane => k_is)
    (case mk_Pane => k_is)
    (case kc_Pane => k_is)
    (case nf_Pane_rows => k_is)
    (case nf_Pane_line => k_is)
    (case nf_Pane_job => k_is)
    (case nf_Pane_typed => k_is)
    (case nf_Pane_changes => k_is)
    (case nf_Pane_latest => k_is)
    (case a17 => k_is)
    (case i17 => k_is)
    (case l17 => k_is)
    (case c17 => k_is)
    (case k17 => k_is)
    (case a18 => k_is)
    (case i18 => k_is)
    (case l18 => k_is)
    (case c18 => k_is)
    (case k18 => k_is)
    (case a19 => k_is)
    (case i19 => k_is)
    (case l19 => k_is)
    (case c19 => k_is)
    (case k19 => k_is)
    (case a20 => k_is)
    (case i20 => k_is)
    (case l20 => k_is)
    (case c20 => k_is)
    (case k20 => k_is)
    (case a21 => k_is)
    (case i21 => k_is)
    (case l21 => k_is)
    (case c21 => k_is)
    (case k21 => k_is)
    (case a22 => k_is)
    (case i22 => k_is)
    (case l22 => k_is)
    (case c22 => k_is)
    (case k22 => k_is)
    (case a23 => k_is)
    (case i23 => k_is)
    (case l23 => k_is)
    (case c23 => k_is)
    (case k23 => k_is)
    (case a24 => k_is)
    (case i24 => k_is)
    (case l24 => k_is)
    (case c24 => k_is)
    (case k24 => k_is)
    (case a25 => k_is)
    (case i25 => k_is)
    (case l25 => k_is)
    (case c25 => k_is)
    (case k25 => k_is)
    (case a26 => k_is)
    (case i26 => k_is)
    (case l26 => k_is)
    (case c26 => k_is)
    (case k26 => k_is)
    (case a27 => k_is)
    (case i27 => k_is)
    (case l27 => k_is)
    (case c27 => k_is)
    (case k27 => k_is)
    (case a28 => k_is)
    (case i28 => k_is)
    (case l28 => k_is)
    (case c28 => k_is)
    (case k28 => k_is)
    (case a29 => k_is)
    (case i29 => k_is)
    (case l29 => k_is)
    (case c29 => k_is)
    (case k29 => k_is)
    (case a30 => k_is)
    (case i30 => k_is)
    (case l30 => k_is)
    (case c30 => k_is)
    (case k30 => k_is)
    (case z_isinstance => k_is)
    (case z_bool => k_is)
    (case z_list => k_is)
    (case z_int => k_is)
    (case z_len => k_is)
    (case z_str => k_is)
    (case z_tuple => k_is)
    (case z_range => k_is)
    (case z_enumerate => k_is)
    (case mg_KEYS => k_is)
    (case mg_SAY => k_is)
    (case mg_MANY => k_is)
    (case mg_LINE_SIGNS => k_is)
    (case mg_ROWS_KEPT => k_is)
    (case mg_TYPED_KEPT => k_is)
    (case mg_CHANGES_KEPT => k_is)
#print axioms PySem.Challenge.cw_attachhall_k03_panes_sign_by_sign_holds
