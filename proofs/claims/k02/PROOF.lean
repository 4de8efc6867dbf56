import PyProof.Rows.All
import Wide.All
import OpenK.AllK
import Wide.FinOn
import HandS.ForMost
import HandS.Evl
import HandS.IsInst
import HandS.FStr
import HandS.StrMore
import HandS.AnyAll
import HandS.Walk
import HandS.Replace
import HandS.EndTab
import HandS.Style
import HandS.Small
import HandS.Flow
import HandS.Star
import HandS.More
import KE.GoesMore
import KE.KUnpackStar
import HandS.NoneIn
import HandS.RaiseMore
import HandS.StrSplit
import PySem.Challenge.RW_attachhall_k02_pictures
set_option Elab.async false
set_option linter.all false
set_option maxRecDepth 100000
set_option maxHeartbeats 4000000
namespace Vf
open PySem PySem.Spec PyProof.Rows L2 Evl
/-! ### a def of the text that may be called by its name -/
structure Cal (P : Program) (w : World) (K : PySem.W.Frag) (mg : Str → Option Value) (base : Heap) (x : Str) (k : Nat) (ps : List Str) (sp : Sp) : Prop where
  ex : ∃ (f : Addr) (fd : FuncData), FnOk P w K mg base CX0 k f fd ps sp ∧ mg x = some (.ref f) ∧ PySem.W.keepIn K (.ref f) = true ∧ Binds K fd ps []
theorem Cal.mono {P : Program} {w : World} {K : PySem.W.Frag} {mg : Str → Option Value} {base : Heap} {x : Str} {k j : Nat} {ps : List Str} {sp : Sp} (c : Cal P w K mg base x k ps sp) (h : k ≤ j) : Cal P w K mg base x j ps sp := by
  obtain ⟨f, fd, F, a, b, c⟩ := c.ex
  exact ⟨f, fd, F.mono h, a, b, c⟩
theorem Cal.imp {P : Program} {w : World} {K : PySem.W.Frag} {mg : Str → Option Value} {base : Heap} {x : Str} {k : Nat} {ps : List Str} {sp sp' : Sp} (c : Cal P w K mg base x k ps sp)
    (h : ∀ vs H Q E, sp' vs H Q E → sp vs H Q E) : Cal P w K mg base x k ps sp' := by
  obtain ⟨f, fd, F, a, b, c⟩ := c.ex
  exact ⟨f, fd, F.imp h, a, b, c⟩
section
variable {X : Cx} {x : Str} {k : Nat} {ps : List Str} {sp : Sp} {e : Expr} {es : List Expr} {t : TA} {p pos : Pos}
theorem pcall (c : Cal X.prog X.w X.K X.mg X.base x k ps sp) (hr : Room k X.A) (ha : PA X (e :: es) t) (hg : Gl X x := by rfl)
    (hdb : (x == ("__debug__" : Str)) = false := by decide) (he : starEach (e :: es) X.env = (false, eval e X.env) :: starEach es X.env := by rfl) (hpl : (backTo pos (starEach es X.env)).any (·.1) = false := by rfl) :
    PE X (.Call (.Name x p) (e :: es) [] pos) (tCall sp [] E0 t) := by
  obtain ⟨f, fd, F, hm, hk, hb⟩ := c.ex
  exact pe_call F hr hg hm hk hb .nil pass0 ha hdb he hpl
theorem pcall0 (c : Cal X.prog X.w X.K X.mg X.base x k ps sp) (hr : Room k X.A) (hg : Gl X x := by rfl)
    (hdb : (x == ("__debug__" : Str)) = false := by decide) :
    PE X (.Call (.Name x p) [] [] pos) (tCall sp [] E0 tNil) := by
  obtain ⟨f, fd, F, hm, hk, hb⟩ := c.ex
  exact pe_call0 F hr hg hm hk hb .nil pass0 hdb
end
/-! ### a constant of the module -/
section
variable {X : Cx} {x : Str} {pos : Pos}
theorem pgI {i : Int} (h : ∃ t, X.mg x = some (.int i t)) (hg : Gl X x := by rfl) (hdb : (x == ("__debug__" : Str)) = false := by decide) : PE X (.Name x pos) (tC (.int i)) := by
  obtain ⟨t, h⟩ := h
  exact pe_glob hg h ⟨_, rfl⟩ hdb
theorem pgS {i : Str} (h : ∃ t, X.mg x = some (.str i t)) (hg : Gl X x := by rfl) (hdb : (x == ("__debug__" : Str)) = false := by decide) : PE X (.Name x pos) (tC (.str i)) := by
  obtain ⟨t, h⟩ := h
  exact pe_glob hg h ⟨_, rfl⟩ hdb
end
theorem yes_lc {σ : L2.St} {H : Hp} {f g : Hp → Prop} (h : f H) : tYes σ H (fun b H3 => if b = true then f H3 else g H3) := by
  show if true = true then f H else g H
  rw [if_pos rfl]
  exact h
/-! ### two addresses apart, a heap that grows -/
theorem ne_new {H : Hp} {a p : Addr} {o : HO} (h : H a = some o) (n : H p = none) : a ≠ p := ne_of_none h n
theorem ex_set {H H1 : Hp} {p : Addr} {o : HO} (e : Ex H H1) (n : H p = none) : Ex H (upd H1 p o) := Ex.mut e n
/-! ### the box of numbers, hidden: which numbers it holds is left open -/
def lstObj (its : List Value) (n : Nat) : Obj := { cls := .type "list", data := .seq its.toArray n }
def BoxO (b l : Addr) : HO := .ext fun h => ∃ (z : Int) (its : List Value) (n : Nat), Vals [.ref l, .int z] its ∧ h.get? b = some (lstObj its n)
def IntsO (l : Addr) : HO := .ext fun h => ∃ (ns : List Int) (its : List Value) (n : Nat), ns.length ≤ sizeLine ∧ Vals (ns.map V.int) its ∧ h.get? l = some (lstObj its n)
/-- the box stands at b, its numbers at l -/
def Box (H : Hp) (b l : Addr) : Prop := b ≠ l ∧ H b = some (BoxO b l) ∧ H l = some (IntsO l)
theorem Box.ex {H H' : Hp} {b l : Addr} (h : Box H b l) (e : Ex H H') : Box H' b l := ⟨h.1, e _ _ h.2.1, e _ _ h.2.2⟩
def opened (H : Hp) (b l : Addr) (z : Int) (ns : List Int) : Hp := upd (upd H l (.lst (ns.map V.int))) b (.lst [.ref l, .int z])
def closed (H : Hp) (b l : Addr) : Hp := upd (upd H l (IntsO l)) b (BoxO b l)
section
variable {P : Program} {w : World} {H H' : Hp} {h h' : Heap} {b l a : Addr} {z : Int} {ns : List Int}
theorem upd2_ne {o u : HO} (h1 : a ≠ b) (h2 : a ≠ l) : upd (upd H l o) b u a = H a := by rw [upd_ne h1, upd_ne h2]
theorem own_ne {o : HO} {φ : Heap → Prop} (hb : H b = some (.ext φ)) (h : H a = some o) (n : ∀ φ, o ≠ .ext φ) : a ≠ b := by
  rintro rfl
  rw [hb] at h
  exact n _ (Option.some.inj h).symm
theorem hok_open (x : HOk P w H h) (B : Box H b l) : ∃ z ns, HOk P w (opened H b l z ns) h := by
  obtain ⟨hne, hb, hl⟩ := B
  obtain ⟨⟨z, its, n, r, g⟩, _⟩ := (show ObjOk P w H h b (BoxO b l) from x b _ hb)
  obtain ⟨⟨ns, its', n', hz, r', g'⟩, _⟩ := (show ObjOk P w H h l (IntsO l) from x l _ hl)
  refine ⟨z, ns, fun a o e => ?_⟩
  unfold opened at e
  by_cases h1 : a = b
  · subst h1
    rw [upd_same] at e
    cases e
    exact ⟨by show 2 ≤ sizeLine; decide, its, n, r, g⟩
  · rw [upd_ne h1] at e
    by_cases h2 : a = l
    · subst h2
      rw [upd_same] at e
      cases e
      exact ⟨by rw [List.length_map]; exact hz, its', n', r', g'⟩
    · rw [upd_ne h2] at e
      refine (x a o e).stay (fun _ _ _ q => q) (fun c q => ?_) (fun c xs q => ?_)
      · unfold opened
        rw [upd2_ne (own_ne hb q (fun _ z => by cases z)) (own_ne hl q (fun _ z => by cases z))]
        exact q
      · unfold opened
        rw [upd2_ne (own_ne hb q (fun _ z => by cases z)) (own_ne hl q (fun _ z => by cases z))]
        exact q
theorem lst_ne {o : HO} {xs : List V} (hb : H b = some (.lst xs)) (h : H a = some o) (n : ∀ xs, o ≠ .lst xs) : a ≠ b := by
  rintro rfl
  rw [hb] at h
  exact n _ (Option.some.inj h).symm
theorem hok_close (x : HOk P w H h) (hb : H b = some (.lst [.ref l, .int z])) (hl : H l = some (.lst (ns.map V.int))) : HOk P w (closed H b l) h := by
  obtain ⟨_, its, n, r, g⟩ := (show ObjOk P w H h b (.lst _) from x b _ hb)
  obtain ⟨hz, its', n', r', g'⟩ := (show ObjOk P w H h l (.lst _) from x l _ hl)
  intro a o e
  unfold closed at e
  by_cases h1 : a = b
  · subst h1
    rw [upd_same] at e
    cases e
    exact ⟨⟨z, its, n, r, g⟩, ⟨_, g⟩, fun h1 h2 ⟨z, its, n, r, g⟩ k => ⟨z, its, n, r, k _ g⟩⟩
  · rw [upd_ne h1] at e
    by_cases h2 : a = l
    · subst h2
      rw [upd_same] at e
      cases e
      exact ⟨⟨ns, its', n', by rw [List.length_map] at hz; exact hz, r', g'⟩, ⟨_, g'⟩, fun h1 h2 ⟨ns, its, n, hz, r, g⟩ k => ⟨ns, its, n, hz, r, k _ g⟩⟩
    · rw [upd_ne h2] at e
      refine (x a o e).stay (fun _ _ _ q => q) (fun c q => ?_) (fun c xs q => ?_)
      · unfold closed
        rw [upd2_ne (lst_ne hb q (fun _ z => by cases z)) (lst_ne hl q (fun _ z => by cases z))]
        exact q
      · unfold closed
        rw [upd2_ne (lst_ne hb q (fun _ z => by cases z)) (lst_ne hl q (fun _ z => by cases z))]
        exact q
theorem un_hide {fs ex : List Addr} {H2 : Hp} (B : Box H b l) (u : Un fs ex (opened H b l z ns) H2 h h') : Un fs ex H (closed H2 b l) h h' := by
  obtain ⟨hne, hb, hl⟩ := B
  have none_ne : ∀ c, H c = none → c ≠ b ∧ c ≠ l := fun c q => ⟨fun e => (by rw [e, hb] at q; cases q), fun e => (by rw [e, hl] at q; cases q)⟩
  have non : ∀ c, H c = none → opened H b l z ns c = none := fun c q => by
    unfold opened
    rw [upd2_ne (none_ne c q).1 (none_ne c q).2]
    exact q
  have ne2 : ∀ c o, H c = some o → (∀ φ, o ≠ .ext φ) → c ≠ b ∧ c ≠ l := fun c o q n => ⟨own_ne hb q n, own_ne hl q n⟩
  refine ⟨fun c o q n => u.keep c o q (non c n), fun c o q n => u.slot c o q (non c n), fun c o q n hx => ?_, u.there, fun c xs q => ?_, fun c o v q => ?_, fun c ps q => ?_⟩
  · unfold closed
    rw [upd2_ne (none_ne c n).1 (none_ne c n).2]
    exact u.free c o q (non c n) hx
  · have d := ne2 c _ q (fun _ z => by cases z)
    unfold closed
    rw [upd2_ne d.1 d.2]
    exact u.tups c xs (by unfold opened; rw [upd2_ne d.1 d.2]; exact q)
  · have d := ne2 c _ q (fun _ z => by cases z)
    unfold closed
    rw [upd2_ne d.1 d.2]
    exact u.frzs c o v (by unfold opened; rw [upd2_ne d.1 d.2]; exact q)
  · have d := ne2 c _ q (fun _ z => by cases z)
    unfold closed
    rw [upd2_ne d.1 d.2]
    exact u.tbls c ps (by unfold opened; rw [upd2_ne d.1 d.2]; exact q)
theorem ex_new2 {H2 : Hp} (e : Ex H H2) (n1 : H b = none) (n2 : H l = none) : Ex H (closed H2 b l) := fun c o q => by
  have d1 : c ≠ b := ne_of_none q n1
  have d2 : c ≠ l := ne_of_none q n2
  unfold closed
  rw [upd2_ne d1 d2]
  exact e c o q
theorem un_new {fs : List Addr} {H2 : Hp} (u : Un fs [] H H2 h h') (n1 : H b = none) (n2 : H l = none) (hb : H2 b = some (.lst [.ref l, .int z])) (hl : H2 l = some (.lst (ns.map V.int))) : Un fs [] H (closed H2 b l) h h' := by
  have old : ∀ c o, h.get? c = some o → H c = none → c ≠ b ∧ c ≠ l := fun c o q n => by
    have f := u.free c o q n (by simp)
    exact ⟨fun e => (by rw [e, hb] at f; cases f), fun e => (by rw [e, hl] at f; cases f)⟩
  have ne2 : ∀ c o, H c = some o → c ≠ b ∧ c ≠ l := fun c o q => ⟨ne_of_none q n1, ne_of_none q n2⟩
  refine ⟨u.keep, u.slot, fun c o q n hx => ?_, u.there, fun c xs q => ?_, fun c o v q => ?_, fun c ps q => ?_⟩
  · unfold closed
    rw [upd2_ne (old c o q n).1 (old c o q n).2]
    exact u.free c o q n hx
  · have d := ne2 c _ q
    unfold closed
    rw [upd2_ne d.1 d.2]
    exact u.tups c xs q
  · have d := ne2 c _ q
    unfold closed
    rw [upd2_ne d.1 d.2]
    exact u.frzs c o v q
  · have d := ne2 c _ q
    unfold closed
    rw [upd2_ne d.1 d.2]
    exact u.tbls c ps q
theorem ex_hide {H2 : Hp} (B : Box H b l) (e : ∀ c o, c ≠ b → c ≠ l → H c = some o → H2 c = some o) : Ex H (closed H2 b l) := by
  obtain ⟨hne, hb, hl⟩ := B
  intro c o q
  unfold closed
  by_cases h1 : c = b
  · subst h1
    rw [upd_same, ← hb]
    exact q
  · rw [upd_ne h1]
    by_cases h2 : c = l
    · subst h2
      rw [upd_same, ← hl]
      exact q
    · rw [upd_ne h2]
      exact e c o h1 h2 q
end
/-- what a def that works upon the open box promises -/
def spOpen (R : V → Prop) (pre : List V → Prop) : Sp := fun vs H Q _ => ∃ (b l : Addr) (z : Int) (ns : List Int) (rest : List V), vs = .ref b :: rest ∧ pre rest ∧ b ≠ l ∧ H b = some (.lst [.ref l, .int z]) ∧ H l = some (.lst (ns.map V.int)) ∧
  ∀ (v : V) (H' : Hp) (z' : Int) (ns' : List Int), R v → (∀ c o, c ≠ b → c ≠ l → H c = some o → H' c = some o) → H' b = some (.lst [.ref l, .int z']) → H' l = some (.lst (ns'.map V.int)) → Q v H'
/-- what it promises where the box is hidden -/
def spHid (R : V → Prop) (pre : List V → Prop) : Sp := fun vs H Q _ => ∃ (b l : Addr) (rest : List V), vs = .ref b :: rest ∧ pre rest ∧ Box H b l ∧ ∀ (v : V) (H' : Hp), R v → Ex H H' → Q v H'
section
variable {P : Program} {w : World} {K : PySem.W.Frag} {mg : Str → Option Value} {base : Heap}
theorem hide_fn {k : Nat} {f : Addr} {fd : FuncData} {ps : List Str} {R : List V → V → Prop} {pre : List V → Prop} (F : ∀ r0, pre r0 → FnOk P w K mg base CX0 k f fd ps (spOpen (R r0) fun r => r = r0)) (hl : ∀ r, pre r → r.length + 1 = ps.length) :
    FnOk P w K mg base CX0 k f fd ps (fun vs H Q _ => ∃ (b l : Addr) (rest : List V), vs = .ref b :: rest ∧ pre rest ∧ Box H b l ∧ ∀ (v : V) (H' : Hp), R rest v → Ex H H' → Q v H') := by
  refine ⟨fun vs H Q E h => ?_, fun A outer s H args us vs Q E hr e0 hb hv h => ?_⟩
  · obtain ⟨b, l, rest, rfl, hp, _⟩ := h
    exact hl _ hp
  · obtain ⟨b, l, rest, rfl, hp, B, q⟩ := h
    obtain ⟨z, ns, ok⟩ := hok_open e0.hok B
    have non : ∀ c, H c = none → opened H b l z ns c = none := fun c n => by
      have h1 : c ≠ b := fun e => by rw [e, B.2.1] at n; cases n
      have h2 : c ≠ l := fun e => by rw [e, B.2.2] at n; cases n
      unfold opened
      rw [upd2_ne h1 h2]
      exact n
    have e1 : Env0 P w K mg base A outer s (opened H b l z ns) := ⟨e0.frames, e0.mod, fun c o g => ⟨(e0.bs c o g).1, non c (e0.bs c o g).2⟩, e0.bsz, e0.funs, fun c g => non c (e0.frf c g), ok, e0.bare⟩
    refine codeAny_mono ((F rest hp).run A outer s (opened H b l z ns) args us (.ref b :: rest) (fun v H2 => Q v (closed H2 b l) ∧ ∃ z ns, H2 b = some (.lst [.ref l, .int z]) ∧ H2 l = some (.lst (ns.map V.int))) E hr e1 hb hv ⟨b, l, z, ns, rest, rfl, rfl, B.1, upd_same, ?_, fun v H' z' ns' hR hk h1 h2 => ⟨?_, z', ns', h1, h2⟩⟩) fun r s' hq => ?_
    · unfold opened
      rw [upd_ne (Ne.symm B.1), upd_same]
    · refine q v _ hR (ex_hide B fun c o h1 h2 g => hk c o h1 h2 ?_)
      unfold opened
      rw [upd2_ne h1 h2]
      exact g
    · cases r with
      | error e => exact hq
      | ok fl =>
        cases fl with
        | ret u =>
          obtain ⟨v, H2, os, bare, un, hok, rv, q2, z2, ns2, hb2, hl2⟩ := hq
          exact ⟨v, closed H2 b l, os, bare, un_hide B un, hok_close hok hb2 hl2, rv, q2⟩
        | next => exact hq
        | brk => exact hq
        | cont => exact hq
end
end Vf
namespace Vf
open PySem PySem.Spec PyProof.Rows L2 Evl
/-! ### data -/
theorem sq_ex {K : PySem.W.Frag} {H H' : Hp} {a : Addr} {xs : List V} (e : Ex H H') (h : SqL K H a xs) : SqL K H' a xs := ex_l e h
theorem dp_ints {K : PySem.W.Frag} {H : Hp} : ∀ ns : List Int, DpAll K H (ns.map V.int) (ns.map PyData.int)
  | [] => .nil
  | n :: r => .cons (.int n) (dp_ints r)
theorem dp_strs {K : PySem.W.Frag} {H : Hp} : ∀ ns : List Str, DpAll K H (ns.map V.str) (ns.map PyData.str)
  | [] => .nil
  | n :: r => .cons (.str n) (dp_strs r)
theorem flat_ints : ∀ ns : List Int, (PyData.canLayAll0 (ns.map PyData.int) = true) ∧ PyData.depthAll (ns.map PyData.int) = 0
  | [] => ⟨rfl, rfl⟩
  | n :: r => by
    obtain ⟨h1, h2⟩ := flat_ints r
    refine ⟨?_, ?_⟩
    · show (true && PyData.canLayAll0 (r.map PyData.int)) = true
      rw [h1]; rfl
    · show max 0 (PyData.depthAll (r.map PyData.int)) = 0
      rw [h2]; rfl
theorem sh_ints (ns : List Int) : SeqAt.shaped (.list (ns.map PyData.int)) = true := by
  obtain ⟨h1, h2⟩ := flat_ints ns
  show (PyData.canLayAll0 (ns.map PyData.int) && decide (PyData.depthAll (ns.map PyData.int) + 1 ≤ 64)) = true
  rw [h1, h2]; rfl
def good : Nat → PyData → Bool
  | _, .none => true
  | _, .bool _ => true
  | _, .int _ => true
  | _, .str x => PyData.canLay0 (.str x)
  | _, .dict _ => false
  | 0, .list _ => false
  | 0, .tuple _ => false
  | n + 1, .list xs => decide (xs.length ≤ 16777216) && xs.all (good n)
  | n + 1, .tuple xs => decide (xs.length ≤ 16777216) && xs.all (good n)
theorem good_all {n : Nat} (ih : ∀ d, good n d = true → PyData.canLay0 d = true ∧ PyData.depth d ≤ n) : ∀ xs : List PyData, xs.all (good n) = true → PyData.canLayAll0 xs = true ∧ PyData.depthAll xs ≤ n
  | [], _ => ⟨rfl, Nat.zero_le _⟩
  | x :: r, h => by
    rw [List.all_cons, Bool.and_eq_true] at h
    obtain ⟨h1, h2⟩ := ih x h.1
    obtain ⟨h3, h4⟩ := good_all ih r h.2
    refine ⟨?_, Nat.max_le.mpr ⟨h2, h4⟩⟩
    show (PyData.canLay0 x && PyData.canLayAll0 r) = true
    rw [h1, h3]; rfl
theorem good_lay : ∀ (n : Nat) (d : PyData), good n d = true → PyData.canLay0 d = true ∧ PyData.depth d ≤ n
  | n, .none, _ => ⟨rfl, Nat.zero_le _⟩
  | n, .bool _, _ => ⟨rfl, Nat.zero_le _⟩
  | n, .int _, _ => ⟨rfl, Nat.zero_le _⟩
  | n, .str x, h => ⟨by cases n <;> exact h, Nat.zero_le _⟩
  | n, .dict _, h => by cases n <;> cases h
  | 0, .list _, h => by cases h
  | 0, .tuple _, h => by cases h
  | n + 1, .list xs, h => by
    obtain ⟨h1, h2⟩ := good_all (good_lay n) xs (Bool.and_eq_true_iff.mp (show (decide (xs.length ≤ 16777216) && xs.all (good n)) = true from h)).2
    exact ⟨h1, Nat.succ_le_succ h2⟩
  | n + 1, .tuple xs, h => by
    obtain ⟨h1, h2⟩ := good_all (good_lay n) xs (Bool.and_eq_true_iff.mp (show (decide (xs.length ≤ 16777216) && xs.all (good n)) = true from h)).2
    exact ⟨h1, Nat.succ_le_succ h2⟩
theorem sh_of' {d : PyData} {n : Nat} (h : good n d = true) (hn : n ≤ 60) : SeqAt.shaped d = true := by
  obtain ⟨h1, h2⟩ := good_lay n d h
  show (PyData.canLay0 d && decide (PyData.depth d ≤ 64)) = true
  rw [h1, decide_eq_true (by omega)]
  rfl
theorem good_get {n : Nat} {xs : List PyData} {i : Nat} {d : PyData} (h : (decide (xs.length ≤ 16777216) && xs.all (good n)) = true) (e : xs[i]? = some d) : good n d = true :=
  List.all_eq_true.mp (Bool.and_eq_true_iff.mp h).2 d (List.mem_of_getElem? e)
theorem good_len {n : Nat} {xs : List PyData} (h : (decide (xs.length ≤ 16777216) && xs.all (good n)) = true) : xs.length ≤ 16777216 := of_decide_eq_true (Bool.and_eq_true_iff.mp h).1
theorem seq0 {α : Type} (x : α) (r : List α) : seqIndex? 0 (x :: r).length = some 0 := by
  have h : (0 : Int) < ((x :: r).length : Nat) := by rw [List.length_cons]; omega
  have e : (seqIndex? 0 (x :: r).length) = (if decide ((0 : Int) ≤ 0) && decide ((0 : Int) < ((x :: r).length : Nat)) then some (0 : Int).toNat else none) := rfl
  rw [e, decide_eq_true h]
  rfl
theorem eqv_nil (ns : List Int) : PyData.eqv (.list (ns.map PyData.int)) (.list []) = decide (ns = []) := by
  cases ns with
  | nil => rfl
  | cons n r => rfl
end Vf
namespace Vf
open PySem PySem.Spec PyProof.Rows L2 Evl
theorem at_ix {α : Type} {xs : List α} {z : Int} {j : Nat} {v : α} (e : z = (j : Int)) (h : xs[j]? = some v) : atI xs z = some v := by
  rw [e]
  exact atI_nat h
/-! ### texts by their signs -/
def txt (l : List Nat) : Str := ⟨l.toArray⟩
theorem txt_len (l : List Nat) : (txt l).length = l.length := by show l.toArray.size = _; simp
theorem txt_cps (l : List Nat) : (txt l).cps.toList = l := by show l.toArray.toList = l; simp
theorem txt_of (z : Str) : txt z.cps.toList = z := by cases z; simp [txt]
theorem txt_app (a b : List Nat) : txt a ++ txt b = txt (a ++ b) := by
  show (⟨a.toArray ++ b.toArray⟩ : Str) = ⟨(a ++ b).toArray⟩
  rw [List.append_toArray]
theorem str_len (z : Str) : z.cps.toList.length = z.length := by show _ = z.cps.size; simp
/-- a text of one sign -/
def sg (c : Nat) : Str := ⟨#[c]⟩
theorem glue0 : ∀ (r : List Nat) (acc : Array Nat), (r.map sg).foldl (fun (acc : Array Nat) (p : Str) => acc ++ (#[] : Array Nat) ++ p.cps) acc = acc ++ r.toArray
  | [], acc => by simp
  | c :: r, acc => by
    rw [List.map_cons, List.foldl_cons, glue0 r]
    show acc ++ #[] ++ #[c] ++ r.toArray = _
    apply Array.toList_inj.mp
    simp
theorem join0 (cs : List Nat) : Txt.join ⟨#[]⟩ (cs.map sg) = txt cs := by
  cases cs with
  | nil => rfl
  | cons c r =>
    show (⟨(r.map sg).foldl (fun (acc : Array Nat) (p : Str) => acc ++ (#[] : Array Nat) ++ p.cps) #[c]⟩ : Str) = _
    rw [glue0]
    show (⟨#[c] ++ r.toArray⟩ : Str) = ⟨(c :: r).toArray⟩
    congr 1
    apply Array.toList_inj.mp
    simp
theorem sg_sum : ∀ cs : List Nat, ((cs.map sg).map (fun y => y.length)).sum = cs.length
  | [] => rfl
  | c :: r => by
    rw [List.map_cons, List.map_cons, List.sum_cons, sg_sum r, List.length_cons]
    show 1 + r.length = _
    omega
/-- the text that a statement binds -/
def litOf : Stmt → Str
  | .Assign _ (.Constant (.str x) _ _) _ => x
  | _ => ⟨#[]⟩
theorem lay_str {z : Str} (h : ∀ c ∈ z.cps.toList, c < 128) : PyData.canLay0 (.str z) = true := by
  show z.cps.all (fun c => decide (c < 0x110000)) = true
  rw [Array.all_eq_true]
  intro i hi
  exact decide_eq_true (Nat.lt_trans (h _ (by simp)) (by decide))
end Vf
namespace Vf
open PySem PySem.Spec PyProof.Rows L2 Evl
/-! ### a text many times -/
theorem rep_fold (c : Array Nat) : ∀ (n : Nat) (acc : Array Nat), ((List.replicate n c).foldl (fun a b => a ++ b) acc).toList = acc.toList ++ (List.replicate n c.toList).flatten
  | 0, acc => by simp
  | n + 1, acc => by
    rw [List.replicate_succ, List.foldl_cons, rep_fold c n, List.replicate_succ, List.flatten_cons]
    simp
theorem mul_cps (x : Str) (n : Nat) : (Txt.mul x (n : Int)).cps.toList = (List.replicate n x.cps.toList).flatten := by
  unfold Txt.mul
  by_cases h0 : n = 0
  · subst h0
    rfl
  · rw [if_neg (by omega)]
    by_cases h1 : ((n : Int) == 1 || x.length == 0) = true
    · rw [if_pos h1]
      rw [Bool.or_eq_true] at h1
      rcases h1 with h1 | h1
      · have e : n = 1 := by have := eq_of_beq h1; omega
        subst e
        simp
      · have e : x.cps.toList = [] := by
          have := eq_of_beq h1
          rw [← List.length_eq_zero_iff, str_len]
          exact this
        rw [e]
        simp
    · rw [if_neg h1, Int.toNat_natCast, rep_fold]
      simp
theorem mul_sg (c n : Nat) : Txt.mul (sg c) (n : Int) = txt (List.replicate n c) := by
  have h := mul_cps (sg c) n
  have e : (sg c).cps.toList = [c] := rfl
  rw [e] at h
  rw [← txt_of (Txt.mul (sg c) (n : Int)), h]
  congr 1
  induction n with
  | zero => rfl
  | succ n ih => rw [List.replicate_succ, List.flatten_cons, List.replicate_succ]; simp
theorem mul_ok {x : Str} {n : Int} (hx : x.length ≤ 1000) (h0 : 0 ≤ n) (h1 : n ≤ 10000) : MulOk x n := by
  refine ⟨?_, fun h _ z => ?_, fun h _ => ?_⟩
  · rw [decide_eq_false (by omega), decide_eq_false (by omega)]
    rfl
  · have : (1000 : Int) ≤ (2 ^ 63 - 1) / n := (Int.le_ediv_iff_mul_le (by omega)).mpr (by omega)
    omega
  · have : x.length * n.toNat ≤ 1000 * 10000 := Nat.mul_le_mul hx (by omega)
    unfold Builtin.Str.tooLong
    exact decide_eq_false (by
      have e : sizeLine = 16777216 := by decide
      omega)
section
variable {X : Cx}
theorem op_mulS : OpR X (binaryOp .Mult) (fun x y H Q => ∃ (z : Str) (n : Int), x = .str z ∧ y = .int n ∧ z.length ≤ 1000 ∧ 0 ≤ n ∧ n ≤ 10000 ∧ Q (.str (Txt.mul z n)) H) := by
  intro pins s σ H x y v u Q I rx ry h
  obtain ⟨z, n, rfl, rfl, hz, h0, h1, q⟩ := h
  obtain ⟨t, rfl⟩ := rx
  obtain ⟨t', rfl⟩ := ry
  exact SB.mul (mul_ok hz h0 h1) fun t' tk => ⟨.str (Txt.mul z n), H, I.tok _, ⟨_, rfl⟩, q⟩
end
end Vf
namespace Vf
open PySem PySem.Spec PyProof.Rows L2 Evl
/-! ### slices of texts -/
theorem cutS_first {z : Str} {w : Nat} : cutS z none (some (w : Int)) = ⟨(z.cps.toList.take w).toArray⟩ := by
  unfold cutS
  have hz : z.length = z.cps.toList.length := by show z.cps.size = _; simp
  rw [HT.sIx_nat, HT.sIx_none, List.drop_zero, Nat.sub_zero]
  congr 2
  by_cases hh : w ≤ z.length
  · rw [Nat.min_eq_left hh]
  · rw [Nat.min_eq_right (by omega), List.take_of_length_le (by omega), List.take_of_length_le (by omega)]
theorem cutS_rest {z : Str} {w : Nat} : cutS z (some (w : Int)) none = ⟨(z.cps.toList.drop w).toArray⟩ := by
  unfold cutS
  have hz : z.length = z.cps.toList.length := by show z.cps.size = _; simp
  rw [HT.sIx_nat, HT.sIx_none]
  congr 1
  by_cases hh : w ≤ z.length
  · rw [Nat.min_eq_left hh, List.take_of_length_le (by rw [List.length_drop]; omega)]
  · rw [Nat.min_eq_right (by omega), Nat.sub_self, List.take_zero, List.drop_eq_nil_of_le (by omega)]
end Vf
namespace Vf
open PySem PySem.Spec PyProof.Rows L2
/-! ### the text by places -/
def topS (i : Nat) : Stmt := PySem.Challenge.pw_attachhall_k02_pictures.main.body.getD i (.Pass ⟨0, 0, 0, 0⟩)
end Vf
namespace Vf
open PySem PySem.Spec PyProof.Rows L2 Evl
/-! ### the box of numbers -/
abbrev sBeg : Stmt := topS 15
theorem scBeg : FnScope ["_law_script", "_law_stirred", "_law_cell"] ["_law_script"] (defScope sBeg) := ⟨rfl, rfl, rfl, by decide +kernel, rfl, by decide +kernel, by decide +kernel⟩
structure TBeg (mg : Str → Option Value) : Prop where
  z_list : mg "list" = none
  z_int : mg "int" = none
  z_len : mg "len" = none
section
variable {P : Program} {w : World} {K : PySem.W.Frag} {mg : Str → Option Value} {base : Heap}
def spBegO (K : PySem.W.Frag) : Sp := fun vs H Q _ => ∃ (a : Addr) (ns : List Int), vs = [.ref a] ∧ SqL K H a (ns.map V.int) ∧ ns.length ≤ 63 ∧
  ∀ (b l : Addr) (z : Int) (ns' : List Int) (H' : Hp), b ≠ l → Ex H H' → H b = none → H l = none → H' b = some (.lst [.ref l, .int z]) → H' l = some (.lst (ns'.map V.int)) → Q (.ref b) H'
def spBeg (K : PySem.W.Frag) : Sp := fun vs H Q _ => ∃ (a : Addr) (ns : List Int), vs = [.ref a] ∧ SqL K H a (ns.map V.int) ∧ ns.length ≤ 63 ∧
  ∀ (b l : Addr) (H' : Hp), Ex H H' → Box H' b l → Q (.ref b) H'
theorem ok_begun0 {f : Addr} {fd : FuncData} (F : Fun K "_law_begun" "_law_begun" sBeg f fd) (T : TBeg mg) : FnOk P w K mg base CX0 1 f fd ["_law_script"] (spBegO K) := by
  refine F.ok scBeg (fun vs H Q E h => ?_) (fun cdv A outer s H vs Q E hr h => ?_)
  · obtain ⟨a, ns, rfl, _⟩ := h
    rfl
  · obtain ⟨a, ns, rfl, hS, hlen, q⟩ := h
    refine ⟨_, (pss_cons (ps_set (i := 1) scBeg.nd rfl (Or.inl rfl) pe_int)
      (pss_cons (ps_for PassesOwn.never rfl (pi_list (pv 0)) (pg_name (i := 2) scBeg.nd rfl (Or.inl rfl)) (pss_one (ps_set (i := 1) scBeg.nd rfl (Or.inl rfl) (pe_op op_mod (pe_op op_add (pe_op op_add (pe_op op_mul (pv 1) pe_int) (pe_op op_mul (pv 2) pe_int)) pe_int) pe_int))))
      (pss_one (ps_ret (pe_lst (pa_cons (pe_callTy call_list_of (by rfl) T.z_list boot_list (pa_cons (pv 0) pa_nil)) (pa_cons (pe_op op_mul (pv 1) (pe_callTy call_int1 (by rfl) T.z_int boot_int (pa_cons (pe_cmpR op_gt (pe_callB call_len_seq (by rfl) T.z_len PySem.boot_len (pa_cons (pv 0) pa_nil)) pe_int (nomark _)) pa_nil))) pa_nil))))))), ?_⟩
    refine ⟨.ref a, rfl, a, rfl, ⟨_, hS⟩, for_list (K := K) (a := a) (xs := ns.map V.int) (fun i σ H' => ∃ (z : Int) (c : Option V), σ = [some (.ref a), some (.int z), c] ∧ -(2 ^ 64) < z ∧ z < 2 ^ 64 ∧ H' = H)
      ⟨0, none, rfl, by decide, by decide, rfl⟩ (fun i σ H' _ ⟨_, _, _, _, _, e⟩ => by rw [e]; exact hS) ?_ ?_⟩
    · rintro i y σ H' hi ⟨z, c, rfl, h1, h2, rfl⟩
      obtain ⟨u, rfl⟩ : ∃ u, y = V.int u := by
        rw [List.getElem?_map] at hi
        cases e : ns[i]? with
        | none =>
          rw [e] at hi
          cases hi
        | some u =>
          rw [e] at hi
          exact ⟨u, (Option.some.inj hi).symm⟩
      refine ⟨_, rfl, z, 48271, rfl, rfl, .inl ⟨h1, h2⟩, _, rfl, u, 69621, rfl, rfl, .inr (by decide), _, _, rfl, rfl, _, _, rfl, rfl, _, _, rfl, rfl, (by show (0 : Int) < 2147483647; decide), ?_⟩
      refine ⟨_, _, rfl, ?_, ?_, rfl⟩
      · exact Int.lt_of_lt_of_le (by decide) (Int.emod_nonneg _ (by decide))
      · exact Int.lt_of_lt_of_le (Int.emod_lt_of_pos _ (by decide)) (by decide)
    · rintro σ H' ⟨z, c, rfl, h1, h2, rfl⟩
      refine ⟨.ref a, rfl, a, _, rfl, .inl hS, fun l nl => ?_⟩
      have kl : Ex H' (upd H' l (.lst (ns.map V.int))) := Ex.new nl
      have hl : upd H' l (.lst (ns.map V.int)) l = some (.lst (ns.map V.int)) := upd_same
      generalize upd H' l (.lst (ns.map V.int)) = H1 at kl hl ⊢
      have fin : ∀ (k : Bool) (Q' : VK), Q' = Q → (rI CMul fun i j => .int (i * j)) (.int z) (.int (if k then 1 else 0)) H1 fun x H2 => (fun xs H3 => xs.length ≤ sizeLine ∧ ∀ p, H3 p = none → Q' (.ref p) (upd H3 p (.lst xs))) [.ref l, x] H2 := fun k Q' e => by
        subst e
        refine ⟨_, _, rfl, rfl, .inl ⟨h1, h2⟩, (by show 2 ≤ sizeLine; decide), fun b nb => ?_⟩
        have hbl : b ≠ l := (ne_of_none hl nb).symm
        exact q b l _ ns _ hbl (kl.trans (Ex.new nb)) (by
          cases e : H' b with
          | none => rfl
          | some o => rw [kl _ _ e] at nb; cases nb) nl upd_same (by rw [upd_ne hbl.symm]; exact hl)
      refine ⟨.int z, rfl, .ref a, rfl, a, _, rfl, .inl (ex_l kl hS), _, _, rfl, rfl, .inr ⟨_, rfl, ?_⟩⟩
      exact fin _ _ rfl
theorem ok_begun {f : Addr} {fd : FuncData} (F : Fun K "_law_begun" "_law_begun" sBeg f fd) (T : TBeg mg) : FnOk P w K mg base CX0 1 f fd ["_law_script"] (spBeg K) := by
  have G : FnOk P w K mg base CX0 1 f fd ["_law_script"] (spBegO K) := ok_begun0 F T
  refine ⟨fun vs H Q E h => ?_, fun A outer s H args us vs Q E hr e0 hb hv h => ?_⟩
  · obtain ⟨a, ns, rfl, _⟩ := h
    rfl
  · obtain ⟨a, ns, rfl, hS, hlen, q⟩ := h
    refine codeAny_mono (G.run A outer s H args us [.ref a] (fun v H2 => ∃ b l z ns, v = .ref b ∧ b ≠ l ∧ Ex H H2 ∧ H b = none ∧ H l = none ∧ H2 b = some (.lst [.ref l, .int z]) ∧ H2 l = some (.lst (ns.map V.int))) E hr e0 hb hv
      ⟨a, ns, rfl, hS, hlen, fun b l z ns' H' h1 h2 h3 h4 h5 h6 => ⟨b, l, z, ns', rfl, h1, h2, h3, h4, h5, h6⟩⟩) fun r s' hq => ?_
    cases r with
    | error e => exact hq
    | ok fl =>
      cases fl with
      | ret u =>
        obtain ⟨v, H2, os, bare, un, hok, rv, b, l, z, ns2, rfl, hne, ex, n1, n2, hb2, hl2⟩ := hq
        exact ⟨.ref b, closed H2 b l, os, bare, un_new un n1 n2 hb2 hl2, hok_close hok hb2 hl2, rv, q b l _ (ex_new2 ex n1 n2) ⟨hne, upd_same, by unfold closed; rw [upd_ne (Ne.symm hne), upd_same]⟩⟩
      | next => exact hq
      | brk => exact hq
      | cont => exact hq
end
end Vf
namespace Vf
open PySem PySem.Spec PyProof.Rows L2 Evl
/-! ### a draw -/
abbrev sTak : Stmt := topS 16
theorem scTak : FnScope ["_law_box", "_law_many", "_law_number"] ["_law_box", "_law_many"] (defScope sTak) := ⟨rfl, rfl, rfl, by decide +kernel, rfl, by decide +kernel, by decide +kernel⟩
section
variable {P : Program} {w : World} {K : PySem.W.Frag} {mg : Str → Option Value} {base : Heap}
theorem ok_take {f : Addr} {fd : FuncData} (F : Fun K "_law_take" "_law_take" sTak f fd) (m : Int) (h0 : 0 < m) (h1 : m < 1073741824) :
    FnOk P w K mg base CX0 1 f fd ["_law_box", "_law_many"] (spOpen (fun v => ∃ i, v = V.int i ∧ 0 ≤ i ∧ i < m) (fun r => r = [V.int m])) := by
  refine F.ok scTak (fun vs H Q E h => ?_) (fun cdv A outer s H vs Q E hr h => ?_)
  · obtain ⟨b, l, z, ns, rest, rfl, rfl, _⟩ := h
    rfl
  · obtain ⟨b, l, z, ns, rest, rfl, rfl, hne, hb, hl, q⟩ := h
    refine ⟨_, (pss_cons (ps_if (pt_cmpR (op_eqD hr.units) (pe_ix ix_list (pv 0) pe_int (fun _ _ => rfl)) (pe_lst pa_nil) (nomark _)) (pss_cons (ps_asg (pe_op op_mod (pe_op op_mul (pe_ix ix_list (pv 0) pe_int (fun _ _ => rfl)) pe_int) pe_int) (pg_sub (pv 0) pe_int set_list))
      (pss_one (ps_ret (pe_op op_mod (pe_op op_fdivN (pe_ix ix_list (pv 0) pe_int (fun _ _ => rfl)) pe_int) (pv 1))))) pss_nil)
      (pss_cons (ps_set (i := 2) scTak.nd rfl (Or.inl rfl) (pe_ix ix_list (pe_ix ix_list (pv 0) pe_int (fun _ _ => rfl)) pe_int (fun _ _ => rfl)))
      (pss_cons (ps_asg (pe_op op_fdivN (pv 2) (pv 1)) (pg_sub (pe_ix ix_list (pv 0) pe_int (fun _ _ => rfl)) pe_int set_list))
      (pss_cons (ps_if (PW.pt (pw_or (pt_cmpR op_eq (pe_ix ix_list (pe_ix ix_list (pv 0) pe_int (fun _ _ => rfl)) pe_int (fun _ _ => rfl)) pe_int (nomark _)) (pw_or1 (pt_cmpR op_eq (pe_ix ix_list (pe_ix ix_list (pv 0) pe_int (fun _ _ => rfl)) pe_int (fun _ _ => rfl)) (pe_un un_neg pe_int) (nomark _))))) (pss_one (ps_expr (pe_bm PySem.F.plainAttrs_list PySem.F.slot_list_pop PySem.F.type_list_pop mt_popAt (pe_ix ix_list (pv 0) pe_int (fun _ _ => rfl)) (pa_cons pe_int pa_nil)))) pss_nil)
      (pss_one (ps_ret (pe_op op_mod (pv 2) (pv 1)))))))), ?_⟩
    have hmod : ∀ i : Int, ∃ j, V.int (i % m) = V.int j ∧ 0 ≤ j ∧ j < m := fun i => ⟨i % m, rfl, Int.emod_nonneg _ (by omega), Int.emod_lt_of_pos _ h0⟩
    refine ⟨.ref b, rfl, b, _, 0, .ref l, rfl, rfl, SqL.of hb, atI_nat (j := 0) rfl, Nat.zero_le _, fun p np => ?_⟩
    have kp : ∀ c o, H c = some o → (upd H p (.lst [])) c = some o := fun c o e => by rw [upd_ne (ne_of_none e np)]; exact e
    have hb1 := kp _ _ hb
    have hl1 := kp _ _ hl
    have pp : (upd H p (.lst [])) p = some (.lst []) := upd_same
    generalize upd H p (HO.lst []) = H1 at kp hb1 hl1 pp ⊢
    refine ⟨.list (ns.map PyData.int), .list [], .lst (SqL.of hl1) (dp_ints ns), .lst (SqL.of pp) .nil, sh_ints ns, rfl, _, rfl, ?_⟩
    rw [eqv_nil]
    refine ite2 (fun e => ?_) (fun e => ?_)
    · have e0 : ns = [] := of_decide_eq_true e
      subst e0
      -- the second number turned on
      refine ⟨.ref b, rfl, b, _, 1, .int z, rfl, rfl, SqL.of hb1, atI_nat (j := 1) rfl, _, _, rfl, rfl, .inr (by decide), _, _, rfl, rfl, (by show (0 : Int) < 2147483647; decide), .ref b, rfl, b, _, 1, 1, rfl, rfl, hb1, rfl, ?_⟩
      refine ⟨.ref b, rfl, b, _, 1, .int (z * 48271 % 2147483647), rfl, rfl, SqL.of upd_same, atI_nat (j := 1) rfl, _, _, rfl, rfl, ⟨by decide, by decide⟩, _, rfl, _, _, rfl, rfl, h0, ?_⟩
      refine q _ _ (z * 48271 % 2147483647) [] (hmod _) (fun c o h2 h3 e => by rw [upd_ne h2]; exact kp c o e) upd_same (by rw [upd_ne (Ne.symm hne)]; exact hl1)
    · have e0 : ns ≠ [] := fun z => e (decide_eq_true z)
      obtain ⟨n, r, rfl⟩ : ∃ n r, ns = n :: r := by
        cases ns with
        | nil => exact absurd rfl e0
        | cons n r => exact ⟨n, r, rfl⟩
      refine ⟨.ref b, rfl, b, _, 0, .ref l, rfl, rfl, SqL.of hb1, atI_nat (j := 0) rfl, l, _, 0, .int n, rfl, rfl, SqL.of hl1, atI_nat (j := 0) rfl, ?_⟩
      refine ⟨.int n, rfl, .int m, rfl, _, _, rfl, rfl, ⟨by omega, by omega⟩, .ref b, rfl, b, _, 0, .ref l, rfl, rfl, SqL.of hb1, atI_nat (j := 0) rfl, l, _, 0, 0, rfl, rfl, hl1, ixN_nat (j := 0) (by simp), ?_⟩
      have hb2 : upd H1 l (.lst (((n :: r).map V.int).set 0 (.int (n.fdiv m)))) b = some (.lst [.ref l, .int z]) := by rw [upd_ne hne]; exact hb1
      have hl2 : upd H1 l (.lst (((n :: r).map V.int).set 0 (.int (n.fdiv m)))) l = some (.lst ((n.fdiv m :: r).map V.int)) := upd_same
      have kp2 : ∀ c o, c ≠ l → H c = some o → upd H1 l (.lst (((n :: r).map V.int).set 0 (.int (n.fdiv m)))) c = some o := fun c o h e => by rw [upd_ne h]; exact kp c o e
      generalize upd H1 l (.lst (((n :: r).map V.int).set 0 (.int (n.fdiv m)))) = H2 at hb2 hl2 kp2 ⊢
      have fin : ∀ (H' : Hp) (ns' : List Int), (∀ c o, c ≠ b → c ≠ l → H c = some o → H' c = some o) → H' b = some (.lst [.ref l, .int z]) → H' l = some (.lst (ns'.map V.int)) → Q (.int (n % m)) H' := fun H' ns' h2 h3 h4 => q _ _ z ns' (hmod _) h2 h3 h4
      have fin2 : ∀ (H' : Hp) (ns' : List Int), (∀ c o, c ≠ b → c ≠ l → H c = some o → H' c = some o) → H' b = some (.lst [.ref l, .int z]) → H' l = some (.lst (ns'.map V.int)) →
          tRet (tOp (rI (fun _ j => 0 < j) fun i j => .int (i % j)) (tVar 2) (tVar 1)) { nx := fun _ H' => Q .non H', rt := Q } [some (V.ref b), some (V.int m), some (V.int n)] H' :=
        fun H' ns' h2 h3 h4 => ⟨.int n, rfl, .int m, rfl, _, _, rfl, rfl, h0, fin H' ns' h2 h3 h4⟩
      have pop : tDrop (tBM K "list" rPopAt (tOp (rIxL K) (tVar 0) (tC (.int 0))) (tCons (tC (.int 0)) tNil)) { nx := fun σ H => tRet (tOp (rI (fun _ j => 0 < j) fun i j => .int (i % j)) (tVar 2) (tVar 1)) { nx := fun _ H' => Q .non H', rt := Q } σ H, rt := Q } [some (V.ref b), some (V.int m), some (V.int n)] H2 := by
        refine ⟨.ref b, rfl, b, _, 0, .ref l, rfl, rfl, SqL.of hb2, atI_nat (j := 0) rfl, .inl ⟨rfl, _, SqL.of hl2⟩, l, _, 0, 0, .int (n.fdiv m), rfl, rfl, hl2, by decide, by decide, seq0 _ _, rfl, ?_⟩
        exact fin2 _ r (fun c o _ h3 e => by rw [upd_ne h3]; exact kp2 c o h3 e) (by rw [upd_ne hne]; exact hb2) upd_same
      refine ⟨.ref b, rfl, b, _, 0, .ref l, rfl, rfl, SqL.of hb2, atI_nat (j := 0) rfl, l, _, 0, .int (n.fdiv m), rfl, rfl, SqL.of hl2, atI_nat (j := 0) rfl, rfl, _, rfl, ?_⟩
      refine ite2 (fun _ => iteT pop) (fun _ => ?_)
      refine ⟨.ref b, rfl, b, _, 0, .ref l, rfl, rfl, SqL.of hb2, atI_nat (j := 0) rfl, l, _, 0, .int (n.fdiv m), rfl, rfl, SqL.of hl2, atI_nat (j := 0) rfl, 1, rfl, rfl, _, rfl, ?_⟩
      exact ite2 (fun _ => pop) (fun _ => fin2 H2 _ (fun c o _ h3 e => kp2 c o h3 e) hb2 hl2)
def spTak : Sp := fun vs H Q _ => ∃ (b l : Addr) (m : Int), vs = [.ref b, .int m] ∧ Box H b l ∧ 0 < m ∧ m < 1073741824 ∧ ∀ (i : Int) (H' : Hp), Ex H H' → 0 ≤ i → i < m → Q (.int i) H'
theorem ok_take2 {f : Addr} {fd : FuncData} (F : Fun K "_law_take" "_law_take" sTak f fd) : FnOk P w K mg base CX0 1 f fd ["_law_box", "_law_many"] spTak := by
  have G := hide_fn (P := P) (w := w) (K := K) (mg := mg) (base := base) (k := 1) (f := f) (fd := fd) (ps := ["_law_box", "_law_many"]) (R := fun r v => ∃ m i, r = [V.int m] ∧ v = V.int i ∧ 0 ≤ i ∧ i < m) (pre := fun r => ∃ m, r = [V.int m] ∧ 0 < m ∧ m < 1073741824)
    (fun r0 ⟨m, e, h0, h1⟩ => (ok_take F m h0 h1).imp fun vs H Q E ⟨b, l, z, ns, rest, e1, e2, e3, e4, e5, q⟩ => ⟨b, l, z, ns, rest, e1, e2.trans e, e3, e4, e5, fun v H' z' ns' ⟨i, x1, x2, x3⟩ => q v H' z' ns' ⟨m, i, e, x1, x2, x3⟩⟩)
    (fun r ⟨m, e, _⟩ => by rw [e]; rfl)
  refine G.imp fun vs H Q E ⟨b, l, m, e, B, h0, h1, q⟩ => ⟨b, l, [.int m], e, ⟨m, rfl, h0, h1⟩, B, fun v H' ⟨m', i, x1, x2, x3, x4⟩ ex => ?_⟩
  have em : m = m' := V.int.inj (List.cons.inj x1).1
  subst em
  subst x2
  exact q i H' ex x3 x4
end
structure CTak (P : Program) (w : World) (K : PySem.W.Frag) (mg : Str → Option Value) (base : Heap) : Prop where
  law_take : Cal P w K mg base "_law_take" 1 ["_law_box", "_law_many"] spTak
end Vf
namespace Vf
open PySem PySem.Spec PyProof.Rows L2 Evl
/-! ### numbers within bounds -/
abbrev sIsN : Stmt := topS 1
theorem scIsN : FnScope ["number"] ["number"] (defScope sIsN) := ⟨rfl, rfl, rfl, by decide +kernel, rfl, by decide +kernel, by decide +kernel⟩
abbrev sWit : Stmt := topS 2
theorem scWit : FnScope ["number", "least", "most"] ["number", "least", "most"] (defScope sWit) := ⟨rfl, rfl, rfl, by decide +kernel, rfl, by decide +kernel, by decide +kernel⟩
structure TBnd (mg : Str → Option Value) : Prop where
  z_isinstance : mg "isinstance" = none
  z_bool : mg "bool" = none
/-- a number, or True or False -/
inductive NumV : V → Bool → Prop
  | int (i : Int) : NumV (.int i) true
  | bl (b : Bool) : NumV (.bl b) false
def spIsN : Sp := fun vs H Q _ => ∃ (x : V) (b : Bool), vs = [x] ∧ NumV x b ∧ Q (.bl b) H
def spWit : Sp := fun vs H Q _ => ∃ (x : V) (a b : Int), vs = [x, .int a, .int b] ∧ ((∃ i, x = .int i ∧ Q (.bl (decide (a ≤ i ∧ i ≤ b))) H) ∨ ∃ t, x = .bl t ∧ Q (.bl false) H)
theorem wit_no {p : Prop} [Decidable p] (h : p) : ¬ ((!decide p) = true) := by
  rw [decide_eq_true h]
  exact fun z => by cases z
theorem wit_out {p : Prop} [Decidable p] (h : (!decide p) = true) : ¬ p := fun k => wit_no k h
theorem wit_in {p : Prop} [Decidable p] (h : ¬ ((!decide p) = true)) : p := by
  by_cases k : p
  · exact k
  · exact absurd (by rw [decide_eq_false k]; rfl) h
section
variable {P : Program} {w : World} {K : PySem.W.Frag} {mg : Str → Option Value} {base : Heap}
theorem ok_isn {f : Addr} {fd : FuncData} (F : Fun K "is_number" "is_number" sIsN f fd) (T : TBnd mg) : FnOk P w K mg base CX0 1 f fd ["number"] spIsN := by
  refine F.ok scIsN (fun vs H Q E h => ?_) (fun cdv A outer s H vs Q E hr h => ?_)
  · obtain ⟨x, b, rfl, _⟩ := h
    rfl
  · obtain ⟨x, b, rfl, hx, q⟩ := h
    refine ⟨_, (pss_one (ps_ret (pe_not (pe_callB call_isi (by rfl) T.z_isinstance boot_isinstance (pa_cons (pv 0) (pa_cons (pe_bltn (v := .ty "bool") (by rfl) T.z_bool boot_bool rfl) pa_nil)))))), ?_⟩
    cases hx with
    | int i => exact ⟨.int i, rfl, _, .ty "bool", _, _, false, rfl, .ty "bool", (.base (.int i)), kit_ty (show kitB "int" "bool" = some false by decide +kernel), _, rfl, q⟩
    | bl b => exact ⟨.bl b, rfl, _, .ty "bool", _, _, true, rfl, .ty "bool", (.base (.bl b)), kit_ty (show kitB "bool" "bool" = some true by decide +kernel), _, rfl, q⟩
structure CBnd1 (P : Program) (w : World) (K : PySem.W.Frag) (mg : Str → Option Value) (base : Heap) : Prop where
  is_number : Cal P w K mg base "is_number" 1 ["number"] spIsN
theorem ok_wit {f : Addr} {fd : FuncData} (F : Fun K "is_within" "is_within" sWit f fd) (T : TBnd mg) (C : CBnd1 P w K mg base) : FnOk P w K mg base CX0 2 f fd ["number", "least", "most"] spWit := by
  refine F.ok scWit (fun vs H Q E h => ?_) (fun cdv A outer s H vs Q E hr h => ?_)
  · obtain ⟨x, a, b, rfl, _⟩ := h
    rfl
  · obtain ⟨x, a, b, rfl, h⟩ := h
    refine ⟨_, (pss_one (ps_ret (pe_and (pcall C.is_number (hr.mono (by first | decide | omega)) (pa_cons (pv 0) pa_nil)) (pe_and (pe_cmpR op_ge (pv 0) (pv 1) (nomark _)) (pe_one (pe_cmpR op_le (pv 0) (pv 2) (nomark _))))))), ?_⟩
    rcases h with ⟨i, rfl, q⟩ | ⟨t, rfl, q⟩
    · refine ⟨.int i, rfl, .int i, true, rfl, .int i, true, rfl, iteT ⟨_, rfl, _, rfl, _, _, rfl, rfl, _, rfl, ?_⟩⟩
      refine ite2 (fun e => ⟨_, rfl, _, rfl, _, _, rfl, rfl, ?_⟩) (fun e => ?_)
      · have h1 := of_decide_eq_true e
        rw [show decide (a ≤ i ∧ i ≤ b) = decide (i ≤ b) from decide_eq_decide.mpr ⟨fun k => k.2, fun k => ⟨h1, k⟩⟩] at q
        exact q
      · have h1 := of_decide_eq_false (Bool.eq_false_iff.mpr e)
        rw [show decide (a ≤ i ∧ i ≤ b) = false from decide_eq_false fun k => h1 k.1] at q
        exact q
    · refine ⟨.bl t, rfl, .bl t, false, rfl, .bl t, false, rfl, iteF q⟩
end
structure CBnd (P : Program) (w : World) (K : PySem.W.Frag) (mg : Str → Option Value) (base : Heap) : Prop where
  is_within : Cal P w K mg base "is_within" 2 ["number", "least", "most"] spWit
end Vf
namespace Vf
open PySem PySem.Spec PyProof.Rows L2 Evl
/-! ### the same data -/
abbrev sAli : Stmt := topS 17
theorem scAli : FnScope ["_law_found", "_law_due", "_law_k"] ["_law_found", "_law_due"] (defScope sAli) := ⟨rfl, rfl, rfl, by decide +kernel, rfl, by decide +kernel, by decide +kernel⟩
structure TAli (mg : Str → Option Value) : Prop where
  z_bool : mg "bool" = none
  z_int : mg "int" = none
  z_str : mg "str" = none
  z_list : mg "list" = none
  z_tuple : mg "tuple" = none
  z_isinstance : mg "isinstance" = none
  z_len : mg "len" = none
  z_range : mg "range" = none
def spAli (K : PySem.W.Frag) (n : Nat) : Sp := fun vs H Q _ => ∃ (x y : V) (d : PyData), vs = [x, y] ∧ Dp K H x d ∧ Dp K H y d ∧ good n d = true ∧ n ≤ 60 ∧ Q (.bl true) H
theorem isi_of {K : PySem.W.Frag} {H : Hp} {x : V} {t u : String} {b : Bool} {Q : VK} (ty : TyX K H x (.type t)) (h : kitB t u = some b) (q : Q (.bl b) H) : rIsi K [x, .ty u] H Q := ⟨x, .ty u, _, _, b, rfl, .ty u, ty, kit_ty h, q⟩
theorem sh_of {d : PyData} {n : Nat} (h : PyData.canLay0 d = true) (hd : PyData.depth d ≤ n) (hn : n ≤ 60) : SeqAt.shaped d = true := by
  show (PyData.canLay0 d && decide (PyData.depth d ≤ 64)) = true
  rw [h, decide_eq_true (by omega)]
  rfl
theorem dpall_get {K : PySem.W.Frag} {H : Hp} : ∀ {xs : List V} {ds : List PyData} {i : Nat} {d : PyData}, DpAll K H xs ds → ds[i]? = some d → ∃ x, xs[i]? = some x ∧ Dp K H x d
  | _, _, _, _, .nil, e => by simp at e
  | _, _, 0, _, .cons h _, e => by
    simp at e
    subst e
    exact ⟨_, rfl, h⟩
  | _, _, i + 1, _, .cons _ t, e => by
    obtain ⟨x, h1, h2⟩ := dpall_get (i := i) t (by simpa using e)
    exact ⟨x, by simpa using h1, h2⟩
theorem dpall_len {K : PySem.W.Frag} {H : Hp} : ∀ {xs : List V} {ds : List PyData}, DpAll K H xs ds → xs.length = ds.length
  | _, _, .nil => rfl
  | _, _, .cons _ t => by rw [List.length_cons, List.length_cons, dpall_len t]
theorem depth_get : ∀ {ds : List PyData} {i : Nat} {d : PyData}, ds[i]? = some d → PyData.depth d ≤ PyData.depthAll ds
  | [], _, _, e => by simp at e
  | x :: r, 0, d, e => by
    simp at e
    subst e
    exact Nat.le_max_left _ _
  | x :: r, i + 1, d, e => Nat.le_trans (depth_get (ds := r) (i := i) (by simpa using e)) (Nat.le_max_right _ _)
theorem lay_get : ∀ {ds : List PyData} {i : Nat} {d : PyData}, PyData.canLayAll0 ds = true → ds[i]? = some d → PyData.canLay0 d = true
  | [], _, _, _, e => by simp at e
  | x :: r, 0, d, h, e => by
    simp at e
    subst e
    exact (Bool.and_eq_true_iff.mp (show (PyData.canLay0 x && PyData.canLayAll0 r) = true from h)).1
  | x :: r, i + 1, d, h, e => lay_get (ds := r) (i := i) (Bool.and_eq_true_iff.mp (show (PyData.canLay0 x && PyData.canLayAll0 r) = true from h)).2 (by simpa using e)
theorem ty_list {K : PySem.W.Frag} {H : Hp} {a : Addr} {xs : List V} (h : SqL K H a xs) : TyX K H (.ref a) (.type "list") := by
  rcases h with (h | ⟨o, h⟩) | h
  · exact .base (.lst h)
  · exact .base (.frz h)
  · obtain ⟨_, _, _, h, c, _⟩ := h
    exact .kList h c
theorem ty_tup {K : PySem.W.Frag} {H : Hp} {a : Addr} {xs : List V} (h : SqT K H a xs) : TyX K H (.ref a) (.type "tuple") := by
  rcases h with (h | ⟨o, h⟩) | h
  · exact .base (.tup h)
  · exact .fTuple h
  · obtain ⟨_, _, _, h, c, _⟩ := h
    exact .kTuple h c
section
variable {P : Program} {w : World} {K : PySem.W.Frag} {mg : Str → Option Value} {base : Heap}
structure CAli (P : Program) (w : World) (K : PySem.W.Frag) (mg : Str → Option Value) (base : Heap) (k : Nat) (sp : Sp) : Prop where
  law_alike : Cal P w K mg base "_law_alike" k ["_law_found", "_law_due"] sp
theorem ok_alike1 {f : Addr} {fd : FuncData} {k n : Nat} {sp : Sp} (F : Fun K "_law_alike" "_law_alike" sAli f fd) (T : TAli mg) (C : CAli P w K mg base k sp)
    (hC : ∀ (x y : V) (d : PyData) (H : Hp) (Q : VK) (E : XK), Dp K H x d → Dp K H y d → (∃ m, n = m + 1 ∧ good m d = true) → n ≤ 60 → Q (.bl true) H → sp [x, y] H Q E) : FnOk P w K mg base CX0 (k + 1) f fd ["_law_found", "_law_due"] (spAli K n) := by
  refine F.ok scAli (fun vs H Q E h => ?_) (fun cdv A outer s H vs Q E hr h => ?_)
  · obtain ⟨x, y, d, rfl, _⟩ := h
    rfl
  · obtain ⟨x, y, d, rfl, hx, hy, hg, hn, q⟩ := h
    obtain ⟨hl, hd⟩ := good_lay n d hg
    refine ⟨_, (pss_cons (ps_if (pt_cmpR op_isN (pv 1) pe_non (nomark _)) (pss_one (ps_ret (pe_cmpR op_isN (pv 0) pe_non (nomark _)))) pss_nil)
      (pss_cons (ps_if (pt_val (pe_callB call_isi (by rfl) T.z_isinstance boot_isinstance (pa_cons (pv 1) (pa_cons (pe_bltn (v := .ty "bool") (by rfl) T.z_bool boot_bool rfl) pa_nil)))) (pss_one (ps_ret (pe_and (pe_callB call_isi (by rfl) T.z_isinstance boot_isinstance (pa_cons (pv 0) (pa_cons (pe_bltn (v := .ty "bool") (by rfl) T.z_bool boot_bool rfl) pa_nil))) (pe_one (pe_cmpR (op_eqD hr.units) (pv 0) (pv 1) (nomark _)))))) pss_nil)
      (pss_cons (ps_if (pt_val (pe_callB call_isi (by rfl) T.z_isinstance boot_isinstance (pa_cons (pv 1) (pa_cons (pe_bltn (v := .ty "int") (by rfl) T.z_int boot_int rfl) pa_nil)))) (pss_one (ps_ret (pe_and (pe_callB call_isi (by rfl) T.z_isinstance boot_isinstance (pa_cons (pv 0) (pa_cons (pe_bltn (v := .ty "int") (by rfl) T.z_int boot_int rfl) pa_nil))) (pe_and (pe_not (pe_callB call_isi (by rfl) T.z_isinstance boot_isinstance (pa_cons (pv 0) (pa_cons (pe_bltn (v := .ty "bool") (by rfl) T.z_bool boot_bool rfl) pa_nil)))) (pe_one (pe_cmpR (op_eqD hr.units) (pv 0) (pv 1) (nomark _))))))) pss_nil)
      (pss_cons (ps_if (pt_val (pe_callB call_isi (by rfl) T.z_isinstance boot_isinstance (pa_cons (pv 1) (pa_cons (pe_bltn (v := .ty "str") (by rfl) T.z_str boot_str rfl) pa_nil)))) (pss_one (ps_ret (pe_and (pe_callB call_isi (by rfl) T.z_isinstance boot_isinstance (pa_cons (pv 0) (pa_cons (pe_bltn (v := .ty "str") (by rfl) T.z_str boot_str rfl) pa_nil))) (pe_one (pe_cmpR (op_eqD hr.units) (pv 0) (pv 1) (nomark _)))))) pss_nil)
      (pss_cons (ps_if (PW.pt (pw_or (pt_cmpR op_ne (pe_callB call_isi (by rfl) T.z_isinstance boot_isinstance (pa_cons (pv 1) (pa_cons (pe_bltn (v := .ty "tuple") (by rfl) T.z_tuple boot_tuple rfl) pa_nil))) (pe_callB call_isi (by rfl) T.z_isinstance boot_isinstance (pa_cons (pv 0) (pa_cons (pe_bltn (v := .ty "tuple") (by rfl) T.z_tuple boot_tuple rfl) pa_nil))) (nomark _)) (pw_or1 (pt_cmpR op_ne (pe_callB call_isi (by rfl) T.z_isinstance boot_isinstance (pa_cons (pv 1) (pa_cons (pe_bltn (v := .ty "list") (by rfl) T.z_list boot_list rfl) pa_nil))) (pe_callB call_isi (by rfl) T.z_isinstance boot_isinstance (pa_cons (pv 0) (pa_cons (pe_bltn (v := .ty "list") (by rfl) T.z_list boot_list rfl) pa_nil))) (nomark _))))) (pss_one (ps_ret pe_bl)) pss_nil)
      (pss_cons (ps_if (pt_cmpR op_ne (pe_callB call_len_seq (by rfl) T.z_len PySem.boot_len (pa_cons (pv 0) pa_nil)) (pe_callB call_len_seq (by rfl) T.z_len PySem.boot_len (pa_cons (pv 1) pa_nil)) (nomark _)) (pss_one (ps_ret pe_bl)) pss_nil)
      (pss_cons (ps_for PassesOwn.never rfl (pi_range1 rfl T.z_range (pa_cons (pe_callB call_len_seq (by rfl) T.z_len PySem.boot_len (pa_cons (pv 1) pa_nil)) pa_nil)) (pg_name (i := 2) scAli.nd rfl (Or.inl rfl)) (pss_one (ps_if (pt_not (pt_val (pcall C.law_alike (hr.mono (by first | decide | omega)) (pa_cons (pe_ix ix_seq (pv 0) (pv 2) (fun _ _ => rfl)) (pa_cons (pe_ix ix_seq (pv 1) (pv 2) (fun _ _ => rfl)) pa_nil))))) (pss_one (ps_ret pe_bl)) pss_nil)))
      (pss_one (ps_ret pe_bl))))))))), ?_⟩
    refine ⟨y, rfl, rfl, _, rfl, ?_⟩
    cases d with
    | none =>
      cases hx
      cases hy
      rw [decide_eq_true rfl]
      refine iteT ?_
      exact ⟨.non, rfl, rfl, q⟩
    | bool b =>
      cases hx
      cases hy
      refine iteF ?_
      refine ⟨.bl b, rfl, ?_⟩
      refine ⟨_, .ty "bool", _, _, true, rfl, .ty "bool", (.base (.bl b)), kit_ty (show kitB "bool" "bool" = some true by decide +kernel), ?_⟩
      refine ⟨_, rfl, iteT ?_⟩
      refine ⟨.bl b, rfl, ?_⟩
      refine ⟨_, .ty "bool", _, _, true, rfl, .ty "bool", (.base (.bl b)), kit_ty (show kitB "bool" "bool" = some true by decide +kernel), ?_⟩
      refine ⟨_, rfl, iteT ?_⟩
      refine ⟨.bl b, rfl, .bl b, rfl, .bool b, .bool b, .bl b, .bl b, rfl, rfl, ?_⟩
      rw [SeqAt.eqv_refl _ rfl]
      exact q
    | int i =>
      cases hx
      cases hy
      refine iteF ?_
      refine ⟨.int i, rfl, ?_⟩
      refine ⟨_, .ty "bool", _, _, false, rfl, .ty "bool", (.base (.int i)), kit_ty (show kitB "int" "bool" = some false by decide +kernel), ?_⟩
      refine ⟨_, rfl, iteF ?_⟩
      refine ⟨.int i, rfl, ?_⟩
      refine ⟨_, .ty "int", _, _, true, rfl, .ty "int", (.base (.int i)), kit_ty (show kitB "int" "int" = some true by decide +kernel), ?_⟩
      refine ⟨_, rfl, iteT ?_⟩
      refine ⟨.int i, rfl, ?_⟩
      refine ⟨_, .ty "int", _, _, true, rfl, .ty "int", (.base (.int i)), kit_ty (show kitB "int" "int" = some true by decide +kernel), ?_⟩
      refine ⟨_, rfl, iteT ?_⟩
      refine ⟨.int i, rfl, ?_⟩
      refine ⟨_, .ty "bool", _, _, false, rfl, .ty "bool", (.base (.int i)), kit_ty (show kitB "int" "bool" = some false by decide +kernel), ?_⟩
      refine ⟨_, rfl, _, rfl, iteT ?_⟩
      refine ⟨.int i, rfl, .int i, rfl, .int i, .int i, .int i, .int i, rfl, rfl, ?_⟩
      rw [SeqAt.eqv_refl _ rfl]
      exact q
    | str z =>
      cases hx
      cases hy
      have hs := sh_of hl hd hn
      refine iteF ?_
      refine ⟨.str z, rfl, ?_⟩
      refine ⟨_, .ty "bool", _, _, false, rfl, .ty "bool", (.base (.str z)), kit_ty (show kitB "str" "bool" = some false by decide +kernel), ?_⟩
      refine ⟨_, rfl, iteF ?_⟩
      refine ⟨.str z, rfl, ?_⟩
      refine ⟨_, .ty "int", _, _, false, rfl, .ty "int", (.base (.str z)), kit_ty (show kitB "str" "int" = some false by decide +kernel), ?_⟩
      refine ⟨_, rfl, iteF ?_⟩
      refine ⟨.str z, rfl, ?_⟩
      refine ⟨_, .ty "str", _, _, true, rfl, .ty "str", (.base (.str z)), kit_ty (show kitB "str" "str" = some true by decide +kernel), ?_⟩
      refine ⟨_, rfl, iteT ?_⟩
      refine ⟨.str z, rfl, ?_⟩
      refine ⟨_, .ty "str", _, _, true, rfl, .ty "str", (.base (.str z)), kit_ty (show kitB "str" "str" = some true by decide +kernel), ?_⟩
      refine ⟨_, rfl, iteT ?_⟩
      refine ⟨.str z, rfl, .str z, rfl, .str z, .str z, .str z, .str z, hs, hs, ?_⟩
      rw [SeqAt.eqv_refl _ hl]
      exact q
    | dict _ => cases hx
    | list ds =>
      cases hx with
      | @lst a xs _ ha hA =>
      cases hy with
      | @lst b ys _ hb hB =>
      have ta := ty_list ha
      have tb := ty_list hb
      refine iteF ?_
      refine ⟨.ref b, rfl, ?_⟩
      refine ⟨_, .ty "bool", _, _, false, rfl, .ty "bool", tb, kit_ty (show kitB "list" "bool" = some false by decide +kernel), ?_⟩
      refine ⟨_, rfl, iteF ?_⟩
      refine ⟨.ref b, rfl, ?_⟩
      refine ⟨_, .ty "int", _, _, false, rfl, .ty "int", tb, kit_ty (show kitB "list" "int" = some false by decide +kernel), ?_⟩
      refine ⟨_, rfl, iteF ?_⟩
      refine ⟨.ref b, rfl, ?_⟩
      refine ⟨_, .ty "str", _, _, false, rfl, .ty "str", tb, kit_ty (show kitB "list" "str" = some false by decide +kernel), ?_⟩
      refine ⟨_, rfl, iteF ?_⟩
      refine ⟨.ref b, rfl, ?_⟩
      refine ⟨_, .ty "tuple", _, _, false, rfl, .ty "tuple", tb, kit_ty (show kitB "list" "tuple" = some false by decide +kernel), ?_⟩
      refine ⟨.ref a, rfl, ?_⟩
      refine ⟨_, .ty "tuple", _, _, false, rfl, .ty "tuple", ta, kit_ty (show kitB "list" "tuple" = some false by decide +kernel), ?_⟩
      refine ⟨rfl, _, rfl, iteF ?_⟩
      refine ⟨.ref b, rfl, ?_⟩
      refine ⟨_, .ty "list", _, _, true, rfl, .ty "list", tb, kit_ty (show kitB "list" "list" = some true by decide +kernel), ?_⟩
      refine ⟨.ref a, rfl, ?_⟩
      refine ⟨_, .ty "list", _, _, true, rfl, .ty "list", ta, kit_ty (show kitB "list" "list" = some true by decide +kernel), ?_⟩
      refine ⟨rfl, _, rfl, iteF ?_⟩
      have el : xs.length = ys.length := (dpall_len hA).trans (dpall_len hB).symm
      refine ⟨.ref a, rfl, a, xs, rfl, .inl ha, .ref b, rfl, b, ys, rfl, .inl hb, rfl, _, rfl, ?_⟩
      rw [el]
      refine iteNS rfl ?_
      cases n with
      | zero => cases hg
      | succ m =>
      have hg2 : (decide (ds.length ≤ 16777216) && ds.all (good m)) = true := hg
      have hlen : ys.length ≤ 16777216 := by
        rw [dpall_len hB]
        exact good_len hg2
      refine ⟨.ref b, rfl, b, ys, rfl, .inl hb, _, rfl, by omega, by omega, ?_⟩
      refine for_range (lo := 0) (n := ((ys.length : Nat) : Int).toNat) (fun i σ H' => ∃ c, σ = [some (.ref a), some (.ref b), c] ∧ H' = H) ⟨none, rfl, rfl⟩ ?_ ?_
      · rintro i σ H' hi ⟨c, rfl, rfl⟩
        have hi2 : i < ds.length := by rw [← dpall_len hB]; omega
        obtain ⟨x, gx, dx⟩ := dpall_get hA (List.getElem?_eq_getElem hi2)
        obtain ⟨y, gy, dy⟩ := dpall_get hB (List.getElem?_eq_getElem hi2)
        refine ⟨.ref a, rfl, _, rfl, .inl ⟨a, xs, _, x, rfl, rfl, ha, at_of (by omega) gx, .ref b, rfl, _, rfl, .inl ⟨b, ys, _, y, rfl, rfl, hb, at_of (by omega) gy, ?_⟩⟩⟩
        exact hC x y _ _ _ _ dx dy ⟨m, rfl, good_get hg2 (List.getElem?_eq_getElem hi2)⟩ hn ⟨_, rfl, iteF ⟨_, rfl, rfl⟩⟩
      · rintro σ H' ⟨c, rfl, rfl⟩
        exact q
    | tuple ds =>
      cases hx with
      | @tup a xs _ ha hA =>
      cases hy with
      | @tup b ys _ hb hB =>
      have ta := ty_tup ha
      have tb := ty_tup hb
      refine iteF ?_
      refine ⟨.ref b, rfl, ?_⟩
      refine ⟨_, .ty "bool", _, _, false, rfl, .ty "bool", tb, kit_ty (show kitB "tuple" "bool" = some false by decide +kernel), ?_⟩
      refine ⟨_, rfl, iteF ?_⟩
      refine ⟨.ref b, rfl, ?_⟩
      refine ⟨_, .ty "int", _, _, false, rfl, .ty "int", tb, kit_ty (show kitB "tuple" "int" = some false by decide +kernel), ?_⟩
      refine ⟨_, rfl, iteF ?_⟩
      refine ⟨.ref b, rfl, ?_⟩
      refine ⟨_, .ty "str", _, _, false, rfl, .ty "str", tb, kit_ty (show kitB "tuple" "str" = some false by decide +kernel), ?_⟩
      refine ⟨_, rfl, iteF ?_⟩
      refine ⟨.ref b, rfl, ?_⟩
      refine ⟨_, .ty "tuple", _, _, true, rfl, .ty "tuple", tb, kit_ty (show kitB "tuple" "tuple" = some true by decide +kernel), ?_⟩
      refine ⟨.ref a, rfl, ?_⟩
      refine ⟨_, .ty "tuple", _, _, true, rfl, .ty "tuple", ta, kit_ty (show kitB "tuple" "tuple" = some true by decide +kernel), ?_⟩
      refine ⟨rfl, _, rfl, iteF ?_⟩
      refine ⟨.ref b, rfl, ?_⟩
      refine ⟨_, .ty "list", _, _, false, rfl, .ty "list", tb, kit_ty (show kitB "tuple" "list" = some false by decide +kernel), ?_⟩
      refine ⟨.ref a, rfl, ?_⟩
      refine ⟨_, .ty "list", _, _, false, rfl, .ty "list", ta, kit_ty (show kitB "tuple" "list" = some false by decide +kernel), ?_⟩
      refine ⟨rfl, _, rfl, iteF ?_⟩
      have el : xs.length = ys.length := (dpall_len hA).trans (dpall_len hB).symm
      refine ⟨.ref a, rfl, a, xs, rfl, .inr ha, .ref b, rfl, b, ys, rfl, .inr hb, rfl, _, rfl, ?_⟩
      rw [el]
      refine iteNS rfl ?_
      cases n with
      | zero => cases hg
      | succ m =>
      have hg2 : (decide (ds.length ≤ 16777216) && ds.all (good m)) = true := hg
      have hlen : ys.length ≤ 16777216 := by
        rw [dpall_len hB]
        exact good_len hg2
      refine ⟨.ref b, rfl, b, ys, rfl, .inr hb, _, rfl, by omega, by omega, ?_⟩
      refine for_range (lo := 0) (n := ((ys.length : Nat) : Int).toNat) (fun i σ H' => ∃ c, σ = [some (.ref a), some (.ref b), c] ∧ H' = H) ⟨none, rfl, rfl⟩ ?_ ?_
      · rintro i σ H' hi ⟨c, rfl, rfl⟩
        have hi2 : i < ds.length := by rw [← dpall_len hB]; omega
        obtain ⟨x, gx, dx⟩ := dpall_get hA (List.getElem?_eq_getElem hi2)
        obtain ⟨y, gy, dy⟩ := dpall_get hB (List.getElem?_eq_getElem hi2)
        refine ⟨.ref a, rfl, _, rfl, .inr (.inl ⟨a, xs, _, x, rfl, rfl, ha, at_of (by omega) gx, .ref b, rfl, _, rfl, .inr (.inl ⟨b, ys, _, y, rfl, rfl, hb, at_of (by omega) gy, ?_⟩)⟩)⟩
        exact hC x y _ _ _ _ dx dy ⟨m, rfl, good_get hg2 (List.getElem?_eq_getElem hi2)⟩ hn ⟨_, rfl, iteF ⟨_, rfl, rfl⟩⟩
      · rintro σ H' ⟨c, rfl, rfl⟩
        exact q
theorem ok_alike {f : Addr} {fd : FuncData} (F : Fun K "_law_alike" "_law_alike" sAli f fd) (T : TAli mg) (hm : mg "_law_alike" = some (.ref f)) (hb : Binds K fd ["_law_found", "_law_due"] []) : ∀ n : Nat, FnOk P w K mg base CX0 (n + 1) f fd ["_law_found", "_law_due"] (spAli K n)
  | 0 => ok_alike1 (sp := fun _ _ _ _ => False) F T ⟨⟨f, fd, ⟨fun _ _ _ _ h => h.elim, fun _ _ _ _ _ _ _ _ _ _ _ _ _ h => h.elim⟩, hm, F.kp, hb⟩⟩ fun _ _ _ _ _ _ _ _ h => by
      obtain ⟨m, h, _⟩ := h
      exact absurd h (by omega)
  | n + 1 => ok_alike1 F T ⟨⟨f, fd, ok_alike F T hm hb n, hm, F.kp, hb⟩⟩ fun x y d H Q E hx hy h hn q => by
      obtain ⟨m, h, hg⟩ := h
      obtain rfl : m = n := by omega
      exact ⟨x, y, d, rfl, hx, hy, hg, by omega, q⟩
end
end Vf
namespace Vf
open PySem PySem.Spec PyProof.Rows L2 Evl
/-! ### pieces of a row: the mathematics -/
def more (w : Nat) : Nat → List Nat → List (List Nat)
  | 0, _ => []
  | n + 1, l => if w < l.length then (l.drop w).take w :: more w n (l.drop w) else []
def pieces (w : Nat) (l : List Nat) : List (List Nat) := l.take w :: more w l.length l
def pcs (w : Nat) (z : Str) : List Str := (pieces w z.cps.toList).map fun l => ⟨l.toArray⟩
theorem more_eq {w : Nat} (hw : 1 ≤ w) : ∀ (n : Nat) (l : List Nat), l.length ≤ n → more w n l = (List.range ((l.length + w - 1) / w - 1)).map fun i => (l.drop ((i + 1) * w)).take w
  | 0, l, h => by
    have e : l.length = 0 := by omega
    rw [e]
    have e2 : (0 + w - 1) / w = 0 := Nat.div_eq_of_lt (by omega)
    rw [e2]
    rfl
  | n + 1, l, h => by
    unfold more
    by_cases hl : w < l.length
    · rw [if_pos hl, more_eq hw n (l.drop w) (by rw [List.length_drop]; omega), List.length_drop]
      have e1 : (l.length + w - 1) / w = (l.length - w + w - 1) / w + 1 := by
        have e : l.length + w - 1 = (l.length - w + w - 1) + w := by omega
        rw [e, Nat.add_div_right _ (by omega)]
      have h2 : 1 ≤ (l.length - w + w - 1) / w := (Nat.le_div_iff_mul_le (by omega)).mpr (by omega)
      rw [e1, show (l.length - w + w - 1) / w + 1 - 1 = ((l.length - w + w - 1) / w - 1) + 1 by omega, List.range_succ_eq_map, List.map_cons, List.map_map]
      congr 1
      · rw [Nat.zero_add, Nat.one_mul]
      · apply List.map_congr_left
        intro i _
        show ((l.drop w).drop ((i + 1) * w)).take w = (l.drop ((i + 1 + 1) * w)).take w
        rw [List.drop_drop]
        congr 2
        rw [Nat.add_mul (i + 1) 1 w]
        omega
    · rw [if_neg hl]
      have e2 : (l.length + w - 1) / w - 1 = 0 := by
        have : (l.length + w - 1) / w < 2 := Nat.div_lt_of_lt_mul (by omega)
        omega
      rw [e2]
      rfl
theorem pieces_eq {w : Nat} (hw : 1 ≤ w) (l : List Nat) : pieces w l = (List.range ((max l.length 1 + w - 1) / w)).map fun i => (l.drop (i * w)).take w := by
  unfold pieces
  rw [more_eq hw _ _ (Nat.le_refl _)]
  by_cases h0 : l.length = 0
  · have e : l = [] := List.length_eq_zero_iff.mp h0
    subst e
    have e1 : (max ([] : List Nat).length 1 + w - 1) / w = 1 := by
      show (max 0 1 + w - 1) / w = 1
      rw [show max 0 1 + w - 1 = w by omega, Nat.div_self (by omega)]
    have e2 : (([] : List Nat).length + w - 1) / w = 0 := Nat.div_eq_of_lt (by show 0 + w - 1 < w; omega)
    rw [e1, e2]
    simp
  · rw [show max l.length 1 = l.length by omega]
    have h2 : 1 ≤ (l.length + w - 1) / w := (Nat.le_div_iff_mul_le (by omega)).mpr (by omega)
    rw [show (l.length + w - 1) / w = ((l.length + w - 1) / w - 1) + 1 by omega, List.range_succ_eq_map, List.map_cons, List.map_map]
    congr 1
    rw [Nat.zero_mul, List.drop_zero]
theorem pieces_len {w : Nat} (hw : 1 ≤ w) (l : List Nat) : (pieces w l).length ≤ l.length + 1 := by
  rw [pieces_eq hw, List.length_map, List.length_range]
  refine Nat.le_trans (Nat.div_le_of_le_mul (m := max l.length 1 + w - 1) (k := w) (n := l.length + 1) ?_) (Nat.le_refl _)
  rw [Nat.mul_add, Nat.mul_one]
  have : 1 * l.length ≤ w * l.length := Nat.mul_le_mul_right _ hw
  omega
theorem pcs_len {w : Nat} (hw : 1 ≤ w) (z : Str) : (pcs w z).length ≤ z.length + 1 := by
  unfold pcs
  rw [List.length_map]
  exact pieces_len hw _
theorem piece_len {w : Nat} {l x : List Nat} (hw : 1 ≤ w) (h : x ∈ pieces w l) : ∀ c ∈ x, c ∈ l := by
  rw [pieces_eq hw] at h
  obtain ⟨i, _, rfl⟩ := List.mem_map.mp h
  intro c hc
  exact List.mem_of_mem_drop (List.mem_of_mem_take hc)
theorem rgc_up {j c : Int} {n : Nat} (h0 : 0 ≤ j) (h1 : j < 1000000000) (hc : 1 ≤ c) (hc2 : c < 1000000000) (hn : ((j + c - 1) / c : Int) = (n : Int)) : RgC 0 j c n := by
  have e : Builtin.Range.rangeSize 0 j c = (n : Int) := by rw [PyProof.Rows.rangeSize_pos hc h0]; exact hn
  have h2 : (n : Int) ≤ j + c := by
    rw [← hn]
    exact Int.ediv_le_of_le_mul (by omega) (by
      have : (j + c) * 1 ≤ (j + c) * c := Int.mul_le_mul_of_nonneg_left hc (by omega)
      omega)
  refine ⟨by omega, by omega, ?_, e⟩
  unfold Builtin.Range.small
  rw [e]
  simp only [Builtin.Range.rangeFitsLong, Bool.and_eq_true, Bool.or_eq_true, decide_eq_true_eq, beq_iff_eq, show c > 0 by omega, if_true]
  omega
theorem cutS_at {z : Str} {a w : Nat} (h : a ≤ z.length) : cutS z (some (a : Int)) (some ((a : Int) + (w : Int))) = ⟨((z.cps.toList.drop a).take w).toArray⟩ := by
  unfold cutS
  have e : ((a : Int) + (w : Int)) = ((a + w : Nat) : Int) := by omega
  rw [e, HT.sIx_nat, HT.sIx_nat, Nat.min_eq_left h]
  have hz : z.length = z.cps.toList.length := by show z.cps.size = _; simp
  congr 2
  by_cases hh : a + w ≤ z.length
  · rw [Nat.min_eq_left hh, Nat.add_sub_cancel_left]
  · rw [Nat.min_eq_right (by omega), List.take_of_length_le (by rw [List.length_drop]; omega), List.take_of_length_le (by rw [List.length_drop]; omega)]
theorem cutV_lastN (xs : List V) (h : Nat) (hh : 1 ≤ h) : cutV xs (some (-(h : Int))) none = xs.drop (xs.length - h) := by
  unfold cutV
  have e : HT.sIx xs.length 0 (some (-(h : Int))) = xs.length - h := by
    show (if (-(h : Int)) < 0 then (-(h : Int) + (xs.length : Int)).toNat else _) = _
    rw [if_pos (by omega)]
    omega
  rw [e, HT.sIx_none, List.take_of_length_le (by rw [List.length_drop]; omega)]
theorem cutV_from (xs : List V) (k : Nat) : cutV xs (some (k : Int)) none = xs.drop k := by
  unfold cutV
  rw [HT.sIx_nat, HT.sIx_none]
  by_cases hh : k ≤ xs.length
  · rw [Nat.min_eq_left hh, List.take_of_length_le (by rw [List.length_drop]; omega)]
  · rw [Nat.min_eq_right (by omega), Nat.sub_self, List.take_zero, List.drop_eq_nil_of_le (by omega)]
/-! ### the program's own pictures -/
abbrev sChk : Stmt := topS 11
theorem scChk : FnScope ["wide", "high"] ["wide", "high"] (defScope sChk) := ⟨rfl, rfl, rfl, by decide +kernel, rfl, by decide +kernel, by decide +kernel⟩
abbrev sCut : Stmt := topS 12
theorem scCut : FnScope ["row", "wide", "signs", "at"] ["row", "wide"] (defScope sCut) := ⟨rfl, rfl, rfl, by decide +kernel, rfl, by decide +kernel, by decide +kernel⟩
abbrev sVie : Stmt := topS 13
theorem scVie : FnScope ["rows", "line", "wide", "high", "pieces", "row"] ["rows", "line", "wide", "high"] (defScope sVie) := ⟨rfl, rfl, rfl, by decide +kernel, rfl, by decide +kernel, by decide +kernel⟩
structure TPic (mg : Str → Option Value) : Prop where
  z_len : mg "len" = none
  z_max : mg "max" = none
  z_range : mg "range" = none
  mg_NARROWEST : ∃ t, mg "NARROWEST" = some (.int 2 t)
  mg_WIDEST : ∃ t, mg "WIDEST" = some (.int 40 t)
  mg_LOWEST : ∃ t, mg "LOWEST" = some (.int 1 t)
  mg_HIGHEST : ∃ t, mg "HIGHEST" = some (.int 20 t)
def spChk : Sp := fun vs H Q _ => ∃ (w h : Nat), vs = [.int w, .int h] ∧ 2 ≤ w ∧ w ≤ 40 ∧ 1 ≤ h ∧ h ≤ 20 ∧ Q .non H
def spCut : Sp := fun vs H Q _ => ∃ (z : Str) (w : Nat), vs = [.str z, .int w] ∧ 1 ≤ w ∧ w ≤ 100 ∧ z.length ≤ 100000 ∧ ∀ p H', Ex H H' → H p = none → H' p = some (.lst ((pcs w z).map V.str)) → Q (.ref p) H'
def picture (rows : List Str) (line : Str) (w h : Nat) : List Str := ((rows ++ ["> " ++ line]).flatMap (pcs w)).drop (((rows ++ ["> " ++ line]).flatMap (pcs w)).length - h)
def spVie (K : PySem.W.Frag) : Sp := fun vs H Q _ => ∃ (a : Addr) (rows : List Str) (line : Str) (w h : Nat), vs = [.ref a, .str line, .int w, .int h] ∧ SqL K H a (rows.map V.str) ∧ rows.length ≤ 1000 ∧ (∀ z ∈ rows, z.length ≤ 1000) ∧ line.length ≤ 1000 ∧
  2 ≤ w ∧ w ≤ 40 ∧ 1 ≤ h ∧ h ≤ 20 ∧ ∀ p H', Ex H H' → H p = none → H' p = some (.lst ((picture rows line w h).map V.str)) → Q (.ref p) H'
section
variable {P : Program} {w : World} {K : PySem.W.Frag} {mg : Str → Option Value} {base : Heap}
theorem ok_chk {f : Addr} {fd : FuncData} (F : Fun K "check_size" "check_size" sChk f fd) (T : TPic mg) (C : CBnd P w K mg base) : FnOk P w K mg base CX0 3 f fd ["wide", "high"] spChk := by
  refine F.ok scChk (fun vs H Q E h => ?_) (fun cdv A outer s H vs Q E hr h => ?_)
  · obtain ⟨w, h, rfl, _⟩ := h
    rfl
  · obtain ⟨wd, hg, rfl, h1, h2, h3, h4, q⟩ := h
    refine ⟨_, (pss_cons (ps_if (pt_not (pt_val (pcall C.is_within (hr.mono (by first | decide | omega)) (pa_cons (pv 0) (pa_cons (pgI T.mg_NARROWEST) (pa_cons (pgI T.mg_WIDEST) pa_nil)))))) pss_never pss_nil)
      (pss_one (ps_if (pt_not (pt_val (pcall C.is_within (hr.mono (by first | decide | omega)) (pa_cons (pv 1) (pa_cons (pgI T.mg_LOWEST) (pa_cons (pgI T.mg_HIGHEST) pa_nil)))))) pss_never pss_nil))), ?_⟩
    refine ⟨_, rfl, _, _, _, rfl, .inl ⟨_, rfl, _, rfl, ite2 (fun e => absurd e (wit_no (by omega))) fun _ => ?_⟩⟩
    refine ⟨_, rfl, _, _, _, rfl, .inl ⟨_, rfl, _, rfl, ite2 (fun e => absurd e (wit_no (by omega))) fun _ => ?_⟩⟩
    exact q
theorem ok_cut {f : Addr} {fd : FuncData} (F : Fun K "cut" "cut" sCut f fd) (T : TPic mg) : FnOk P w K mg base CX0 1 f fd ["row", "wide"] spCut := by
  refine F.ok scCut (fun vs H Q E h => ?_) (fun cdv A outer s H vs Q E hr h => ?_)
  · obtain ⟨z, w, rfl, _⟩ := h
    rfl
  · obtain ⟨z, wd, rfl, h1, h2, h3, q⟩ := h
    refine ⟨_, (pss_cons (ps_set (i := 2) scCut.nd rfl (Or.inl rfl) (pe_callB (call_max2 rfl) (by rfl) T.z_max boot_max (pa_cons (pe_callB call_len_str (by rfl) T.z_len PySem.boot_len (pa_cons (pv 0) pa_nil)) (pa_cons pe_int pa_nil))))
      (pss_one (ps_ret (pe_lc (own := [("at", 3)]) (g := gName 3) (tt := tYes) rfl scCut.nd (pi_range3 (by rfl) T.z_range (pa_cons pe_int (pa_cons (pv 2) (pa_cons (pv 1) pa_nil)))) (blkOk_by (own := [("at", 3)]) (N := ["row", "wide", "signs", "at"]) (sc := defScope sCut) (by decide +kernel)) (fun _ _ _ _ _ => pg_name (i := 3) scCut.nd rfl (Or.inl rfl)) (fun _ _ _ _ _ => pts_nil) (fun _ _ _ _ _ => (pe_slice sl_str (pv 0) (po_some (pv 3)) (po_some (pe_op op_add (pv 3) (pv 1))))))))), ?_⟩
    refine ⟨.str z, rfl, z, rfl, Nat.le_trans h3 (by decide), _, _, rfl, ?_⟩
    have em : (if (1 : Int) > (z.length : Int) then (1 : Int) else (z.length : Int)) = ((max z.length 1 : Nat) : Int) := by split <;> omega
    rw [em]
    refine ⟨.int ((max z.length 1 : Nat) : Int), rfl, .int wd, rfl, 0, _, _, (max z.length 1 + wd - 1) / wd, rfl, rgc_up (by omega) (by omega) (by omega) (by omega) (by rw [show (((max z.length 1 : Nat) : Int) + (wd : Int) - 1) = ((max z.length 1 + wd - 1 : Nat) : Int) by omega]; exact (Int.natCast_ediv _ _).symm), fun D hD => ?_⟩
    have hz : z.cps.toList.length = z.length := by show _ = z.cps.size; simp
    refine lc_it walk_rangeC (fun i H' => Ex H H' ∧ H' D = some (.lst ((((pieces wd z.cps.toList).take i).map fun l => (⟨l.toArray⟩ : Str)).map V.str))) ⟨Ex.new hD, upd_same⟩ (fun _ _ _ _ => trivial) ?_ ?_
    · rintro i x H1 H2 hi ⟨e, hp⟩ ⟨rfl, rfl⟩
      have hle : i * wd ≤ z.length := by
        have q1 : (i + 1) * wd ≤ max z.length 1 + wd - 1 := (Nat.le_div_iff_mul_le (by omega)).mp hi
        rw [Nat.add_mul, Nat.one_mul] at q1
        by_cases h0 : z.length = 0
        · have : i * wd < 1 := by omega
          omega
        · omega
      refine ⟨rfl, yes_lc ?_⟩
      refine ⟨.str z, rfl, _, rfl, _, rfl, _, rfl, .int wd, rfl, _, _, rfl, rfl, _, rfl, z, rfl, Nat.le_trans h3 (by decide), _, hp, ?_, ex_set e hD, ?_⟩
      · rw [List.length_map, List.length_map, List.length_take]
        refine Nat.lt_of_le_of_lt (Nat.min_le_right _ _) (Nat.lt_of_le_of_lt (pieces_len h1 _) ?_)
        rw [hz]
        exact Nat.lt_of_le_of_lt (Nat.add_le_add_right h3 1) (by decide)
      · rw [upd_same]
        have ep : (pieces wd z.cps.toList)[i]? = some ((z.cps.toList.drop (i * wd)).take wd) := by
          rw [pieces_eq h1, List.getElem?_map, List.getElem?_range (by rw [hz]; exact hi)]
          rfl
        rw [List.take_add_one, ep, List.map_append, List.map_append]
        have ec : cutS z (some (0 + (i : Int) * (wd : Int))) (some (0 + (i : Int) * (wd : Int) + (wd : Int))) = ⟨((z.cps.toList.drop (i * wd)).take wd).toArray⟩ := by
          have e2 : (0 + (i : Int) * (wd : Int)) = ((i * wd : Nat) : Int) := by rw [Int.zero_add, Int.natCast_mul]
          rw [e2]
          exact cutS_at hle
        rw [ec]
        rfl
    · rintro H1 ⟨e, hp⟩
      have el : (pieces wd z.cps.toList).take ((max z.length 1 + wd - 1) / wd) = pieces wd z.cps.toList := List.take_of_length_le (by
        rw [pieces_eq h1, List.length_map, List.length_range, hz]
        exact Nat.le_refl _)
      rw [el] at hp
      exact q D H1 e hD hp
structure CPic (P : Program) (w : World) (K : PySem.W.Frag) (mg : Str → Option Value) (base : Heap) : Prop where
  check_size : Cal P w K mg base "check_size" 3 ["wide", "high"] spChk
  cut : Cal P w K mg base "cut" 1 ["row", "wide"] spCut
theorem flat_len {w : Nat} (hw : 1 ≤ w) : ∀ rows : List Str, (∀ z ∈ rows, z.length ≤ 1002) → (rows.flatMap (pcs w)).length ≤ rows.length * 1003
  | [], _ => Nat.zero_le _
  | z :: r, h => by
    rw [List.flatMap_cons, List.length_append, List.length_cons]
    have h1 := pcs_len hw z
    have h2 := h z (List.mem_cons_self)
    have h3 := flat_len hw r (fun y hy => h y (List.mem_cons_of_mem _ hy))
    omega
theorem ok_view {f : Addr} {fd : FuncData} (F : Fun K "view" "view" sVie f fd) (T : TPic mg) (C : CPic P w K mg base) : FnOk P w K mg base CX0 4 f fd ["rows", "line", "wide", "high"] (spVie K) := by
  refine F.ok scVie (fun vs H Q E h => ?_) (fun cdv A outer s H vs Q E hr h => ?_)
  · obtain ⟨a, rows, line, w, h, rfl, _⟩ := h
    rfl
  · obtain ⟨a, rows, line, wd, hg, rfl, hS, hl, hz, hll, h1, h2, h3, h4, q⟩ := h
    refine ⟨_, (pss_cons (ps_expr (pcall C.check_size (hr.mono (by first | decide | omega)) (pa_cons (pv 2) (pa_cons (pv 3) pa_nil))))
      (pss_cons (ps_set (i := 4) scVie.nd rfl (Or.inl rfl) (pe_lst pa_nil))
      (pss_cons (ps_for PassesOwn.never rfl (pi_list (pv 0)) (pg_name (i := 5) scVie.nd rfl (Or.inl rfl)) (pss_one (ps_expr (pe_bm PySem.F.plainAttrs_list PySem.F.slot_list_extend PySem.F.type_list_extend mt_extend (pv 4) (pa_cons (pcall C.cut (hr.mono (by first | decide | omega)) (pa_cons (pv 5) (pa_cons (pv 2) pa_nil))) pa_nil)))))
      (pss_cons (ps_expr (pe_bm PySem.F.plainAttrs_list PySem.F.slot_list_extend PySem.F.type_list_extend mt_extend (pv 4) (pa_cons (pcall C.cut (hr.mono (by first | decide | omega)) (pa_cons (pe_op op_add_str pe_str (pv 1)) (pa_cons (pv 2) pa_nil))) pa_nil)))
      (pss_one (ps_ret (pe_slice sl_list (pv 4) (po_some (pe_un un_neg (pv 3))) po_none))))))), ?_⟩
    refine ⟨_, rfl, _, rfl, wd, hg, rfl, h1, h2, h3, h4, ?_⟩
    refine ⟨Nat.zero_le _, fun l hnl => ?_⟩
    refine ⟨.ref a, rfl, a, rfl, ⟨_, ex_l (Ex.new hnl) hS⟩, for_list (K := K) (a := a) (xs := rows.map V.str) (fun i σ H' => ∃ c, σ = [some (.ref a), some (.str line), some (.int wd), some (.int hg), some (.ref l), c] ∧ Ex H H' ∧ H' l = some (.lst (((rows.take i).flatMap (pcs wd)).map V.str)))
      ⟨none, rfl, Ex.new hnl, upd_same⟩ (fun i σ H' _ ⟨_, _, e, _⟩ => ex_l e hS) ?_ ?_⟩
    · rintro i y σ H1 hi ⟨c, rfl, e, hp⟩
      have hi2 : i < rows.length := by
        have q := (List.getElem?_eq_some_iff.mp hi).1
        rw [List.length_map] at q
        exact q
      have ey : y = .str rows[i] := by
        rw [List.getElem?_map, List.getElem?_eq_getElem hi2] at hi
        exact (Option.some.inj hi).symm
      subst ey
      have hzi := hz _ (List.getElem_mem hi2)
      refine ⟨.ref l, rfl, .inl ⟨rfl, _, SqL.of hp⟩, _, rfl, _, rfl, rows[i], wd, rfl, by omega, by omega, by omega, fun c H2 e2 nc hc => ?_⟩
      have hp2 := e2 _ _ hp
      refine ⟨l, c, _, _, rfl, rfl, hp2, hc, ?_, ?_⟩
      · have g1 := flat_len (w := wd) (by omega) (rows.take i) (fun z hm => Nat.le_trans (hz z (List.mem_of_mem_take hm)) (by omega))
        have g2 := pcs_len (w := wd) (by omega) rows[i]
        rw [List.length_take] at g1
        rw [List.length_map, List.length_map]
        refine Nat.le_trans (m := 2000000) ?_ (by decide)
        omega
      · refine ⟨_, rfl, ex_set (e.trans e2) hnl, ?_⟩
        rw [upd_same, List.take_add_one, List.getElem?_eq_getElem hi2, List.flatMap_append, List.map_append]
        simp
    · rintro σ H1 ⟨c, rfl, e, hp⟩
      rw [List.length_map, List.take_length] at hp
      refine ⟨.ref l, rfl, .inl ⟨rfl, _, SqL.of hp⟩, _, rfl, _, _, rfl, rfl, ?_, _, rfl, "> " ++ line, wd, rfl, by omega, by omega, ?_, fun c H2 e2 nc hc => ?_⟩
      · show 2 + line.length ≤ _
        exact Nat.le_trans (Nat.add_le_add_left hll 2) (by decide)
      · rw [Str.length_append]
        show 2 + line.length ≤ _
        omega
      · have hp2 := e2 _ _ hp
        refine ⟨l, c, _, _, rfl, rfl, hp2, hc, ?_, ?_⟩
        · have g1 := flat_len (w := wd) (by omega) rows (fun z hm => Nat.le_trans (hz z hm) (by omega))
          have g2 := pcs_len (w := wd) (by omega) ("> " ++ line)
          have g3 : ("> " ++ line).length = 2 + line.length := Str.length_append _ _
          rw [List.length_map, List.length_map]
          refine Nat.le_trans (m := 2000000) ?_ (by decide)
          omega
        · refine ⟨.ref l, rfl, _, rfl, _, rfl, _, rfl, l, _, rfl, SqL.of upd_same, fun p np => ?_⟩
          have e3 : Ex H (upd H2 l (.lst (((rows.flatMap (pcs wd)).map V.str) ++ (pcs wd ("> " ++ line)).map V.str))) := ex_set (e.trans e2) hnl
          refine q p _ (e3.trans (Ex.new np)) (fresh_back e3 np) ?_
          rw [upd_same, cutV_lastN _ _ h3]
          unfold picture
          rw [List.flatMap_append, ← List.map_append, List.map_drop, List.length_map]
          simp
end
end Vf
namespace Vf
open PySem PySem.Spec PyProof.Rows L2 Evl
/-! ### the law's own pictures -/
abbrev sVwl : Stmt := topS 18
theorem scVwl : FnScope ["_law_rows", "_law_line", "_law_wide", "_law_high", "_law_found", "_law_row", "_law_first"] ["_law_rows", "_law_line", "_law_wide", "_law_high"] (defScope sVwl) := ⟨rfl, rfl, rfl, by decide +kernel, rfl, by decide +kernel, by decide +kernel⟩
structure TVwl (mg : Str → Option Value) : Prop where
  z_len : mg "len" = none
  z_max : mg "max" = none
def spVwl : Sp := fun vs H Q _ => ∃ (a : Addr) (rows : List Str) (line : Str) (w h : Nat), vs = [.ref a, .str line, .int w, .int h] ∧ H a = some (.lst (rows.map V.str)) ∧ rows.length ≤ 1000 ∧ (∀ z ∈ rows, z.length ≤ 1000) ∧ line.length ≤ 1000 ∧
  2 ≤ w ∧ w ≤ 40 ∧ 1 ≤ h ∧ h ≤ 20 ∧ ∀ p H', Ex H H' → H p = none → H' p = some (.lst ((picture rows line w h).map V.str)) → Q (.ref p) H'
theorem more_len {w : Nat} : ∀ (n : Nat) (l : List Nat), (more w n l).length ≤ n
  | 0, _ => Nat.le_refl _
  | n + 1, l => by
    unfold more
    split
    · rw [List.length_cons]
      exact Nat.succ_le_succ (more_len n _)
    · exact Nat.zero_le _
theorem more_succ (w n : Nat) (l : List Nat) : more w (n + 1) l = if w < l.length then (l.drop w).take w :: more w n (l.drop w) else [] := rfl
theorem more_fuel {w : Nat} (hw : 1 ≤ w) {n : Nat} {l : List Nat} (h : l.length ≤ n) : more w n l = more w l.length l := by rw [more_eq hw n l h, more_eq hw _ l (Nat.le_refl _)]
theorem more_step {w : Nat} (hw : 1 ≤ w) {l : List Nat} (h : w < l.length) : more w l.length l = (l.drop w).take w :: more w (l.drop w).length (l.drop w) := by
  cases l with
  | nil => simp at h
  | cons x r =>
    show more w (r.length + 1) (x :: r) = _
    rw [more_succ, if_pos h]
    congr 1
    exact more_fuel hw (n := r.length) (l := (x :: r).drop w) (by rw [List.length_drop, List.length_cons]; omega)
theorem more_stop {w : Nat} {l : List Nat} (h : ¬ w < l.length) : more w l.length l = [] := by
  cases l with
  | nil => rfl
  | cons x r =>
    show more w (r.length + 1) (x :: r) = _
    unfold more
    rw [if_neg h]
section
variable {P : Program} {w : World} {K : PySem.W.Frag} {mg : Str → Option Value} {base : Heap}
theorem ok_lview {f : Addr} {fd : FuncData} (F : Fun K "_law_view" "_law_view" sVwl f fd) (T : TVwl mg) : FnOk P w K mg base CX0 1 f fd ["_law_rows", "_law_line", "_law_wide", "_law_high"] spVwl := by
  refine F.ok scVwl (fun vs H Q E h => ?_) (fun cdv A outer s H vs Q E hr h => ?_)
  · obtain ⟨a, rows, line, w, h, rfl, _⟩ := h
    rfl
  · obtain ⟨a, rows, line, wd, hg, rfl, hS, hl, hz, hll, h1, h2, h3, h4, q⟩ := h
    refine ⟨_, (pss_cons (ps_set (i := 4) scVwl.nd rfl (Or.inl rfl) (pe_lst pa_nil))
      (pss_cons (ps_for PassesOwn.never rfl (pi_list (pe_op op_cat (pv 0) (pe_lst (pa_cons (pe_op op_add_str pe_str (pv 1)) pa_nil)))) (pg_name (i := 5) scVwl.nd rfl (Or.inl rfl)) (pss_cons (ps_set (i := 6) scVwl.nd rfl (Or.inl rfl) (pe_slice sl_str (pv 5) po_none (po_some (pv 2))))
      (pss_cons (ps_expr (pe_bm PySem.F.plainAttrs_list PySem.F.slot_list_append PySem.F.type_list_append mt_append (pv 4) (pa_cons (pv 6) pa_nil)))
      (pss_one (ps_while PassesOwn.never (pt_cmpR op_gt (pe_callB call_len_str (by rfl) T.z_len PySem.boot_len (pa_cons (pv 5) pa_nil)) (pv 2) (nomark _)) (pss_cons (ps_set (i := 5) scVwl.nd rfl (Or.inl rfl) (pe_slice sl_str (pv 5) (po_some (pv 2)) po_none))
      (pss_one (ps_expr (pe_bm PySem.F.plainAttrs_list PySem.F.slot_list_append PySem.F.type_list_append mt_append (pv 4) (pa_cons (pe_slice sl_str (pv 5) po_none (po_some (pv 2))) pa_nil))))))))))
      (pss_one (ps_ret (pe_slice sl_list (pv 4) (po_some (pe_callB (call_max2 rfl) (by rfl) T.z_max boot_max (pa_cons pe_int (pa_cons (pe_op op_sub (pe_callB call_len_seq (by rfl) T.z_len PySem.boot_len (pa_cons (pv 4) pa_nil)) (pv 3)) pa_nil)))) po_none))))), ?_⟩
    refine ⟨Nat.zero_le _, fun l hnl => ?_⟩
    have e0 : Ex H (upd H l (.lst [])) := Ex.new hnl
    have hl0 : upd H l (.lst []) l = some (.lst []) := upd_same
    generalize upd H l (.lst []) = H0 at e0 hl0 ⊢
    refine ⟨.ref a, rfl, _, rfl, _, _, rfl, rfl, (by show 2 + line.length ≤ _; exact Nat.le_trans (Nat.add_le_add_left hll 2) (by decide)), (by show 1 ≤ sizeLine; decide), fun t nt => ?_⟩
    have e1 : Ex H0 (upd H0 t (.lst [.str ("> " ++ line)])) := Ex.new nt
    refine ⟨a, t, _, _, rfl, rfl, e1 _ _ (e0 _ _ hS), upd_same, ?_, fun c nc => ?_⟩
    · rw [List.length_map]
      exact Nat.le_trans (Nat.add_le_add_right hl 1) (by decide)
    have e2 := (e0.trans e1).trans (Ex.new (o := .lst (rows.map V.str ++ [.str ("> " ++ line)])) nc)
    have hc2 : upd (upd H0 t (.lst [.str ("> " ++ line)])) c (.lst (rows.map V.str ++ [.str ("> " ++ line)])) c = some (.lst ((rows ++ ["> " ++ line]).map V.str)) := by rw [upd_same, List.map_append]; rfl
    have hl2 := (e1.trans (Ex.new (o := .lst (rows.map V.str ++ [.str ("> " ++ line)])) nc)) _ _ hl0
    have hcl : c ≠ l := Ne.symm (ne_of_none (e1 _ _ hl0) nc)
    generalize upd (upd H0 t (.lst [.str ("> " ++ line)])) c (.lst (rows.map V.str ++ [.str ("> " ++ line)])) = H2 at e2 hc2 hl2 ⊢
    have hzz : ∀ z ∈ rows ++ ["> " ++ line], z.length ≤ 1002 := fun z hm => by
      rcases List.mem_append.mp hm with hm | hm
      · exact Nat.le_trans (hz z hm) (by omega)
      · have : z = "> " ++ line := by simpa using hm
        rw [this, Str.length_append]
        show 2 + line.length ≤ _
        omega
    have hln : (rows ++ ["> " ++ line]).length ≤ 1001 := by rw [List.length_append]; exact Nat.add_le_add_right hl 1
    have hpic : picture rows line wd hg = ((rows ++ ["> " ++ line]).flatMap (pcs wd)).drop (((rows ++ ["> " ++ line]).flatMap (pcs wd)).length - hg) := rfl
    rw [hpic] at q
    generalize rows ++ ["> " ++ line] = all at hc2 hzz hln q
    refine ⟨c, rfl, ⟨_, SqL.of hc2⟩, for_list (K := K) (a := c) (xs := all.map V.str) (fun i σ H' => ∃ c5 c6, σ = [some (.ref a), some (.str line), some (.int wd), some (.int hg), some (.ref l), c5, c6] ∧ Ex H H' ∧ H' c = some (.lst (all.map V.str)) ∧ H' l = some (.lst (((all.take i).flatMap (pcs wd)).map V.str)))
      ⟨none, none, rfl, e2, hc2, hl2⟩ (fun i σ H' _ ⟨_, _, _, _, hc, _⟩ => SqL.of hc) ?_ ?_⟩
    · rintro i y σ H3 hi ⟨c5, c6, rfl, e, hc, hp⟩
      have hi2 : i < all.length := by
        have q := (List.getElem?_eq_some_iff.mp hi).1
        rw [List.length_map] at q
        exact q
      have ey : y = .str all[i] := by
        rw [List.getElem?_map, List.getElem?_eq_getElem hi2] at hi
        exact (Option.some.inj hi).symm
      subst ey
      have hzi := hzz _ (List.getElem_mem hi2)
      have hfl : ((all.take i).flatMap (pcs wd)).length ≤ 1100000 := by
        have g1 := flat_len (w := wd) (by omega) (all.take i) (fun z hm => hzz z (List.mem_of_mem_take hm))
        rw [List.length_take] at g1
        omega
      refine ⟨_, rfl, _, rfl, _, rfl, all[i], rfl, Nat.le_trans hzi (by decide), ?_⟩
      rw [cutS_first]
      refine ⟨.ref l, rfl, .inl ⟨rfl, _, SqL.of hp⟩, _, rfl, l, _, _, rfl, rfl, hp, ?_, ?_⟩
      · rw [List.length_map]
        exact Nat.lt_of_le_of_lt hfl (by decide)
      -- while
      refine ⟨fun m σ H' => ∃ (r : List Nat) (done : List (List Nat)) (c6 : V), m = r.length ∧ r.length ≤ 1002 ∧ done.length ≤ 1 + (all[i].length - r.length) ∧ r.length ≤ all[i].length ∧ σ = [some (.ref a), some (.str line), some (.int wd), some (.int hg), some (.ref l), some (.str (txt r)), some c6] ∧ Ex H H' ∧ H' c = some (.lst (all.map V.str)) ∧
        H' l = some (.lst (((all.take i).flatMap (pcs wd) ++ done.map txt).map V.str)) ∧ done ++ more wd r.length r = pieces wd all[i].cps.toList, ⟨_, all[i].cps.toList, [all[i].cps.toList.take wd], .str (txt (all[i].cps.toList.take wd)), rfl, by rw [str_len]; exact hzi, by show 1 ≤ _; omega, by rw [str_len]; exact Nat.le_refl _, ?_, ex_set e hnl, ?_, ?_, rfl⟩, ?_⟩
      · rw [txt_of]
        rfl
      · rw [upd_ne hcl]
        exact hc
      · rw [upd_same, List.map_append]
        rfl
      · rintro m σ H4 ⟨r, done, c6, rfl, hr1, hdn, hrl, rfl, e4, hc4, hl4, hmore⟩
        refine ⟨_, rfl, txt r, rfl, by rw [txt_len]; exact Nat.le_trans hr1 (by decide), _, rfl, _, _, rfl, rfl, _, rfl, ?_⟩
        rw [txt_len]
        refine ite2 (fun hlt => ?_) (fun hlt => ?_)
        · have hlt2 : wd < r.length := by have := of_decide_eq_true hlt; omega
          refine ⟨fun σ' H' => ∃ m', m' < r.length ∧ ∃ (r : List Nat) (done : List (List Nat)) (c6 : V), m' = r.length ∧ r.length ≤ 1002 ∧ done.length ≤ 1 + (all[i].length - r.length) ∧ r.length ≤ all[i].length ∧ σ' = [some (.ref a), some (.str line), some (.int wd), some (.int hg), some (.ref l), some (.str (txt r)), some c6] ∧ Ex H H' ∧ H' c = some (.lst (all.map V.str)) ∧
            H' l = some (.lst (((all.take i).flatMap (pcs wd) ++ done.map txt).map V.str)) ∧ done ++ more wd r.length r = pieces wd all[i].cps.toList, fun σ' H' h => h, ?_⟩
          refine ⟨_, rfl, _, rfl, _, rfl, txt r, rfl, by rw [txt_len]; exact Nat.le_trans hr1 (by decide), ?_⟩
          rw [cutS_rest, txt_cps]
          refine ⟨.ref l, rfl, .inl ⟨rfl, _, SqL.of hl4⟩, _, rfl, _, rfl, _, rfl, txt (r.drop wd), rfl, by rw [txt_len, List.length_drop]; exact Nat.le_trans (Nat.le_trans (Nat.sub_le _ _) hr1) (by decide), l, _, _, rfl, rfl, hl4, ?_, ?_⟩
          · rw [List.length_map, List.length_append, List.length_map]
            refine Nat.lt_of_le_of_lt (m := 1200000) ?_ (by decide)
            omega
          · rw [cutS_first, txt_cps]
            refine ⟨r.length - wd, by omega, r.drop wd, done ++ [(r.drop wd).take wd], c6, by rw [List.length_drop], by rw [List.length_drop]; omega, ?_, by rw [List.length_drop]; omega, rfl, ex_set e4 hnl, ?_, ?_, ?_⟩
            · rw [List.length_append, List.length_singleton, List.length_drop]
              omega
            · rw [upd_ne hcl]
              exact hc4
            · rw [upd_same]
              simp only [List.map_append, List.append_assoc, List.map_cons, List.map_nil]
              rfl
            · rw [List.append_assoc, ← hmore, more_step (by omega) hlt2]
              rfl
        · have hlt2 : ¬ wd < r.length := fun z => hlt (decide_eq_true (by omega))
          rw [more_stop hlt2, List.append_nil] at hmore
          refine ⟨_, _, rfl, e4, hc4, ?_⟩
          rw [hl4, hmore, List.take_add_one, List.getElem?_eq_getElem hi2, List.flatMap_append]
          simp [pcs, txt]
    · rintro σ H3 ⟨c5, c6, rfl, e, hc, hp⟩
      rw [List.length_map, List.take_length] at hp
      refine ⟨.ref l, rfl, .ref l, rfl, l, _, rfl, .inl (SqL.of hp), _, rfl, _, _, rfl, rfl, _, _, rfl, _, rfl, l, _, rfl, SqL.of hp, fun p np => ?_⟩
      refine q p _ (e.trans (Ex.new np)) (fresh_back e np) ?_
      rw [upd_same, List.length_map]
      have em : (if ((all.flatMap (pcs wd)).length : Int) - (hg : Int) > 0 then ((all.flatMap (pcs wd)).length : Int) - (hg : Int) else 0) = (((all.flatMap (pcs wd)).length - hg : Nat) : Int) := by split <;> omega
      rw [em, cutV_from, List.map_drop]
end
end Vf
namespace Vf
open PySem PySem.Spec PyProof.Rows L2 Evl
/-! ### a drawn text -/
abbrev sTxt : Stmt := topS 19
theorem scTxt : FnScope ["_law_box", "_law_most", "_law_every", "_law_k"] ["_law_box", "_law_most"] (defScope sTxt) := ⟨rfl, rfl, rfl, by decide +kernel, rfl, by decide +kernel, by decide +kernel⟩
structure TTxt (mg : Str → Option Value) : Prop where
  z_range : mg "range" = none
def evr : Str := litOf ((defBody sTxt).getD 0 (.Pass ⟨0, 0, 0, 0⟩))
theorem evr_len : evr.cps.toList.length = 39 := by decide +kernel
theorem evr_ok : ∀ c ∈ evr.cps.toList, c < 128 := by decide +kernel
def spTxt : Sp := fun vs H Q _ => ∃ (b l : Addr) (m : Nat), vs = [.ref b, .int m] ∧ Box H b l ∧ m ≤ 1000 ∧ ∀ (z : Str) (H' : Hp), Ex H H' → z.length ≤ m → (∀ c ∈ z.cps.toList, c < 128) → Q (.str z) H'
section
variable {P : Program} {w : World} {K : PySem.W.Frag} {mg : Str → Option Value} {base : Heap}
theorem ok_text {f : Addr} {fd : FuncData} (F : Fun K "_law_text" "_law_text" sTxt f fd) (T : TTxt mg) (C : CTak P w K mg base) : FnOk P w K mg base CX0 2 f fd ["_law_box", "_law_most"] spTxt := by
  refine F.ok scTxt (fun vs H Q E h => ?_) (fun cdv A outer s H vs Q E hr h => ?_)
  · obtain ⟨b, l, m, rfl, _⟩ := h
    rfl
  · obtain ⟨b, l, m, rfl, B, hm, q⟩ := h
    refine ⟨_, (pss_cons (ps_set (i := 2) scTxt.nd rfl (Or.inr rfl) pe_str)
      (pss_one (ps_ret (pe_join pe_str (pe_lc (own := [("_law_k", 3)]) (g := gName 3) (tt := tYes) rfl scTxt.nd (pi_range1 rfl T.z_range (pa_cons (pcall C.law_take (hr.mono (by first | decide | omega)) (pa_cons (pv 0) (pa_cons (pe_op op_add (pv 1) pe_int) pa_nil))) pa_nil)) (blkOk_by (own := [("_law_k", 3)]) (N := ["_law_box", "_law_most", "_law_every", "_law_k"]) (sc := defScope sTxt) (by decide +kernel)) (fun _ _ _ _ _ => pg_name (i := 3) scTxt.nd rfl (Or.inl rfl)) (fun _ _ _ _ _ => pts_nil) (fun _ _ _ _ _ => (pe_ix ix_str (pv 2) (pcall C.law_take (hr.mono (by first | decide | omega)) (pa_cons (pv 0) (pa_cons pe_int pa_nil))) (fun _ _ => rfl)))))))), ?_⟩
    refine ⟨⟨_, rfl⟩, _, rfl, _, rfl, _, _, rfl, rfl, b, l, _, rfl, B, by omega, by omega, fun n H1 e1 n0 n1 => ?_⟩
    refine ⟨n, rfl, by omega, by omega, fun D hD => ?_⟩
    refine lc_it walk_range (fun i H' => Ex H H' ∧ ∃ cs : List Nat, cs.length = i ∧ (∀ c ∈ cs, c < 128) ∧ H' D = some (.lst ((cs.map sg).map V.str))) ⟨e1.trans (Ex.new hD), [], rfl, (fun _ h => nomatch h), upd_same⟩ (fun _ _ _ _ => trivial) ?_ ?_
    · rintro i x H2 H3 hi ⟨e, cs, hl, hc, hp⟩ ⟨rfl, rfl⟩
      refine ⟨rfl, yes_lc ?_⟩
      refine ⟨.str evr, rfl, _, rfl, b, l, 39, rfl, B.ex e, by decide, by decide, fun k H4 e4 k0 k1 => ?_⟩
      have hk : k.toNat < evr.cps.toList.length := by rw [evr_len]; omega
      refine ⟨evr, k, evr.cps.toList[k.toNat], rfl, rfl, by decide +kernel, at_ix (z := k) (j := k.toNat) (by omega) (List.getElem?_eq_getElem hk), _, e4 _ _ hp, ?_, ex_set (e.trans e4) (fresh_back e1 hD), cs ++ [evr.cps.toList[k.toNat]], ?_, fun c hm => ?_, ?_⟩
      · rw [List.length_map, List.length_map, hl]
        exact Nat.lt_of_lt_of_le hi (Nat.le_trans (m := 2000) (by omega) (by decide))
      · rw [List.length_append, hl]
        rfl
      · rcases List.mem_append.mp hm with hm | hm
        · exact hc c hm
        · rw [List.mem_singleton.mp hm]
          exact evr_ok _ (List.getElem_mem hk)
      · rw [upd_same, List.map_append, List.map_append]
        rfl
    · rintro H2 ⟨e, cs, hl, hc, hp⟩
      refine ⟨_, D, cs.map sg, rfl, rfl, .inl (SqL.of hp), ?_, ?_⟩
      · rw [sg_sum, List.length_map]
        show cs.length + cs.length * 0 ≤ _
        omega
      · have ej : Txt.join (Str.ofString "") (cs.map sg) = txt cs := join0 cs
        rw [ej]
        refine q _ _ e ?_ (fun c h => ?_)
        · rw [txt_len, hl]
          omega
        · rw [txt_cps] at h
          exact hc c h
end
end Vf
namespace Vf
open PySem PySem.Spec PyProof.Rows L2 Evl
/-! ### the law -/
abbrev sL02 : Stmt := topS 20
theorem scL02 : FnScope ["_law_script", "_law_box", "_law_turn", "_law_wide", "_law_high", "_law_rows", "_law_k", "_law_line", "_law_handed", "_law_again", "_law_found"] ["_law_script"] (defScope sL02) := ⟨rfl, rfl, rfl, by decide +kernel, rfl, by decide +kernel, by decide +kernel⟩
structure TLaw (mg : Str → Option Value) : Prop where
  z_range : mg "range" = none
  z_list : mg "list" = none
structure CLaw (P : Program) (w : World) (K : PySem.W.Frag) (mg : Str → Option Value) (base : Heap) : Prop where
  law_begun : Cal P w K mg base "_law_begun" 1 ["_law_script"] (spBeg K)
  law_take : Cal P w K mg base "_law_take" 1 ["_law_box", "_law_many"] spTak
  law_text : Cal P w K mg base "_law_text" 2 ["_law_box", "_law_most"] spTxt
  law_view : Cal P w K mg base "_law_view" 1 ["_law_rows", "_law_line", "_law_wide", "_law_high"] spVwl
  law_alike : Cal P w K mg base "_law_alike" 2 ["_law_found", "_law_due"] (spAli K 1)
  view : Cal P w K mg base "view" 4 ["rows", "line", "wide", "high"] (spVie K)
def spLaw (K : PySem.W.Frag) : Sp := fun vs H Q _ => ∃ (a : Addr) (ns : List Int), vs = [.ref a] ∧ SqL K H a (ns.map V.int) ∧ ns.length ≤ 63 ∧ ∀ H', Q (.bl true) H'
def Low (z : Str) : Prop := ∀ c ∈ z.cps.toList, c < 128
theorem good_strs {ss : List Str} (hl : ss.length ≤ 16777216) (h : ∀ z ∈ ss, Low z) : good 1 (.list (ss.map PyData.str)) = true := by
  show (decide ((ss.map PyData.str).length ≤ 16777216) && (ss.map PyData.str).all (good 0)) = true
  rw [List.length_map, decide_eq_true hl, Bool.true_and, List.all_eq_true]
  intro d hd
  obtain ⟨z, hz, rfl⟩ := List.mem_map.mp hd
  exact lay_str (h z hz)
theorem pcs_low {w : Nat} (hw : 1 ≤ w) {z y : Str} (h : Low z) (hy : y ∈ pcs w z) : Low y := by
  obtain ⟨l, hl, rfl⟩ := List.mem_map.mp hy
  intro c hc
  have hc2 : c ∈ l := by
    have e : (txt l).cps.toList = l := txt_cps l
    rw [← e]
    exact hc
  exact h c (piece_len hw hl c hc2)
theorem pic_low {rows : List Str} {line : Str} {w h : Nat} (hw : 1 ≤ w) (hr : ∀ z ∈ rows, Low z) (hl : Low line) : ∀ y ∈ picture rows line w h, Low y := by
  intro y hy
  obtain ⟨z, hz, hy⟩ := List.mem_flatMap.mp (List.mem_of_mem_drop hy)
  refine pcs_low hw ?_ hy
  rcases List.mem_append.mp hz with hz | hz
  · exact hr z hz
  · rw [List.mem_singleton.mp hz]
    intro c hc
    have e : (("> " : Str) ++ line).cps.toList = ("> " : Str).cps.toList ++ line.cps.toList := by
      show (("> " : Str).cps ++ line.cps).toList = _
      simp
    rw [e] at hc
    rcases List.mem_append.mp hc with hc | hc
    · exact (show ∀ c ∈ ("> " : Str).cps.toList, c < 128 by decide +kernel) c hc
    · exact hl c hc
theorem pic_len {rows : List Str} {line : Str} {w h : Nat} : (picture rows line w h).length ≤ h := by
  unfold picture
  rw [List.length_drop]
  omega
section
variable {P : Program} {w : World} {K : PySem.W.Frag} {mg : Str → Option Value} {base : Heap}
theorem ok_law {f : Addr} {fd : FuncData} (F : Fun K "law" "law" sL02 f fd) (T : TLaw mg) (C : CLaw P w K mg base) : FnOk P w K mg base CX0 5 f fd ["_law_script"] (spLaw K) := by
  refine F.ok scL02 (fun vs H Q E h => ?_) (fun cdv A outer s H vs Q E hr h => ?_)
  · obtain ⟨a, ns, rfl, _⟩ := h
    rfl
  · obtain ⟨a, ns, rfl, hS, hlen, q⟩ := h
    refine ⟨_, (pss_cons (ps_set (i := 1) scL02.nd rfl (Or.inl rfl) (pcall C.law_begun (hr.mono (by first | decide | omega)) (pa_cons (pv 0) pa_nil)))
      (pss_cons (ps_for PassesOwn.never rfl (pi_range1 rfl T.z_range (pa_cons pe_int pa_nil)) (pg_name (i := 2) scL02.nd rfl (Or.inl rfl)) (pss_cons (ps_par (i := 3) (j := 4) (by rfl) scL02.nd rfl rfl (by decide) rfl rfl (pa_cons (pe_op op_add pe_int (pcall C.law_take (hr.mono (by first | decide | omega)) (pa_cons (pv 1) (pa_cons pe_int pa_nil)))) (pa_cons (pe_op op_add pe_int (pcall C.law_take (hr.mono (by first | decide | omega)) (pa_cons (pv 1) (pa_cons pe_int pa_nil)))) pa_nil)) (by rfl))
      (pss_cons (ps_set (i := 5) scL02.nd rfl (Or.inl rfl) (pe_lst pa_nil))
      (pss_cons (ps_for PassesOwn.never rfl (pi_range1 rfl T.z_range (pa_cons (pcall C.law_take (hr.mono (by first | decide | omega)) (pa_cons (pv 1) (pa_cons (pe_ix ix_list (pe_lst (pa_cons pe_int (pa_cons pe_int pa_nil))) (pcall C.law_take (hr.mono (by first | decide | omega)) (pa_cons (pv 1) (pa_cons pe_int pa_nil))) (fun _ _ => rfl)) pa_nil))) pa_nil)) (pg_name (i := 6) scL02.nd rfl (Or.inl rfl)) (pss_one (ps_expr (pe_bm PySem.F.plainAttrs_list PySem.F.slot_list_append PySem.F.type_list_append mt_append (pv 5) (pa_cons (pcall C.law_text (hr.mono (by first | decide | omega)) (pa_cons (pv 1) (pa_cons (pe_ix ix_list (pe_lst (pa_cons pe_int (pa_cons (pv 3) (pa_cons pe_int pa_nil)))) (pcall C.law_take (hr.mono (by first | decide | omega)) (pa_cons (pv 1) (pa_cons pe_int pa_nil))) (fun _ _ => rfl)) pa_nil))) pa_nil)))))
      (pss_cut (ps_if (pt_cmpR op_eq (pcall C.law_take (hr.mono (by first | decide | omega)) (pa_cons (pv 1) (pa_cons pe_int pa_nil))) pe_int (nomark _)) (pss_one (ps_expr (pe_bm PySem.F.plainAttrs_list PySem.F.slot_list_append PySem.F.type_list_append mt_append (pv 5) (pa_cons (pe_op op_mulS pe_str (pe_op op_mul (pv 3) (pcall C.law_take (hr.mono (by first | decide | omega)) (pa_cons (pv 1) (pa_cons pe_int pa_nil))))) pa_nil)))) pss_nil)
      (pss_cons (ps_set (i := 7) scL02.nd rfl (Or.inl rfl) (pcall C.law_text (hr.mono (by first | decide | omega)) (pa_cons (pv 1) (pa_cons pe_int pa_nil))))
      (pss_cons (ps_set (i := 8) scL02.nd rfl (Or.inl rfl) (pe_callTy call_list_of (by rfl) T.z_list boot_list (pa_cons (pv 5) pa_nil)))
      (pss_one (ps_for PassesOwn.never rfl (pi_range1 rfl T.z_range (pa_cons pe_int pa_nil)) (pg_name (i := 9) scL02.nd rfl (Or.inl rfl)) (pss_cons (ps_set (i := 10) scL02.nd rfl (Or.inl rfl) (pcall C.view (hr.mono (by first | decide | omega)) (pa_cons (pv 8) (pa_cons (pv 7) (pa_cons (pv 3) (pa_cons (pv 4) pa_nil))))))
      (pss_cons (ps_if (PW.pt (pw_or (pt_not (pt_val (pcall C.law_alike (hr.mono (by first | decide | omega)) (pa_cons (pv 10) (pa_cons (pcall C.law_view (hr.mono (by first | decide | omega)) (pa_cons (pv 5) (pa_cons (pv 7) (pa_cons (pv 3) (pa_cons (pv 4) pa_nil))))) pa_nil))))) (pw_or1 (pt_cmpR (op_neD hr.units) (pv 8) (pv 5) (nomark _))))) (pss_one (ps_ret pe_bl)) pss_nil)
      (pss_one (ps_expr (pe_bm PySem.F.plainAttrs_list PySem.F.slot_list_append PySem.F.type_list_append mt_append (pv 10) (pa_cons pe_str pa_nil)))))))))))))))
      (pss_one (ps_ret pe_bl)))), ?_⟩
    refine ⟨_, rfl, a, ns, rfl, hS, hlen, fun b l H0 e0 B0 => ?_⟩
    refine ⟨4, rfl, by decide, by decide, ?_⟩
    refine for_it walk_range (fun i σ H' => ∃ c2 c3 c4 c5 c6 c7 c8 c9 c10, σ = [some (.ref a), some (.ref b), c2, c3, c4, c5, c6, c7, c8, c9, c10] ∧ Box H' b l) ⟨_, _, _, _, _, _, _, _, _, rfl, B0⟩ (fun _ _ _ _ _ => trivial) ?_ ?_
    · rintro i x σ H1 H1' hi ⟨c2, c3, c4, c5, c6, c7, c8, c9, c10, rfl, B1⟩ ⟨rfl, rfl⟩
      -- width and height
      refine ⟨_, rfl, b, l, _, rfl, B1, by decide, by decide, fun dw H2 e2 w0 w1 => ?_⟩
      have B2 := B1.ex e2
      refine ⟨_, _, rfl, rfl, _, rfl, b, l, _, rfl, B2, by decide, by decide, fun dh H3 e3 h0 h1 => ?_⟩
      have B3 := B2.ex e3
      obtain ⟨wd, hwd⟩ : ∃ wd : Nat, 2 + dw = (wd : Int) := ⟨(2 + dw).toNat, by omega⟩
      obtain ⟨hg, hhg⟩ : ∃ hg : Nat, 1 + dh = (hg : Int) := ⟨(1 + dh).toNat, by omega⟩
      refine ⟨_, _, rfl, rfl, .int wd, .int hg, (by show [V.int (2 + dw), V.int (1 + dh)] = _; rw [hwd, hhg]), ?_⟩
      have g1 : 2 ≤ wd := by omega
      have g2 : wd ≤ 40 := by omega
      have g3 : 1 ≤ hg := by omega
      have g4 : hg ≤ 20 := by omega
      clear hwd hhg w0 w1 h0 h1 e3 e2
      -- rows
      refine ⟨Nat.zero_le _, fun r nr => ?_⟩
      have Br : Box (upd H3 r (.lst [])) b l := B3.ex (Ex.new nr)
      refine ⟨_, rfl, (by show 2 ≤ sizeLine; decide), fun t nt => ?_⟩
      have Bt : Box (upd (upd H3 r (.lst [])) t (.lst [.int 4, .int 41])) b l := Br.ex (Ex.new nt)
      refine ⟨_, rfl, b, l, _, rfl, Bt, by decide, by decide, fun k H4 e4 k0 k1 => ?_⟩
      have B4 := Bt.ex e4
      obtain ⟨m, hm, hm2⟩ : ∃ m : Int, atI [V.int 4, V.int 41] k = some (.int m) ∧ 0 < m ∧ m ≤ 41 := by
        rcases (show k = 0 ∨ k = 1 by omega) with rfl | rfl
        · exact ⟨4, rfl, by decide, by decide⟩
        · exact ⟨41, rfl, by decide, by decide⟩
      refine ⟨t, _, _, _, rfl, rfl, SqL.of (e4 _ _ upd_same), hm, b, l, _, rfl, B4, by omega, by omega, fun n H5 e5 n0 n1 => ?_⟩
      have B5 := B4.ex e5
      have er : Ex (upd H3 r (.lst [])) H5 := ((Ex.new nt).trans e4).trans e5
      have hr5 : H5 r = some (.lst ([] : List V)) := er _ _ upd_same
      have x3 : Ex H3 H5 := (Ex.new nr).trans er
      clear er hm e5 e4 B4 Bt Br
      refine ⟨n, rfl, by omega, by omega, ?_⟩
      refine for_it walk_range (fun j σ H' => ∃ (c6 : Option V) (rows : List Str), σ = [some (.ref a), some (.ref b), some (.int (0 + (i : Nat))), some (.int wd), some (.int hg), some (.ref r), c6, c7, c8, c9, c10] ∧ Ex H3 H' ∧ H' r = some (.lst (rows.map V.str)) ∧ rows.length = j ∧ (∀ z ∈ rows, z.length ≤ 1000 ∧ Low z))
        ⟨_, [], rfl, x3, hr5, rfl, fun _ h => nomatch h⟩ (fun _ _ _ _ _ => trivial) ?_ ?_
      · rintro j x σ H6o H6 hj ⟨c6, rows, rfl, e6, hr6, hl, hz⟩ ⟨rfl, rfl⟩
        have B6 := B3.ex e6
        refine ⟨_, rfl, .inl ⟨rfl, _, SqL.of hr6⟩, _, rfl, _, rfl, (by show 3 ≤ sizeLine; decide), fun t nt => ?_⟩
        have Bt : Box (upd H6 t (.lst [.int 3, .int wd, .int 60])) b l := B6.ex (Ex.new nt)
        refine ⟨_, rfl, b, l, _, rfl, Bt, by decide, by decide, fun k H7 e7 k0 k1 => ?_⟩
        have B7 := Bt.ex e7
        obtain ⟨m, hm, hm2⟩ : ∃ m : Nat, atI [V.int 3, V.int wd, V.int 60] k = some (.int (m : Int)) ∧ m ≤ 60 := by
          rcases (show k = 0 ∨ k = 1 ∨ k = 2 by omega) with rfl | rfl | rfl
          · exact ⟨3, rfl, by decide⟩
          · exact ⟨wd, rfl, by omega⟩
          · exact ⟨60, rfl, by decide⟩
        refine ⟨t, _, _, _, rfl, rfl, SqL.of (e7 _ _ upd_same), hm, b, l, m, rfl, B7, by omega, fun z H8 e8 z1 z2 => ?_⟩
        have e68 : Ex H6 H8 := ((Ex.new nt).trans e7).trans e8
        refine ⟨r, _, _, rfl, rfl, e68 _ _ hr6, ?_, ?_⟩
        · rw [List.length_map, hl]
          exact Nat.lt_of_lt_of_le hj (Nat.le_trans (m := 100) (by omega) (by decide))
        · refine ⟨_, rows ++ [z], rfl, ex_set (e6.trans e68) nr, ?_, by rw [List.length_append, hl]; rfl, fun y hy => ?_⟩
          · rw [upd_same, List.map_append]
            rfl
          · rcases List.mem_append.mp hy with hy | hy
            · exact hz y hy
            · rw [List.mem_singleton.mp hy]
              exact ⟨by omega, z2⟩
      · rintro σ H6 ⟨c6, rows, rfl, e6, hr6, hl, hz⟩
        have B6 := B3.ex e6
        have hrl : rows.length ≤ 41 := by omega
        -- one more row, perhaps
        refine ⟨fun σ' H' => ∃ (c6 : Option V) (rows : List Str), σ' = [some (.ref a), some (.ref b), some (.int (0 + (i : Nat))), some (.int wd), some (.int hg), some (.ref r), c6, c7, c8, c9, c10] ∧ Ex H3 H' ∧ H' r = some (.lst (rows.map V.str)) ∧ rows.length ≤ 42 ∧ (∀ z ∈ rows, z.length ≤ 1000 ∧ Low z), ?_, ?_⟩
        · refine ⟨_, rfl, b, l, _, rfl, B6, by decide, by decide, fun k H7 e7 k0 k1 => ?_⟩
          have B7 := B6.ex e7
          refine ⟨rfl, _, rfl, ite2 (fun _ => ?_) (fun _ => ?_)⟩
          · refine ⟨_, rfl, .inl ⟨rfl, _, SqL.of (e7 _ _ hr6)⟩, _, rfl, _, rfl, b, l, _, rfl, B7, by decide, by decide, fun k H8 e8 k0 k1 => ?_⟩
            obtain ⟨kn, rfl⟩ : ∃ kn : Nat, k = (kn : Int) := ⟨k.toNat, by omega⟩
            have hmul : (wd : Int) * (kn : Int) = ((wd * kn : Nat) : Int) := (Int.natCast_mul _ _).symm
            have hle : wd * kn ≤ 40 * 3 := Nat.mul_le_mul g2 (by omega)
            refine ⟨_, _, rfl, rfl, .inr ⟨by omega, by omega⟩, sg 120, _, rfl, rfl, (by show 1 ≤ 1000; decide), by omega, by omega, r, _, _, rfl, rfl, e8 _ _ (e7 _ _ hr6), ?_, ?_⟩
            · rw [List.length_map]
              exact Nat.lt_of_le_of_lt hrl (by decide)
            · rw [hmul, mul_sg]
              refine ⟨_, rows ++ [txt (List.replicate (wd * kn) 120)], rfl, ex_set ((e6.trans e7).trans e8) nr, ?_, ?_, fun y hy => ?_⟩
              · rw [upd_same, List.map_append]
                rfl
              · rw [List.length_append]
                exact Nat.add_le_add_right hrl 1
              · rcases List.mem_append.mp hy with hy | hy
                · exact hz y hy
                · rw [List.mem_singleton.mp hy]
                  refine ⟨?_, fun c hc => ?_⟩
                  · rw [txt_len, List.length_replicate]
                    omega
                  · rw [txt_cps] at hc
                    rw [(List.mem_replicate.mp hc).2]
                    decide
          · exact ⟨_, rows, rfl, e6.trans e7, e7 _ _ hr6, by omega, hz⟩
        · clear hz hr6 hl hrl e6 B6 rows c6
          rintro σ H7 ⟨c6, rows, rfl, e7, hr7, hl, hz⟩
          have B7 := B3.ex e7
          -- the line, what is handed in
          refine ⟨_, rfl, b, l, 30, rfl, B7, by decide, fun line H8 e8 z1 z2 => ?_⟩
          have hr8 := e8 _ _ hr7
          refine ⟨_, rfl, r, _, rfl, .inl (SqL.of hr8), fun hd nh => ?_⟩
          have e9 : Ex H8 (upd H8 hd (.lst (rows.map V.str))) := Ex.new nh
          have hr9 := e9 _ _ hr8
          have B9 := (B7.ex e8).ex e9
          have hh9 : upd H8 hd (.lst (rows.map V.str)) hd = some (.lst (rows.map V.str)) := upd_same
          generalize upd H8 hd (.lst (rows.map V.str)) = H9 at hr9 B9 hh9
          clear e9 e8 e7 B7 hr8 hr7 nh
          refine ⟨2, rfl, by decide, by decide, ?_⟩
          refine for_it walk_range (fun j σ H' => ∃ c9 c10, σ = [some (.ref a), some (.ref b), some (.int (0 + (i : Nat))), some (.int wd), some (.int hg), some (.ref r), c6, some (.str line), some (.ref hd), c9, c10] ∧ Ex H9 H') ⟨_, _, rfl, Ex.refl _⟩ (fun _ _ _ _ _ => trivial) ?_ ?_
          · rintro j x σ Hao Ha hj ⟨c9, c10, rfl, ea⟩ ⟨rfl, rfl⟩
            refine ⟨_, rfl, _, rfl, _, rfl, _, rfl, hd, rows, line, wd, hg, rfl, SqL.of (ea _ _ hh9), by omega, fun z h => (hz z h).1, by omega, g1, g2, g3, g4, fun p Hb eb np hp => ?_⟩
            refine ⟨_, rfl, _, rfl, _, rfl, _, rfl, _, rfl, r, rows, line, wd, hg, rfl, eb _ _ (ea _ _ hr9), by omega, fun z h => (hz z h).1, by omega, g1, g2, g3, g4, fun p2 Hc ec np2 hp2 => ?_⟩
            have hg1 : good 1 (.list ((picture rows line wd hg).map PyData.str)) = true := good_strs (Nat.le_trans pic_len (by omega)) (pic_low (by omega) (fun z h => (hz z h).2) z2)
            refine ⟨_, _, .list ((picture rows line wd hg).map PyData.str), rfl, .lst (SqL.of (ec _ _ hp)) (dp_strs _), .lst (SqL.of hp2) (dp_strs _), hg1, by decide, _, rfl, iteF ?_⟩
            have hg2 : good 1 (.list (rows.map PyData.str)) = true := good_strs (by omega) (fun z h => (hz z h).2)
            have hsh := sh_of' hg2 (by decide)
            refine ⟨_, rfl, _, rfl, .list (rows.map PyData.str), .list (rows.map PyData.str), .lst (SqL.of (ec _ _ (eb _ _ (ea _ _ hh9)))) (dp_strs _), .lst (SqL.of (ec _ _ (eb _ _ (ea _ _ hr9)))) (dp_strs _), hsh, hsh, _, rfl, ?_⟩
            rw [SeqAt.eqv_refl _ (good_lay _ _ hg2).1]
            refine iteF ⟨_, rfl, .inl ⟨rfl, _, SqL.of (ec _ _ hp)⟩, p, _, _, rfl, rfl, ec _ _ hp, ?_, _, _, rfl, ?_⟩
            · rw [List.length_map]
              exact Nat.lt_of_le_of_lt pic_len (Nat.lt_of_le_of_lt g4 (by decide))
            · exact ex_set ((ea.trans eb).trans ec) (fresh_back ea np)
          · rintro σ Ha ⟨c9, c10, rfl, ea⟩
            exact ⟨_, _, _, _, _, _, _, _, _, rfl, B9.ex ea⟩
    · rintro σ H' ⟨c2, c3, c4, c5, c6, c7, c8, c9, c10, rfl, B1⟩
      exact q _
end
end Vf
namespace Vf
open PySem PySem.Spec PyProof.Rows L2 Evl
/-! ### what the top has written -/
theorem all_mk {l : PySem.W.OpenLaw} {w : World} {K : PySem.W.Frag} {h : Heap} {mg : Str → Option Value} {fa f1 f2 f3 f4 f5 f6 f7 f8 f9 f10 f11 : Addr} (X : K.In h) (G : h.Ns mainGlobals mg) (hfa : mg "law" = some (.ref fa))
    {od1 an1 od2 an2 od3 an3 od4 an4 od5 an5 od6 an6 od7 an7 od8 an8 od9 an9 od10 an10 od11 an11 : Option Addr} {sl1 sl2 sl3 sl4 sl5 sl6 sl7 sl8 sl9 sl10 sl11 : Array (Option Value)} {oc1 kV1 dc1 pm1 cd1 ct1 oc2 kV2 dc2 pm2 cd2 ct2 oc3 kV3 dc3 pm3 cd3 ct3 oc4 kV4 dc4 pm4 cd4 ct4 oc5 kV5 dc5 pm5 cd5 ct5 oc6 kV6 dc6 pm6 cd6 ct6 oc7 kV7 dc7 pm7 cd7 ct7 oc8 kV8 dc8 pm8 cd8 ct8 oc9 kV9 dc9 pm9 cd9 ct9 oc10 kV10 dc10 pm10 cd10 ct10 oc11 kV11 dc11 pm11 cd11 ct11 : Value} {t_NARROWEST t_WIDEST t_LOWEST t_HIGHEST : Tok}
    (a1 : PySem.W.nsIn K mainGlobals "is_number" = some (some (.ref f1))) (l1 : K.lookup f1 = some ⟨oc1, od1, .func (PySem.W.fnOf "is_number" "is_number" (defArgs sIsN) (defBody sIsN) (defScope sIsN) .none kV1 dc1 pm1 an1 cd1 ct1), sl1⟩) (c1 : PySem.W.codeIn K cd1 "is_number" = true) (k1 : PySem.W.keepIn K (.ref f1) = true)
    (a2 : PySem.W.nsIn K mainGlobals "is_within" = some (some (.ref f2))) (l2 : K.lookup f2 = some ⟨oc2, od2, .func (PySem.W.fnOf "is_within" "is_within" (defArgs sWit) (defBody sWit) (defScope sWit) .none kV2 dc2 pm2 an2 cd2 ct2), sl2⟩) (c2 : PySem.W.codeIn K cd2 "is_within" = true) (k2 : PySem.W.keepIn K (.ref f2) = true)
    (a3 : PySem.W.nsIn K mainGlobals "check_size" = some (some (.ref f3))) (l3 : K.lookup f3 = some ⟨oc3, od3, .func (PySem.W.fnOf "check_size" "check_size" (defArgs sChk) (defBody sChk) (defScope sChk) .none kV3 dc3 pm3 an3 cd3 ct3), sl3⟩) (c3 : PySem.W.codeIn K cd3 "check_size" = true) (k3 : PySem.W.keepIn K (.ref f3) = true)
    (a4 : PySem.W.nsIn K mainGlobals "cut" = some (some (.ref f4))) (l4 : K.lookup f4 = some ⟨oc4, od4, .func (PySem.W.fnOf "cut" "cut" (defArgs sCut) (defBody sCut) (defScope sCut) .none kV4 dc4 pm4 an4 cd4 ct4), sl4⟩) (c4 : PySem.W.codeIn K cd4 "cut" = true) (k4 : PySem.W.keepIn K (.ref f4) = true)
    (a5 : PySem.W.nsIn K mainGlobals "view" = some (some (.ref f5))) (l5 : K.lookup f5 = some ⟨oc5, od5, .func (PySem.W.fnOf "view" "view" (defArgs sVie) (defBody sVie) (defScope sVie) .none kV5 dc5 pm5 an5 cd5 ct5), sl5⟩) (c5 : PySem.W.codeIn K cd5 "view" = true) (k5 : PySem.W.keepIn K (.ref f5) = true)
    (a6 : PySem.W.nsIn K mainGlobals "_law_begun" = some (some (.ref f6))) (l6 : K.lookup f6 = some ⟨oc6, od6, .func (PySem.W.fnOf "_law_begun" "_law_begun" (defArgs sBeg) (defBody sBeg) (defScope sBeg) .none kV6 dc6 pm6 an6 cd6 ct6), sl6⟩) (c6 : PySem.W.codeIn K cd6 "_law_begun" = true) (k6 : PySem.W.keepIn K (.ref f6) = true)
    (a7 : PySem.W.nsIn K mainGlobals "_law_take" = some (some (.ref f7))) (l7 : K.lookup f7 = some ⟨oc7, od7, .func (PySem.W.fnOf "_law_take" "_law_take" (defArgs sTak) (defBody sTak) (defScope sTak) .none kV7 dc7 pm7 an7 cd7 ct7), sl7⟩) (c7 : PySem.W.codeIn K cd7 "_law_take" = true) (k7 : PySem.W.keepIn K (.ref f7) = true)
    (a8 : PySem.W.nsIn K mainGlobals "_law_alike" = some (some (.ref f8))) (l8 : K.lookup f8 = some ⟨oc8, od8, .func (PySem.W.fnOf "_law_alike" "_law_alike" (defArgs sAli) (defBody sAli) (defScope sAli) .none kV8 dc8 pm8 an8 cd8 ct8), sl8⟩) (c8 : PySem.W.codeIn K cd8 "_law_alike" = true) (k8 : PySem.W.keepIn K (.ref f8) = true)
    (a9 : PySem.W.nsIn K mainGlobals "_law_view" = some (some (.ref f9))) (l9 : K.lookup f9 = some ⟨oc9, od9, .func (PySem.W.fnOf "_law_view" "_law_view" (defArgs sVwl) (defBody sVwl) (defScope sVwl) .none kV9 dc9 pm9 an9 cd9 ct9), sl9⟩) (c9 : PySem.W.codeIn K cd9 "_law_view" = true) (k9 : PySem.W.keepIn K (.ref f9) = true)
    (a10 : PySem.W.nsIn K mainGlobals "_law_text" = some (some (.ref f10))) (l10 : K.lookup f10 = some ⟨oc10, od10, .func (PySem.W.fnOf "_law_text" "_law_text" (defArgs sTxt) (defBody sTxt) (defScope sTxt) .none kV10 dc10 pm10 an10 cd10 ct10), sl10⟩) (c10 : PySem.W.codeIn K cd10 "_law_text" = true) (k10 : PySem.W.keepIn K (.ref f10) = true)
    (a11 : PySem.W.nsIn K mainGlobals "law" = some (some (.ref f11))) (l11 : K.lookup f11 = some ⟨oc11, od11, .func (PySem.W.fnOf "law" "law" (defArgs sL02) (defBody sL02) (defScope sL02) .none kV11 dc11 pm11 an11 cd11 ct11), sl11⟩) (c11 : PySem.W.codeIn K cd11 "law" = true) (k11 : PySem.W.keepIn K (.ref f11) = true)
    (z_isinstance : PySem.W.nsIn K mainGlobals "isinstance" = some none)
    (z_bool : PySem.W.nsIn K mainGlobals "bool" = some none)
    (z_list : PySem.W.nsIn K mainGlobals "list" = some none)
    (z_int : PySem.W.nsIn K mainGlobals "int" = some none)
    (z_len : PySem.W.nsIn K mainGlobals "len" = some none)
    (z_str : PySem.W.nsIn K mainGlobals "str" = some none)
    (z_tuple : PySem.W.nsIn K mainGlobals "tuple" = some none)
    (z_range : PySem.W.nsIn K mainGlobals "range" = some none)
    (z_max : PySem.W.nsIn K mainGlobals "max" = some none)
    (mg_NARROWEST : PySem.W.nsIn K mainGlobals "NARROWEST" = some (some (.int 2 t_NARROWEST)))
    (mg_WIDEST : PySem.W.nsIn K mainGlobals "WIDEST" = some (some (.int 40 t_WIDEST)))
    (mg_LOWEST : PySem.W.nsIn K mainGlobals "LOWEST" = some (some (.int 1 t_LOWEST)))
    (mg_HIGHEST : PySem.W.nsIn K mainGlobals "HIGHEST" = some (some (.int 20 t_HIGHEST)))
    : ∃ fd : FuncData, (∀ (s : Shared) (v : Value), BindsTo s fd ⟨[v], []⟩ [("_law_script", v)]) ∧ ∀ base : Heap, K.In base → base.Ns mainGlobals mg → FnOk l.prog w K mg base CX0 5 fa fd ["_law_script"] (spLaw K) := by
  have e := hfa.symm.trans (PySem.W.mg_of X G a11)
  cases e
  have FIsN := fun_mk (st := sIsN) l1 c1 k1
  have bIsN := FIsN.binds (ps := ["number"]) fun _ _ _ _ _ _ us hl => match us, hl with | [_], _ => rfl
  have mIsN := PySem.W.mg_of X G a1
  have FWit := fun_mk (st := sWit) l2 c2 k2
  have bWit := FWit.binds (ps := ["number", "least", "most"]) fun _ _ _ _ _ _ us hl => match us, hl with | [_, _, _], _ => rfl
  have mWit := PySem.W.mg_of X G a2
  have FChk := fun_mk (st := sChk) l3 c3 k3
  have bChk := FChk.binds (ps := ["wide", "high"]) fun _ _ _ _ _ _ us hl => match us, hl with | [_, _], _ => rfl
  have mChk := PySem.W.mg_of X G a3
  have FCut := fun_mk (st := sCut) l4 c4 k4
  have bCut := FCut.binds (ps := ["row", "wide"]) fun _ _ _ _ _ _ us hl => match us, hl with | [_, _], _ => rfl
  have mCut := PySem.W.mg_of X G a4
  have FVie := fun_mk (st := sVie) l5 c5 k5
  have bVie := FVie.binds (ps := ["rows", "line", "wide", "high"]) fun _ _ _ _ _ _ us hl => match us, hl with | [_, _, _, _], _ => rfl
  have mVie := PySem.W.mg_of X G a5
  have FBeg := fun_mk (st := sBeg) l6 c6 k6
  have bBeg := FBeg.binds (ps := ["_law_script"]) fun _ _ _ _ _ _ us hl => match us, hl with | [_], _ => rfl
  have mBeg := PySem.W.mg_of X G a6
  have FTak := fun_mk (st := sTak) l7 c7 k7
  have bTak := FTak.binds (ps := ["_law_box", "_law_many"]) fun _ _ _ _ _ _ us hl => match us, hl with | [_, _], _ => rfl
  have mTak := PySem.W.mg_of X G a7
  have FAli := fun_mk (st := sAli) l8 c8 k8
  have bAli := FAli.binds (ps := ["_law_found", "_law_due"]) fun _ _ _ _ _ _ us hl => match us, hl with | [_, _], _ => rfl
  have mAli := PySem.W.mg_of X G a8
  have FVwl := fun_mk (st := sVwl) l9 c9 k9
  have bVwl := FVwl.binds (ps := ["_law_rows", "_law_line", "_law_wide", "_law_high"]) fun _ _ _ _ _ _ us hl => match us, hl with | [_, _, _, _], _ => rfl
  have mVwl := PySem.W.mg_of X G a9
  have FTxt := fun_mk (st := sTxt) l10 c10 k10
  have bTxt := FTxt.binds (ps := ["_law_box", "_law_most"]) fun _ _ _ _ _ _ us hl => match us, hl with | [_, _], _ => rfl
  have mTxt := PySem.W.mg_of X G a10
  have FL02 := fun_mk (st := sL02) l11 c11 k11
  have bL02 := FL02.binds (ps := ["_law_script"]) fun _ _ _ _ _ _ us hl => match us, hl with | [_], _ => rfl
  have mL02 := PySem.W.mg_of X G a11
  have TBnd_ : TBnd mg := ⟨PySem.W.mg_none_of X G z_isinstance, PySem.W.mg_none_of X G z_bool⟩
  have TBeg_ : TBeg mg := ⟨PySem.W.mg_none_of X G z_list, PySem.W.mg_none_of X G z_int, PySem.W.mg_none_of X G z_len⟩
  have TAli_ : TAli mg := ⟨PySem.W.mg_none_of X G z_bool, PySem.W.mg_none_of X G z_int, PySem.W.mg_none_of X G z_str, PySem.W.mg_none_of X G z_list, PySem.W.mg_none_of X G z_tuple, PySem.W.mg_none_of X G z_isinstance, PySem.W.mg_none_of X G z_len, PySem.W.mg_none_of X G z_range⟩
  have TPic_ : TPic mg := ⟨PySem.W.mg_none_of X G z_len, PySem.W.mg_none_of X G z_max, PySem.W.mg_none_of X G z_range, ⟨_, PySem.W.mg_of X G mg_NARROWEST⟩, ⟨_, PySem.W.mg_of X G mg_WIDEST⟩, ⟨_, PySem.W.mg_of X G mg_LOWEST⟩, ⟨_, PySem.W.mg_of X G mg_HIGHEST⟩⟩
  have TVwl_ : TVwl mg := ⟨PySem.W.mg_none_of X G z_len, PySem.W.mg_none_of X G z_max⟩
  have TTxt_ : TTxt mg := ⟨PySem.W.mg_none_of X G z_range⟩
  have TLaw_ : TLaw mg := ⟨PySem.W.mg_none_of X G z_range, PySem.W.mg_none_of X G z_list⟩
  refine ⟨PySem.W.fnOf "law" "law" (defArgs sL02) (defBody sL02) (defScope sL02) .none kV11 dc11 pm11 an11 cd11 ct11, fun s v => ?_, fun base _ _ => ?_⟩
  case refine_2 =>
    have cIsN : Cal l.prog w K mg base "is_number" 1 _ spIsN := ⟨⟨_, _, ok_isn FIsN TBnd_, mIsN, FIsN.kp, bIsN⟩⟩
    have cWit : Cal l.prog w K mg base "is_within" 2 _ spWit := ⟨⟨_, _, ok_wit FWit TBnd_ ⟨cIsN⟩, mWit, FWit.kp, bWit⟩⟩
    have cBeg : Cal l.prog w K mg base "_law_begun" 1 _ (spBeg K) := ⟨⟨_, _, ok_begun FBeg TBeg_, mBeg, FBeg.kp, bBeg⟩⟩
    have cTak : Cal l.prog w K mg base "_law_take" 1 _ spTak := ⟨⟨_, _, ok_take2 FTak, mTak, FTak.kp, bTak⟩⟩
    have cAli : Cal l.prog w K mg base "_law_alike" 2 _ (spAli K 1) := ⟨⟨_, _, ok_alike FAli TAli_ mAli bAli 1, mAli, FAli.kp, bAli⟩⟩
    have cChk : Cal l.prog w K mg base "check_size" 3 _ spChk := ⟨⟨_, _, ok_chk FChk TPic_ ⟨cWit⟩, mChk, FChk.kp, bChk⟩⟩
    have cCut : Cal l.prog w K mg base "cut" 1 _ spCut := ⟨⟨_, _, ok_cut FCut TPic_, mCut, FCut.kp, bCut⟩⟩
    have cVie : Cal l.prog w K mg base "view" 4 _ (spVie K) := ⟨⟨_, _, ok_view FVie TPic_ ⟨cChk, cCut⟩, mVie, FVie.kp, bVie⟩⟩
    have cVwl : Cal l.prog w K mg base "_law_view" 1 _ spVwl := ⟨⟨_, _, ok_lview FVwl TVwl_, mVwl, FVwl.kp, bVwl⟩⟩
    have cTxt : Cal l.prog w K mg base "_law_text" 2 _ spTxt := ⟨⟨_, _, ok_text FTxt TTxt_ ⟨cTak⟩, mTxt, FTxt.kp, bTxt⟩⟩
    exact ok_law FL02 TLaw_ ⟨cBeg, cTak, cTxt, cVwl, cAli, cVie⟩
  case refine_1 => exact .of_eq rfl
theorem walk {l : PySem.W.OpenLaw} {q : Program} {loose : List Str} {XP : (Str → Option Value) → Heap → Prop} {YP : World → Heap → Prop} {d : DefRec} {K : Params → PySem.W.Frag} (hn : l.most = some 63) (hdf : d.params.defaults = [])
    (hY : ∀ (w : World) (h : Heap), YP w h → (K w.params).In h)
    (F : ∀ (w : World) (mg : Str → Option Value) (fa : Addr) (h : Heap), (K w.params).In h → h.Ns mainGlobals mg → mg d.name = some (.ref fa) →
      ∃ fd : FuncData, (∀ (s : Shared) (u : Value), BindsTo s fd ⟨[u], []⟩ [("_law_script", u)]) ∧ ∀ base : Heap, (K w.params).In base → base.Ns mainGlobals mg → FnOk l.prog w (K w.params) mg base CX0 5 fa fd ["_law_script"] (spLaw (K w.params))) :
    PySem.W.WalkO q loose XP YP l.row.toRowW d [] (fun f vs => PySem.call f vs) :=
  L2.walk_of (n := 63) (k := 5) (x := "_law_script") (CX := fun _ => CX0) (sp := fun w => spLaw (K w.params)) hn (by decide) hdf ⟨rfl, by decide, by decide⟩ hY F (fun _ _ a ns hl _ hS => ⟨a, ns, rfl, hS, hl, fun _ => rfl⟩) fun _ _ _ _ _ z => z
end Vf
open PySem PySem.W PyProof.Rows in
set_option maxRecDepth 100000 in
set_option maxHeartbeats 0 in
theorem PySem.Challenge.cw_attachhall_k02_pictures_holds : PySem.Challenge.rw_attachhall_k02_pictures.Holds := by
  w_on; o_law; k_head; (case hw => w_witness2)
  k_fill
  refine Vf.walk (l := PySem.Challenge.rw_attachhall_k02_pictures) rfl rfl (fun w h Y => PySem.W.kIn_of Y) ?F
  case F =>
    intro w mg fa h KX G hmg
    refine' Vf.all_mk KX G hmg ?a1 ?l1 ?c1 ?k1 ?a2 ?l2 ?c2 ?k2 ?a3 ?l3 ?c3 ?k3 ?a4 ?l4 ?c4 ?k4 ?a5 ?l5 ?c5 ?k5 ?a6 ?l6 ?c6 ?k6 ?a7 ?l7 ?c7 ?k7 ?a8 ?l8 ?c8 ?k8 ?a9 ?l9 ?c9 ?k9 ?a10 ?l10 ?c10 ?k10 ?a11 ?l11 ?c11 ?k11 ?z_isinstance ?z_bool ?z_list ?z_int ?z_len ?z_str ?z_tuple ?z_range ?z_max ?mg_NARROWEST ?mg_WIDEST ?mg_LOWEST ?mg_HIGHEST
    (case a1 => k_is)
    (case l1 => k_is)
    (case c1 => k_is)
    (case k1 => k_is)
    (case a2 => k_is)
    (case l2 => k_is)
    (case c2 => k_is)
    (case k2 => k_is)
    (case a3 => k_is)
    (case l3 => k_is)
    (case c3 => k_is)
    (case k3 => k_is)
    (case a4 => k_is)
    (case l4 => k_is)
    (case c4 => k_is)
    (case k4 => k_is)
    (case a5 => k_is)
    (case l5 => k_is)
    (case c5 => k_is)
    (case k5 => k_is)
    (case a6 => k_is)
    (case l6 => k_is)
    (case c6 => k_is)
    (case k6 => k_is)
    (case a7 => k_is)
    (case l7 => k_is)
    (case c7 => k_is)
    (case k7 => k_is)
    (case a8 => k_is)
    (case l8 => k_is)
    (case c8 => k_is)
    (case k8 => k_is)
    (case a9 => k_is)
    (case l9 => k_is)
    (case c9 => k_is)
    (case k9 => k_is)
    (case a10 => k_is)
    (case l10 => k_is)
    (case c10 => k_is)
    (case k10 => k_is)
    (case a11 => k_is)
    (case l11 => k_is)
    (case c11 => k_is)
    (case k11 => k_is)
    (case z_isinstance => k_is)
    (case z_bool => k_is)
    (case z_list => k_is)
    (case z_int => k_is)
    (case z_len => k_is)
    (case z_str => k_is)
    (case z_tuple => k_is)
    (case z_range => k_is)
    (case z_max => k_is)
    (case mg_NARROWEST => k_is)
    (case mg_WIDEST => k_is)
    (case mg_LOWEST => k_is)
    (case mg_HIGHEST => k_is)
#print axioms PySem.Challenge.cw_attachhall_k02_pictures_holds
