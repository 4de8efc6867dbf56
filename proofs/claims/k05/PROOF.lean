import PyProof.Rows.All
import Wide.All
import OpenK.AllK
import Wide.FinOn
import HandS.ForMost
import HandS.Evl
import HandS.IsInst
import HandS.FStr
import HandS.StrMore
import HandS.AnyAll
import HandS.Walk
import HandS.Replace
import HandS.EndTab
import HandS.Style
import HandS.Small
import HandS.Flow
import HandS.Star
import HandS.More
import KE.GoesMore
import KE.KUnpackStar
import HandS.NoneIn
import HandS.RaiseMore
import HandS.StrSplit
import PySem.Challenge.RW_attachhall_k05_letters_packed
set_option Elab.async false
set_option linter.all false
set_option maxRecDepth 100000
set_option maxHeartbeats 4000000
namespace Vf
open PySem PySem.Spec PyProof.Rows L2 Evl
/-! ### a def of the text that may be called by its name -/
structure Cal (P : Program) (w : World) (K : PySem.W.Frag) (mg : Str → Option Value) (base : Heap) (x : Str) (k : Nat) (ps : List Str) (sp : Sp) : Prop where
  ex : ∃ (f : Addr) (fd : FuncData), FnOk P w K mg base CX0 k f fd ps sp ∧ mg x = some (.ref f) ∧ PySem.W.keepIn K (.ref f) = true ∧ Binds K fd ps []
theorem Cal.mono {P : Program} {w : World} {K : PySem.W.Frag} {mg : Str → Option Value} {base : Heap} {x : Str} {k j : Nat} {ps : List Str} {sp : Sp} (c : Cal P w K mg base x k ps sp) (h : k ≤ j) : Cal P w K mg base x j ps sp := by
  obtain ⟨f, fd, F, a, b, c⟩ := c.ex
  exact ⟨f, fd, F.mono h, a, b, c⟩
theorem Cal.imp {P : Program} {w : World} {K : PySem.W.Frag} {mg : Str → Option Value} {base : Heap} {x : Str} {k : Nat} {ps : List Str} {sp sp' : Sp} (c : Cal P w K mg base x k ps sp)
    (h : ∀ vs H Q E, sp' vs H Q E → sp vs H Q E) : Cal P w K mg base x k ps sp' := by
  obtain ⟨f, fd, F, a, b, c⟩ := c.ex
  exact ⟨f, fd, F.imp h, a, b, c⟩
section
variable {X : Cx} {x : Str} {k : Nat} {ps : List Str} {sp : Sp} {e : Expr} {es : List Expr} {t : TA} {p pos : Pos}
theorem pcall (c : Cal X.prog X.w X.K X.mg X.base x k ps sp) (hr : Room k X.A) (ha : PA X (e :: es) t) (hg : Gl X x := by rfl)
    (hdb : (x == ("__debug__" : Str)) = false := by decide) (he : starEach (e :: es) X.env = (false, eval e X.env) :: starEach es X.env := by rfl) (hpl : (backTo pos (starEach es X.env)).any (·.1) = false := by rfl) :
    PE X (.Call (.Name x p) (e :: es) [] pos) (tCall sp [] E0 t) := by
  obtain ⟨f, fd, F, hm, hk, hb⟩ := c.ex
  exact pe_call F hr hg hm hk hb .nil pass0 ha hdb he hpl
theorem pcall0 (c : Cal X.prog X.w X.K X.mg X.base x k ps sp) (hr : Room k X.A) (hg : Gl X x := by rfl)
    (hdb : (x == ("__debug__" : Str)) = false := by decide) :
    PE X (.Call (.Name x p) [] [] pos) (tCall sp [] E0 tNil) := by
  obtain ⟨f, fd, F, hm, hk, hb⟩ := c.ex
  exact pe_call0 F hr hg hm hk hb .nil pass0 hdb
end
/-! ### a constant of the module -/
section
variable {X : Cx} {x : Str} {pos : Pos}
theorem pgI {i : Int} (h : ∃ t, X.mg x = some (.int i t)) (hg : Gl X x := by rfl) (hdb : (x == ("__debug__" : Str)) = false := by decide) : PE X (.Name x pos) (tC (.int i)) := by
  obtain ⟨t, h⟩ := h
  exact pe_glob hg h ⟨_, rfl⟩ hdb
theorem pgS {i : Str} (h : ∃ t, X.mg x = some (.str i t)) (hg : Gl X x := by rfl) (hdb : (x == ("__debug__" : Str)) = false := by decide) : PE X (.Name x pos) (tC (.str i)) := by
  obtain ⟨t, h⟩ := h
  exact pe_glob hg h ⟨_, rfl⟩ hdb
end
theorem yes_lc {σ : L2.St} {H : Hp} {f g : Hp → Prop} (h : f H) : tYes σ H (fun b H3 => if b = true then f H3 else g H3) := by
  show if true = true then f H else g H
  rw [if_pos rfl]
  exact h
/-! ### two addresses apart, a heap that grows -/
theorem ne_new {H : Hp} {a p : Addr} {o : HO} (h : H a = some o) (n : H p = none) : a ≠ p := ne_of_none h n
theorem ex_set {H H1 : Hp} {p : Addr} {o : HO} (e : Ex H H1) (n : H p = none) : Ex H (upd H1 p o) := Ex.mut e n
/-! ### the box of numbers, hidden: which numbers it holds is left open -/
def lstObj (its : List Value) (n : Nat) : Obj := { cls := .type "list", data := .seq its.toArray n }
def BoxO (b l : Addr) : HO := .ext fun h => ∃ (z : Int) (its : List Value) (n : Nat), Vals [.ref l, .int z] its ∧ h.get? b = some (lstObj its n)
def IntsO (l : Addr) : HO := .ext fun h => ∃ (ns : List Int) (its : List Value) (n : Nat), ns.length ≤ sizeLine ∧ Vals (ns.map V.int) its ∧ h.get? l = some (lstObj its n)
/-- the box stands at b, its numbers at l -/
def Box (H : Hp) (b l : Addr) : Prop := b ≠ l ∧ H b = some (BoxO b l) ∧ H l = some (IntsO l)
theorem Box.ex {H H' : Hp} {b l : Addr} (h : Box H b l) (e : Ex H H') : Box H' b l := ⟨h.1, e _ _ h.2.1, e _ _ h.2.2⟩
def opened (H : Hp) (b l : Addr) (z : Int) (ns : List Int) : Hp := upd (upd H l (.lst (ns.map V.int))) b (.lst [.ref l, .int z])
def closed (H : Hp) (b l : Addr) : Hp := upd (upd H l (IntsO l)) b (BoxO b l)
section
variable {P : Program} {w : World} {H H' : Hp} {h h' : Heap} {b l a : Addr} {z : Int} {ns : List Int}
theorem upd2_ne {o u : HO} (h1 : a ≠ b) (h2 : a ≠ l) : upd (upd H l o) b u a = H a := by rw [upd_ne h1, upd_ne h2]
theorem own_ne {o : HO} {φ : Heap → Prop} (hb : H b = some (.ext φ)) (h : H a = some o) (n : ∀ φ, o ≠ .ext φ) : a ≠ b := by
  rintro rfl
  rw [hb] at h
  exact n _ (Option.some.inj h).symm
theorem hok_open (x : HOk P w H h) (B : Box H b l) : ∃ z ns, HOk P w (opened H b l z ns) h := by
  obtain ⟨hne, hb, hl⟩ := B
  obtain ⟨⟨z, its, n, r, g⟩, _⟩ := (show ObjOk P w H h b (BoxO b l) from x b _ hb)
  obtain ⟨⟨ns, its', n', hz, r', g'⟩, _⟩ := (show ObjOk P w H h l (IntsO l) from x l _ hl)
  refine ⟨z, ns, fun a o e => ?_⟩
  unfold opened at e
  by_cases h1 : a = b
  · subst h1
    rw [upd_same] at e
    cases e
    exact ⟨by show 2 ≤ sizeLine; decide, its, n, r, g⟩
  · rw [upd_ne h1] at e
    by_cases h2 : a = l
    · subst h2
      rw [upd_same] at e
      cases e
      exact ⟨by rw [List.length_map]; exact hz, its', n', r', g'⟩
    · rw [upd_ne h2] at e
      refine (x a o e).stay (fun _ _ _ q => q) (fun c q => ?_) (fun c xs q => ?_)
      · unfold opened
        rw [upd2_ne (own_ne hb q (fun _ z => by cases z)) (own_ne hl q (fun _ z => by cases z))]
        exact q
      · unfold opened
        rw [upd2_ne (own_ne hb q (fun _ z => by cases z)) (own_ne hl q (fun _ z => by cases z))]
        exact q
theorem lst_ne {o : HO} {xs : List V} (hb : H b = some (.lst xs)) (h : H a = some o) (n : ∀ xs, o ≠ .lst xs) : a ≠ b := by
  rintro rfl
  rw [hb] at h
  exact n _ (Option.some.inj h).symm
theorem hok_close (x : HOk P w H h) (hb : H b = some (.lst [.ref l, .int z])) (hl : H l = some (.lst (ns.map V.int))) : HOk P w (closed H b l) h := by
  obtain ⟨_, its, n, r, g⟩ := (show ObjOk P w H h b (.lst _) from x b _ hb)
  obtain ⟨hz, its', n', r', g'⟩ := (show ObjOk P w H h l (.lst _) from x l _ hl)
  intro a o e
  unfold closed at e
  by_cases h1 : a = b
  · subst h1
    rw [upd_same] at e
    cases e
    exact ⟨⟨z, its, n, r, g⟩, ⟨_, g⟩, fun h1 h2 ⟨z, its, n, r, g⟩ k => ⟨z, its, n, r, k _ g⟩⟩
  · rw [upd_ne h1] at e
    by_cases h2 : a = l
    · subst h2
      rw [upd_same] at e
      cases e
      exact ⟨⟨ns, its', n', by rw [List.length_map] at hz; exact hz, r', g'⟩, ⟨_, g'⟩, fun h1 h2 ⟨ns, its, n, hz, r, g⟩ k => ⟨ns, its, n, hz, r, k _ g⟩⟩
    · rw [upd_ne h2] at e
      refine (x a o e).stay (fun _ _ _ q => q) (fun c q => ?_) (fun c xs q => ?_)
      · unfold closed
        rw [upd2_ne (lst_ne hb q (fun _ z => by cases z)) (lst_ne hl q (fun _ z => by cases z))]
        exact q
      · unfold closed
        rw [upd2_ne (lst_ne hb q (fun _ z => by cases z)) (lst_ne hl q (fun _ z => by cases z))]
        exact q
theorem un_hide {fs ex : List Addr} {H2 : Hp} (B : Box H b l) (u : Un fs ex (opened H b l z ns) H2 h h') : Un fs ex H (closed H2 b l) h h' := by
  obtain ⟨hne, hb, hl⟩ := B
  have none_ne : ∀ c, H c = none → c ≠ b ∧ c ≠ l := fun c q => ⟨fun e => (by rw [e, hb] at q; cases q), fun e => (by rw [e, hl] at q; cases q)⟩
  have non : ∀ c, H c = none → opened H b l z ns c = none := fun c q => by
    unfold opened
    rw [upd2_ne (none_ne c q).1 (none_ne c q).2]
    exact q
  have ne2 : ∀ c o, H c = some o → (∀ φ, o ≠ .ext φ) → c ≠ b ∧ c ≠ l := fun c o q n => ⟨own_ne hb q n, own_ne hl q n⟩
  refine ⟨fun c o q n => u.keep c o q (non c n), fun c o q n => u.slot c o q (non c n), fun c o q n hx => ?_, u.there, fun c xs q => ?_, fun c o v q => ?_, fun c ps q => ?_⟩
  · unfold closed
    rw [upd2_ne (none_ne c n).1 (none_ne c n).2]
    exact u.free c o q (non c n) hx
  · have d := ne2 c _ q (fun _ z => by cases z)
    unfold closed
    rw [upd2_ne d.1 d.2]
    exact u.tups c xs (by unfold opened; rw [upd2_ne d.1 d.2]; exact q)
  · have d := ne2 c _ q (fun _ z => by cases z)
    unfold closed
    rw [upd2_ne d.1 d.2]
    exact u.frzs c o v (by unfold opened; rw [upd2_ne d.1 d.2]; exact q)
  · have d := ne2 c _ q (fun _ z => by cases z)
    unfold closed
    rw [upd2_ne d.1 d.2]
    exact u.tbls c ps (by unfold opened; rw [upd2_ne d.1 d.2]; exact q)
theorem ex_new2 {H2 : Hp} (e : Ex H H2) (n1 : H b = none) (n2 : H l = none) : Ex H (closed H2 b l) := fun c o q => by
  have d1 : c ≠ b := ne_of_none q n1
  have d2 : c ≠ l := ne_of_none q n2
  unfold closed
  rw [upd2_ne d1 d2]
  exact e c o q
theorem un_new {fs : List Addr} {H2 : Hp} (u : Un fs [] H H2 h h') (n1 : H b = none) (n2 : H l = none) (hb : H2 b = some (.lst [.ref l, .int z])) (hl : H2 l = some (.lst (ns.map V.int))) : Un fs [] H (closed H2 b l) h h' := by
  have old : ∀ c o, h.get? c = some o → H c = none → c ≠ b ∧ c ≠ l := fun c o q n => by
    have f := u.free c o q n (by simp)
    exact ⟨fun e => (by rw [e, hb] at f; cases f), fun e => (by rw [e, hl] at f; cases f)⟩
  have ne2 : ∀ c o, H c = some o → c ≠ b ∧ c ≠ l := fun c o q => ⟨ne_of_none q n1, ne_of_none q n2⟩
  refine ⟨u.keep, u.slot, fun c o q n hx => ?_, u.there, fun c xs q => ?_, fun c o v q => ?_, fun c ps q => ?_⟩
  · unfold closed
    rw [upd2_ne (old c o q n).1 (old c o q n).2]
    exact u.free c o q n hx
  · have d := ne2 c _ q
    unfold closed
    rw [upd2_ne d.1 d.2]
    exact u.tups c xs q
  · have d := ne2 c _ q
    unfold closed
    rw [upd2_ne d.1 d.2]
    exact u.frzs c o v q
  · have d := ne2 c _ q
    unfold closed
    rw [upd2_ne d.1 d.2]
    exact u.tbls c ps q
theorem ex_hide {H2 : Hp} (B : Box H b l) (e : ∀ c o, c ≠ b → c ≠ l → H c = some o → H2 c = some o) : Ex H (closed H2 b l) := by
  obtain ⟨hne, hb, hl⟩ := B
  intro c o q
  unfold closed
  by_cases h1 : c = b
  · subst h1
    rw [upd_same, ← hb]
    exact q
  · rw [upd_ne h1]
    by_cases h2 : c = l
    · subst h2
      rw [upd_same, ← hl]
      exact q
    · rw [upd_ne h2]
      exact e c o h1 h2 q
end
/-- what a def that works upon the open box promises -/
def spOpen (R : V → Prop) (pre : List V → Prop) : Sp := fun vs H Q _ => ∃ (b l : Addr) (z : Int) (ns : List Int) (rest : List V), vs = .ref b :: rest ∧ pre rest ∧ b ≠ l ∧ H b = some (.lst [.ref l, .int z]) ∧ H l = some (.lst (ns.map V.int)) ∧
  ∀ (v : V) (H' : Hp) (z' : Int) (ns' : List Int), R v → (∀ c o, c ≠ b → c ≠ l → H c = some o → H' c = some o) → H' b = some (.lst [.ref l, .int z']) → H' l = some (.lst (ns'.map V.int)) → Q v H'
/-- what it promises where the box is hidden -/
def spHid (R : V → Prop) (pre : List V → Prop) : Sp := fun vs H Q _ => ∃ (b l : Addr) (rest : List V), vs = .ref b :: rest ∧ pre rest ∧ Box H b l ∧ ∀ (v : V) (H' : Hp), R v → Ex H H' → Q v H'
section
variable {P : Program} {w : World} {K : PySem.W.Frag} {mg : Str → Option Value} {base : Heap}
theorem hide_fn {k : Nat} {f : Addr} {fd : FuncData} {ps : List Str} {R : List V → V → Prop} {pre : List V → Prop} (F : ∀ r0, pre r0 → FnOk P w K mg base CX0 k f fd ps (spOpen (R r0) fun r => r = r0)) (hl : ∀ r, pre r → r.length + 1 = ps.length) :
    FnOk P w K mg base CX0 k f fd ps (fun vs H Q _ => ∃ (b l : Addr) (rest : List V), vs = .ref b :: rest ∧ pre rest ∧ Box H b l ∧ ∀ (v : V) (H' : Hp), R rest v → Ex H H' → Q v H') := by
  refine ⟨fun vs H Q E h => ?_, fun A outer s H args us vs Q E hr e0 hb hv h => ?_⟩
  · obtain ⟨b, l, rest, rfl, hp, _⟩ := h
    exact hl _ hp
  · obtain ⟨b, l, rest, rfl, hp, B, q⟩ := h
    obtain ⟨z, ns, ok⟩ := hok_open e0.hok B
    have non : ∀ c, H c = none → opened H b l z ns c = none := fun c n => by
      have h1 : c ≠ b := fun e => by rw [e, B.2.1] at n; cases n
      have h2 : c ≠ l := fun e => by rw [e, B.2.2] at n; cases n
      unfold opened
      rw [upd2_ne h1 h2]
      exact n
    have e1 : Env0 P w K mg base A outer s (opened H b l z ns) := ⟨e0.frames, e0.mod, fun c o g => ⟨(e0.bs c o g).1, non c (e0.bs c o g).2⟩, e0.bsz, e0.funs, fun c g => non c (e0.frf c g), ok, e0.bare⟩
    refine codeAny_mono ((F rest hp).run A outer s (opened H b l z ns) args us (.ref b :: rest) (fun v H2 => Q v (closed H2 b l) ∧ ∃ z ns, H2 b = some (.lst [.ref l, .int z]) ∧ H2 l = some (.lst (ns.map V.int))) E hr e1 hb hv ⟨b, l, z, ns, rest, rfl, rfl, B.1, upd_same, ?_, fun v H' z' ns' hR hk h1 h2 => ⟨?_, z', ns', h1, h2⟩⟩) fun r s' hq => ?_
    · unfold opened
      rw [upd_ne (Ne.symm B.1), upd_same]
    · refine q v _ hR (ex_hide B fun c o h1 h2 g => hk c o h1 h2 ?_)
      unfold opened
      rw [upd2_ne h1 h2]
      exact g
    · cases r with
      | error e => exact hq
      | ok fl =>
        cases fl with
        | ret u =>
          obtain ⟨v, H2, os, bare, un, hok, rv, q2, z2, ns2, hb2, hl2⟩ := hq
          exact ⟨v, closed H2 b l, os, bare, un_hide B un, hok_close hok hb2 hl2, rv, q2⟩
        | next => exact hq
        | brk => exact hq
        | cont => exact hq
end
end Vf
namespace Vf
open PySem PySem.Spec PyProof.Rows L2 Evl
/-! ### data -/
theorem sq_ex {K : PySem.W.Frag} {H H' : Hp} {a : Addr} {xs : List V} (e : Ex H H') (h : SqL K H a xs) : SqL K H' a xs := ex_l e h
theorem dp_ints {K : PySem.W.Frag} {H : Hp} : ∀ ns : List Int, DpAll K H (ns.map V.int) (ns.map PyData.int)
  | [] => .nil
  | n :: r => .cons (.int n) (dp_ints r)
theorem dp_strs {K : PySem.W.Frag} {H : Hp} : ∀ ns : List Str, DpAll K H (ns.map V.str) (ns.map PyData.str)
  | [] => .nil
  | n :: r => .cons (.str n) (dp_strs r)
theorem flat_ints : ∀ ns : List Int, (PyData.canLayAll0 (ns.map PyData.int) = true) ∧ PyData.depthAll (ns.map PyData.int) = 0
  | [] => ⟨rfl, rfl⟩
  | n :: r => by
    obtain ⟨h1, h2⟩ := flat_ints r
    refine ⟨?_, ?_⟩
    · show (true && PyData.canLayAll0 (r.map PyData.int)) = true
      rw [h1]; rfl
    · show max 0 (PyData.depthAll (r.map PyData.int)) = 0
      rw [h2]; rfl
theorem sh_ints (ns : List Int) : SeqAt.shaped (.list (ns.map PyData.int)) = true := by
  obtain ⟨h1, h2⟩ := flat_ints ns
  show (PyData.canLayAll0 (ns.map PyData.int) && decide (PyData.depthAll (ns.map PyData.int) + 1 ≤ 64)) = true
  rw [h1, h2]; rfl
def good : Nat → PyData → Bool
  | _, .none => true
  | _, .bool _ => true
  | _, .int _ => true
  | _, .str x => PyData.canLay0 (.str x)
  | _, .dict _ => false
  | 0, .list _ => false
  | 0, .tuple _ => false
  | n + 1, .list xs => decide (xs.length ≤ 16777216) && xs.all (good n)
  | n + 1, .tuple xs => decide (xs.length ≤ 16777216) && xs.all (good n)
theorem good_all {n : Nat} (ih : ∀ d, good n d = true → PyData.canLay0 d = true ∧ PyData.depth d ≤ n) : ∀ xs : List PyData, xs.all (good n) = true → PyData.canLayAll0 xs = true ∧ PyData.depthAll xs ≤ n
  | [], _ => ⟨rfl, Nat.zero_le _⟩
  | x :: r, h => by
    rw [List.all_cons, Bool.and_eq_true] at h
    obtain ⟨h1, h2⟩ := ih x h.1
    obtain ⟨h3, h4⟩ := good_all ih r h.2
    refine ⟨?_, Nat.max_le.mpr ⟨h2, h4⟩⟩
    show (PyData.canLay0 x && PyData.canLayAll0 r) = true
    rw [h1, h3]; rfl
theorem good_lay : ∀ (n : Nat) (d : PyData), good n d = true → PyData.canLay0 d = true ∧ PyData.depth d ≤ n
  | n, .none, _ => ⟨rfl, Nat.zero_le _⟩
  | n, .bool _, _ => ⟨rfl, Nat.zero_le _⟩
  | n, .int _, _ => ⟨rfl, Nat.zero_le _⟩
  | n, .str x, h => ⟨by cases n <;> exact h, Nat.zero_le _⟩
  | n, .dict _, h => by cases n <;> cases h
  | 0, .list _, h => by cases h
  | 0, .tuple _, h => by cases h
  | n + 1, .list xs, h => by
    obtain ⟨h1, h2⟩ := good_all (good_lay n) xs (Bool.and_eq_true_iff.mp (show (decide (xs.length ≤ 16777216) && xs.all (good n)) = true from h)).2
    exact ⟨h1, Nat.succ_le_succ h2⟩
  | n + 1, .tuple xs, h => by
    obtain ⟨h1, h2⟩ := good_all (good_lay n) xs (Bool.and_eq_true_iff.mp (show (decide (xs.length ≤ 16777216) && xs.all (good n)) = true from h)).2
    exact ⟨h1, Nat.succ_le_succ h2⟩
theorem sh_of' {d : PyData} {n : Nat} (h : good n d = true) (hn : n ≤ 60) : SeqAt.shaped d = true := by
  obtain ⟨h1, h2⟩ := good_lay n d h
  show (PyData.canLay0 d && decide (PyData.depth d ≤ 64)) = true
  rw [h1, decide_eq_true (by omega)]
  rfl
theorem good_get {n : Nat} {xs : List PyData} {i : Nat} {d : PyData} (h : (decide (xs.length ≤ 16777216) && xs.all (good n)) = true) (e : xs[i]? = some d) : good n d = true :=
  List.all_eq_true.mp (Bool.and_eq_true_iff.mp h).2 d (List.mem_of_getElem? e)
theorem good_len {n : Nat} {xs : List PyData} (h : (decide (xs.length ≤ 16777216) && xs.all (good n)) = true) : xs.length ≤ 16777216 := of_decide_eq_true (Bool.and_eq_true_iff.mp h).1
theorem seq0 {α : Type} (x : α) (r : List α) : seqIndex? 0 (x :: r).length = some 0 := by
  have h : (0 : Int) < ((x :: r).length : Nat) := by rw [List.length_cons]; omega
  have e : (seqIndex? 0 (x :: r).length) = (if decide ((0 : Int) ≤ 0) && decide ((0 : Int) < ((x :: r).length : Nat)) then some (0 : Int).toNat else none) := rfl
  rw [e, decide_eq_true h]
  rfl
theorem eqv_nil (ns : List Int) : PyData.eqv (.list (ns.map PyData.int)) (.list []) = decide (ns = []) := by
  cases ns with
  | nil => rfl
  | cons n r => rfl
end Vf
namespace Vf
open PySem PySem.Spec PyProof.Rows L2 Evl
theorem at_ix {α : Type} {xs : List α} {z : Int} {j : Nat} {v : α} (e : z = (j : Int)) (h : xs[j]? = some v) : atI xs z = some v := by
  rw [e]
  exact atI_nat h
/-! ### texts by their signs -/
def txt (l : List Nat) : Str := ⟨l.toArray⟩
theorem txt_len (l : List Nat) : (txt l).length = l.length := by show l.toArray.size = _; simp
theorem txt_cps (l : List Nat) : (txt l).cps.toList = l := by show l.toArray.toList = l; simp
theorem txt_of (z : Str) : txt z.cps.toList = z := by cases z; simp [txt]
theorem txt_app (a b : List Nat) : txt a ++ txt b = txt (a ++ b) := by
  show (⟨a.toArray ++ b.toArray⟩ : Str) = ⟨(a ++ b).toArray⟩
  rw [List.append_toArray]
theorem str_len (z : Str) : z.cps.toList.length = z.length := by show _ = z.cps.size; simp
/-- a text of one sign -/
def sg (c : Nat) : Str := ⟨#[c]⟩
theorem glue0 : ∀ (r : List Nat) (acc : Array Nat), (r.map sg).foldl (fun (acc : Array Nat) (p : Str) => acc ++ (#[] : Array Nat) ++ p.cps) acc = acc ++ r.toArray
  | [], acc => by simp
  | c :: r, acc => by
    rw [List.map_cons, List.foldl_cons, glue0 r]
    show acc ++ #[] ++ #[c] ++ r.toArray = _
    apply Array.toList_inj.mp
    simp
theorem join0 (cs : List Nat) : Txt.join ⟨#[]⟩ (cs.map sg) = txt cs := by
  cases cs with
  | nil => rfl
  | cons c r =>
    show (⟨(r.map sg).foldl (fun (acc : Array Nat) (p : Str) => acc ++ (#[] : Array Nat) ++ p.cps) #[c]⟩ : Str) = _
    rw [glue0]
    show (⟨#[c] ++ r.toArray⟩ : Str) = ⟨(c :: r).toArray⟩
    congr 1
    apply Array.toList_inj.mp
    simp
theorem sg_sum : ∀ cs : List Nat, ((cs.map sg).map (fun y => y.length)).sum = cs.length
  | [] => rfl
  | c :: r => by
    rw [List.map_cons, List.map_cons, List.sum_cons, sg_sum r, List.length_cons]
    show 1 + r.length = _
    omega
/-- the text that a statement binds -/
def litOf : Stmt → Str
  | .Assign _ (.Constant (.str x) _ _) _ => x
  | _ => ⟨#[]⟩
theorem lay_str {z : Str} (h : ∀ c ∈ z.cps.toList, c < 128) : PyData.canLay0 (.str z) = true := by
  show z.cps.all (fun c => decide (c < 0x110000)) = true
  rw [Array.all_eq_true]
  intro i hi
  exact decide_eq_true (Nat.lt_trans (h _ (by simp)) (by decide))
end Vf
namespace Vf
open PySem PySem.Spec PyProof.Rows L2 Evl
/-! ### a text many times -/
theorem rep_fold (c : Array Nat) : ∀ (n : Nat) (acc : Array Nat), ((List.replicate n c).foldl (fun a b => a ++ b) acc).toList = acc.toList ++ (List.replicate n c.toList).flatten
  | 0, acc => by simp
  | n + 1, acc => by
    rw [List.replicate_succ, List.foldl_cons, rep_fold c n, List.replicate_succ, List.flatten_cons]
    simp
theorem mul_cps (x : Str) (n : Nat) : (Txt.mul x (n : Int)).cps.toList = (List.replicate n x.cps.toList).flatten := by
  unfold Txt.mul
  by_cases h0 : n = 0
  · subst h0
    rfl
  · rw [if_neg (by omega)]
    by_cases h1 : ((n : Int) == 1 || x.length == 0) = true
    · rw [if_pos h1]
      rw [Bool.or_eq_true] at h1
      rcases h1 with h1 | h1
      · have e : n = 1 := by have := eq_of_beq h1; omega
        subst e
        simp
      · have e : x.cps.toList = [] := by
          have := eq_of_beq h1
          rw [← List.length_eq_zero_iff, str_len]
          exact this
        rw [e]
        simp
    · rw [if_neg h1, Int.toNat_natCast, rep_fold]
      simp
theorem mul_sg (c n : Nat) : Txt.mul (sg c) (n : Int) = txt (List.replicate n c) := by
  have h := mul_cps (sg c) n
  have e : (sg c).cps.toList = [c] := rfl
  rw [e] at h
  rw [← txt_of (Txt.mul (sg c) (n : Int)), h]
  congr 1
  induction n with
  | zero => rfl
  | succ n ih => rw [List.replicate_succ, List.flatten_cons, List.replicate_succ]; simp
theorem mul_ok {x : Str} {n : Int} (hx : x.length ≤ 1000) (h0 : 0 ≤ n) (h1 : n ≤ 10000) : MulOk x n := by
  refine ⟨?_, fun h _ z => ?_, fun h _ => ?_⟩
  · rw [decide_eq_false (by omega), decide_eq_false (by omega)]
    rfl
  · have : (1000 : Int) ≤ (2 ^ 63 - 1) / n := (Int.le_ediv_iff_mul_le (by omega)).mpr (by omega)
    omega
  · have : x.length * n.toNat ≤ 1000 * 10000 := Nat.mul_le_mul hx (by omega)
    unfold Builtin.Str.tooLong
    exact decide_eq_false (by
      have e : sizeLine = 16777216 := by decide
      omega)
section
variable {X : Cx}
theorem op_mulS : OpR X (binaryOp .Mult) (fun x y H Q => ∃ (z : Str) (n : Int), x = .str z ∧ y = .int n ∧ z.length ≤ 1000 ∧ 0 ≤ n ∧ n ≤ 10000 ∧ Q (.str (Txt.mul z n)) H) := by
  intro pins s σ H x y v u Q I rx ry h
  obtain ⟨z, n, rfl, rfl, hz, h0, h1, q⟩ := h
  obtain ⟨t, rfl⟩ := rx
  obtain ⟨t', rfl⟩ := ry
  exact SB.mul (mul_ok hz h0 h1) fun t' tk => ⟨.str (Txt.mul z n), H, I.tok _, ⟨_, rfl⟩, q⟩
end
end Vf
namespace Vf
open PySem PySem.Spec PyProof.Rows L2 Evl
/-! ### slices of texts -/
theorem cutS_first {z : Str} {w : Nat} : cutS z none (some (w : Int)) = ⟨(z.cps.toList.take w).toArray⟩ := by
  unfold cutS
  have hz : z.length = z.cps.toList.length := by show z.cps.size = _; simp
  rw [HT.sIx_nat, HT.sIx_none, List.drop_zero, Nat.sub_zero]
  congr 2
  by_cases hh : w ≤ z.length
  · rw [Nat.min_eq_left hh]
  · rw [Nat.min_eq_right (by omega), List.take_of_length_le (by omega), List.take_of_length_le (by omega)]
theorem cutS_rest {z : Str} {w : Nat} : cutS z (some (w : Int)) none = ⟨(z.cps.toList.drop w).toArray⟩ := by
  unfold cutS
  have hz : z.length = z.cps.toList.length := by show z.cps.size = _; simp
  rw [HT.sIx_nat, HT.sIx_none]
  congr 1
  by_cases hh : w ≤ z.length
  · rw [Nat.min_eq_left hh, List.take_of_length_le (by rw [List.length_drop]; omega)]
  · rw [Nat.min_eq_right (by omega), Nat.sub_self, List.take_zero, List.drop_eq_nil_of_le (by omega)]
end Vf
namespace Vf
open PySem PySem.Spec PyProof.Rows L2 Evl
/-! ### a text cut at its last sign of a kind -/
section
variable {X : Cx}
theorem mt_rpart : MtR X "str.rpartition" (fun x xs H Q => ∃ a b : Str, x = .str a ∧ xs = [.str b] ∧ (b.length == 0) = false ∧ a.length ≤ sizeLine ∧
    ∀ p, H p = none → Q (.ref p) (upd H p (.tup [.str (Txt.rpartition a b).1, .str (Txt.rpartition a b).2.1, .str (Txt.rpartition a b).2.2]))) := by
  rintro pins s σ H x xs v us Q I rx rs ⟨a, b, rfl, rfl, hb, hz, h⟩
  obtain ⟨ta, rfl⟩ := rx
  obtain ⟨u, rfl, tb, rfl⟩ := vals1 rs
  refine call_meets PySem.F.slot_str_rpartition (typeIs_str _ _ _) PySem.F.entry_str_rpartition (PySem.F.args_str_rpartition_2 _ _) (meets_str_rpartition a b ta tb hb hz) ?_
  revert h
  unfold Txt.rpartition
  cases Builtin.Str.lastOccurrence a b 0 a.length with
  | none => exact fun h => laid_parts I h
  | some i => exact fun h => laid_parts I h
end
/-- what stands behind the last c -/
def behind (c : Nat) (l : List Nat) : List Nat := (l.reverse.takeWhile fun x => decide (x ≠ c)).reverse
theorem behind_none {c : Nat} {l : List Nat} (h : c ∉ l) : behind c l = l := by
  unfold behind
  have e : l.reverse.takeWhile (fun x => decide (x ≠ c)) = l.reverse := by
    have q := List.takeWhile_append_of_pos (p := fun x => decide (x ≠ c)) (l₁ := l.reverse) (l₂ := []) (fun x hx => decide_eq_true fun e => h (by rw [← e]; exact List.mem_reverse.mp hx))
    simpa using q
  rw [e, List.reverse_reverse]
theorem behind_app {c : Nat} {a b : List Nat} (h : c ∉ b) : behind c (a ++ c :: b) = b := by
  unfold behind
  rw [List.reverse_append, List.reverse_cons, List.append_assoc]
  have e : ((b.reverse ++ ([c] ++ a.reverse)).takeWhile fun x => decide (x ≠ c)) = b.reverse := by
    rw [List.takeWhile_append_of_pos]
    · simp
    · intro x hx
      exact decide_eq_true fun e => h (by rw [← e]; exact List.mem_reverse.mp hx)
  rw [e, List.reverse_reverse]
theorem pre1 (c : Nat) (l : List Nat) : TL.pre [c] l = true ↔ ∃ r, l = c :: r := by
  unfold TL.pre
  cases l with
  | nil => simp
  | cons x r =>
    have e : (x :: r).take [c].length = [x] := rfl
    rw [e]
    constructor
    · intro h
      have := eq_of_beq h
      cases this
      exact ⟨r, rfl⟩
    · rintro ⟨r', h⟩
      cases h
      simp
theorem rpart_behind (x : Str) (c : Nat) : (Txt.rpartition x (sg c)).2.2 = txt (behind c x.cps.toList) := by
  have hne : TL.tl (sg c) ≠ [] := fun h => nomatch (show ([c] : List Nat) = [] from h)
  unfold Txt.rpartition
  rcases StrLaws.last_spec x (sg c) with ⟨e, h⟩ | ⟨i, e, h, h2⟩
  · rw [e]
    show x = txt (behind c x.cps.toList)
    rw [behind_none, txt_of]
    intro hm
    obtain ⟨i, hi, ei⟩ := List.getElem_of_mem hm
    refine h i ((TL.at_iff hne i).mpr ((pre1 c _).mpr ⟨x.cps.toList.drop (i + 1), ?_⟩))
    show x.cps.toList.drop i = _
    rw [List.drop_eq_getElem_cons hi, ei]
  · rw [e]
    show Builtin.Str.strSub x (i + (sg c).length) x.length = _
    refine TL.ext_tl ?_
    rw [TL.tl_strSub_end]
    show x.cps.toList.drop (i + 1) = (txt (behind c x.cps.toList)).cps.toList
    rw [txt_cps]
    obtain ⟨r, er⟩ := (pre1 c _).mp ((TL.at_iff hne i).mp h)
    have er2 : x.cps.toList.drop i = c :: r := er
    have e3 : x.cps.toList.drop (i + 1) = r := by
      have : (x.cps.toList.drop i).drop 1 = r := by rw [er2]; rfl
      rw [List.drop_drop] at this
      exact this
    rw [e3]
    have hr : c ∉ r := fun hm => by
      obtain ⟨j, hj, ej⟩ := List.getElem_of_mem hm
      refine h2 (i + 1 + j) (by omega) ((TL.at_iff hne _).mpr ((pre1 c _).mpr ⟨r.drop (j + 1), ?_⟩))
      show x.cps.toList.drop (i + 1 + j) = _
      rw [← List.drop_drop, e3, List.drop_eq_getElem_cons hj, ej]
    have e4 : x.cps.toList = x.cps.toList.take i ++ c :: r := by rw [← er2, List.take_append_drop]
    rw [e4, behind_app hr]
theorem cutS_butlast (z : Str) : cutS z none (some (-1)) = txt z.cps.toList.dropLast := by
  unfold cutS
  have hz : z.length = z.cps.toList.length := (str_len z).symm
  have e : HT.sIx z.length z.length (some (-1)) = z.length - 1 := by
    show (if (-1 : Int) < 0 then ((-1 : Int) + (z.length : Int)).toNat else min (-1 : Int).toNat z.length) = _
    rw [if_pos (by decide)]
    omega
  rw [e, HT.sIx_none, List.drop_zero, Nat.sub_zero, hz, List.dropLast_eq_take]
  rfl
/-! ### places of signs -/
def ixS (z : Str) (c : Nat) : Nat := (Builtin.Str.occurrences z (sg c) 0 z.length 1).headD 0
theorem ix_cons {z : Str} {c : Nat} (h : c ∈ z.cps.toList) : ∃ r, Builtin.Str.occurrences z (sg c) 0 z.length 1 = ixS z c :: r := by
  have q := StrLaws.found_one z c
  rw [decide_eq_true h] at q
  unfold ixS
  have q2 : (!(Builtin.Str.occurrences z (sg c) 0 z.length 1).isEmpty) = true := q
  cases e : Builtin.Str.occurrences z (sg c) 0 z.length 1 with
  | nil => rw [e] at q2; cases q2
  | cons i r => exact ⟨r, rfl⟩
/-- a number's text -/
theorem num_txt (n : Nat) : (Str.ofString (toString ((n : Nat) : Int)) : Str) = txt (TL.numL n) := TL.ext_tl (by rw [TL.tl_num]; exact (txt_cps _).symm)
theorem mem_joinL {S : List Nat} : ∀ {ps : List (List Nat)} {c : Nat}, c ∈ TL.joinL S ps → c ∈ S ∨ ∃ p ∈ ps, c ∈ p
  | [], c, h => by simp [TL.joinL] at h
  | [p], c, h => by
    have h2 : c ∈ p := by simpa [TL.joinL] using h
    exact .inr ⟨p, by simp, h2⟩
  | p :: q :: r, c, h => by
    have h2 : c ∈ p ++ (S ++ TL.joinL S (q :: r)) := by simpa [TL.joinL] using h
    rcases List.mem_append.mp h2 with h2 | h2
    · exact .inr ⟨p, List.mem_cons_self, h2⟩
    · rcases List.mem_append.mp h2 with h2 | h2
      · exact .inl h2
      · rcases mem_joinL h2 with h3 | ⟨x, hx, h3⟩
        · exact .inl h3
        · exact .inr ⟨x, List.mem_cons_of_mem _ hx, h3⟩
theorem log_small {n : Nat} (h : n < 10000000) : ((n : Nat) : Int).natAbs.log2 < 1920 := by
  rw [Int.natAbs_natCast]
  by_cases h0 : n = 0
  · subst h0
    decide
  · exact Nat.lt_of_lt_of_le ((Nat.log2_lt h0).mpr (show n < 2 ^ 24 from Nat.lt_trans h (by decide))) (by decide)
end Vf
namespace Vf
open PySem PySem.Spec PyProof.Rows L2 Evl GxR
/-! ### all(test for a sign in a text), the test may read the module's names -/
/-- the test of the sign c, where the module's names are to be read -/
def EltM (prog : Program) (w : World) (mg : Str → Option Value) (sc : Scope) (y : Str) (tst : Expr) (f : Nat → Bool) : Prop :=
  ∀ (en : Env) (B : Around) (R : Value → Shared → Prop) (c : Nat) (t : Tok) (z : Shared) (m : Str → Option Value), en.scope = sc → en.globals = mainGlobals → z.heap.Ns mainGlobals mg → z.heap.Ns en.locals m → m y = some (.str ⟨#[c]⟩ t) →
    wpAny (model prog w) B (eval tst en) (fun v z' => v = .bool (f c) ∧ Keeps z z') R z
/-- a sign in a text of the module's -/
theorem elt_in {prog : Program} {w : World} {mg : Str → Option Value} {sc : Scope} {y g : Str} {k : Str} {p1 p2 p3 : Pos} (hk : sc.kind = .function) (hy : sc.names.lookup y = some .local) (hg : sc.names.lookup g = some .globalImplicit)
    (hm : ∃ t, mg g = some (.str k t)) (d1 : (y == ("__debug__" : Str)) = false := by decide) (d2 : (g == ("__debug__" : Str)) = false := by decide) :
    EltM prog w mg sc y (.Compare (.Name y p1) [.In] [.Name g p2] p3) (fun c => decide (c ∈ k.cps.toList)) := by
  obtain ⟨tg, hm⟩ := hm
  intro en B R c t z m es eg ng nl hv
  refine wpAny_Compare1 (wpAny_Name (wpAny_loadName_local (by rw [es]; exact hk) (show en.scope.names.lookup y = some .local by rw [es]; exact hy) nl hv ?_) d1)
  refine Calls.Name_function_global (by rw [es]; exact hk) (show en.scope.names.lookup g = some .globalImplicit by rw [es]; exact hg) (Calls.loadGlobal_global (by rw [eg]; exact ng) hm ?_) d2
  refine PyProof.Rows.in_str ⟨?_, keeps_refl _⟩
  show Value.bool (!(Builtin.Str.occurrences k ⟨#[c]⟩ 0 k.length 1).isEmpty) = Value.bool (decide (c ∈ k.cps.toList))
  rw [PySem.StrLaws.found_one k c]
section
variable {X : Cx} {pins : List (Addr × Obj)} {σ : L2.St} {H : Hp} {s : Shared}
theorem gen_text {c T : Addr} {tst src : Expr} {y : Str} {py pz : Pos} {sc : Scope} {f : Nat → Bool} {te : TE} {k : Nat} {Z : Value → Shared → Prop} {R : Str → Hp → Prop}
    (room : Room k X.A) (tab : TabB X.base X.mg c T) (cod : X.env.code = .ref c) (S : GenS X.env sc y) (he : PE X src te) (ht : EltM X.prog X.w X.mg sc y tst f)
    (fold : ∀ v, genFold src X.env v = pure v) (I : Inv X pins σ H s) (h : te σ H fun v H1 => ∃ z : Str, v = .str z ∧ TabG H1 T ∧ R z H1)
    (fin : ∀ z H1 g s', R z H1 → Ready X pins σ H1 T z f g s' → Z (.ref g) s') :
    wpAny (model X.prog X.w) X.A (eval (.GeneratorExp tst [⟨.Name y py, src, [], 0⟩] sc pz) X.env) Z X.xe s := by
  have dep : X.A.depth < recursionLimit := by
    have := room.dp
    omega
  refine wpAny_GeneratorExp_walksQ room.hd S.co (closure_ok S.free) S.cell S.dot S.loc S.kind dep (thn (he.run pins s σ H _ I h) ?_) fold
  rintro xv q ⟨v, J, IJ, rv, z, rfl, ⟨ps, atT, trip⟩, hR⟩
  obtain ⟨tz, rfl⟩ := id rv
  refine wpAny_pyIter_str fun itO St W st0 => ?_
  -- the table ahead of the code's making
  have tab1 : q.heap.get? T = some { cls := .none, data := .fields ps } := IJ.hok T _ atT
  have ltT : T < q.heap.objs.size := Heap.lt_size tab1
  have tab2 : (q.heap.push itO).get? T = some { cls := .none, data := .fields ps } := Heap.get?_push_of_some _ tab1
  have hd2 : PySem.W.CodeHd (q.heap.push itO) c T := tab.code.keeps fun b u e => Heap.get?_push_of_some _ (IJ.bk b u e)
  have noL : (q.heap.push itO).NoLimit := IJ.nolimit.push itO
  have nsM : (q.heap.push itO).Ns mainGlobals X.mg := (IJ.ok.mod.glob.keeps IJ.bk).push itO
  obtain ⟨mS, nsS, _⟩ := id IJ.nolimit
  have ltS : cStatics < q.heap.objs.size := nsS.lt
  have neS : cStatics ≠ T := fun e => by
    obtain ⟨o', es, ep, ho, hd, _⟩ := nsS
    rw [e, tab1] at ho
    cases ho
    cases hd
  have ltM : mainGlobals < q.heap.objs.size := (IJ.ok.mod.glob.keeps IJ.bk).lt
  have after : ∀ (cv : Value) (g : Heap) (n : Nat) (ps2 : Array Value), Heap.ExtBut T (q.heap.push itO) g → (q.heap.push itO).objs.size ≤ g.objs.size → g.get? T = some { cls := .none, data := .fields ps2 } → (∃ mo, ps2 = ps ++ mo) → TriplesOk ps2.toList →
      wpAny (model X.prog X.w) X.A (builtinsFor X.env.globals X.env.builtins) (fun bi r =>
        ∃ Ia fp wr n0 Pf St0 pz F, Value.ref q.heap.objs.size = .ref Ia ∧ (∀ B : Around, B.handled = none → Walks X.prog X.w B Ia fp wr n0 Pf St0) ∧ St0 0 r.heap ∧ (∀ b ∈ fp, b < r.heap.objs.size) ∧ r.heap.NoLimit ∧ cStatics ∉ wr ∧
          (∀ hr : Heap, (∀ b o, r.heap.get? b = some o → hr.get? b = some o) →
            QuietGen X.prog X.w (genEnv sc (cloFrom X.env.cells sc.names []) r.heap.objs.size cv bi X.env) y [] tst (List.range r.heap.objs.size) wr Pf pz F hr) ∧
          (∀ a h5 tk gs, gs.bare = true → r.heap.objs.size < a → h5.objs.size = a + 1 → (∀ b o, r.heap.get? b = some o → h5.get? b = some o) →
            WalksS X.prog X.w X.A.in4 a (a :: r.heap.objs.size :: List.range r.heap.objs.size) (r.heap.objs.size :: wr) (GenOnlyQ r.gens.size) (passing pz n0 0).length
              (fun j v => ∃ i, (passing pz n0 0)[j]? = some i ∧ F i v) (GenAt X.prog X.w X.A.in4 a r.gens.size r.heap.objs.size (List.range r.heap.objs.size) wr pz n0 F) →
            GenAt X.prog X.w X.A.in4 a r.gens.size r.heap.objs.size (List.range r.heap.objs.size) wr pz n0 F 0 { r with gens := r.gens.push gs, toks := tk, heap := h5 } →
            Z (.ref a) { r with gens := r.gens.push gs, toks := tk, heap := h5 })) X.xe { q with heap := g, toks := n } := by
    intro cv g n ps2 ext big tab3 more trip3
    obtain ⟨bm, ob, b1, b2, b3, b4, b5, b6, b7, b8⟩ := tab.bm
    have szP : (q.heap.push itO).objs.size = q.heap.objs.size + 1 := Heap.size_push ..
    have stays : ∀ b u, b ≠ T → q.heap.get? b = some u → g.get? b = some u := fun b u hb e => ext b u hb (Heap.get?_push_of_some _ e)
    have nsG : g.Ns mainGlobals X.mg := nsM.extBut ext tab.gP
    refine wpAny_builtinsFor (m := X.mg) (by rw [IJ.ok.glob]; exact nsG) b1 b2 (stays _ _ b4 (IJ.bk _ _ b5)) b6 b7 b8 ?_
    refine ⟨q.heap.objs.size, [q.heap.objs.size], [q.heap.objs.size], z.cps.size, SignAt z, St, fun _ => true, fun i v => ∃ cc, z.cps[i]? = some cc ∧ v = .bool (f cc), rfl, W, ?_, ?_, noL.extBut ext neS, ?_, ?_, ?_⟩
    · exact (W X.A room.hd).frame _ _ _ st0 fun b hb u e => ext b u (fun zb => Nat.ne_of_lt ltT (zb.symm.trans (List.mem_singleton.mp hb))) e
    · intro b hb
      rw [List.mem_singleton.mp hb]
      exact Nat.lt_of_lt_of_le (by omega) big
    · exact fun zb => Nat.ne_of_lt ltS (List.mem_singleton.mp zb)
    · intro hr hkeep
      refine ⟨fun B R' i v r m hB hP hn hm hk => ?_, fun B R' i v r m hB hP hp hn hm hk => ?_⟩
      · simp only [List.forIn_nil]
        exact wpAny_pure ⟨rfl, keeps_refl _⟩
      · obtain ⟨cc, u, hcc, rfl⟩ := hP
        have nsR : r.heap.Ns mainGlobals X.mg := (nsG.keeps hkeep).at fun o e => hk mainGlobals (List.mem_range.mpr (Nat.lt_of_lt_of_le (Nat.lt_trans ltM (by rw [szP]; exact Nat.lt_succ_self _)) big)) (fun zb => Nat.ne_of_lt ltM (List.mem_singleton.mp zb)) o e
        exact wpAny_mono (ht _ B R' cc u r m rfl IJ.ok.glob nsR hn hm) (fun v r' x => ⟨⟨cc, hcc, x.1⟩, x.2⟩) fun _ _ e => e
    · intro a h5 n5 gs bare lt5 sz5 keep5 W5 at5
      simp only [GxR.passing_true, List.length_range] at W5
      refine fin z J a _ hR ⟨_, _, _, _, _, W5.in4_1, at5, ?_, fun s' mv => ?_⟩
      · rintro j v sj Qj Ej ⟨i, hij, cc, hcc, rfl⟩ hQ
        obtain ⟨hj, ej⟩ := List.getElem?_eq_some_iff.mp hij
        rw [List.getElem_range] at ej
        subst ej
        have e9 : z.cps.toList[j]? = some cc := by rw [Array.getElem?_toList]; exact hcc
        have hQ2 : Qj (trF f z.cps.toList j) sj := hQ
        rw [trF_some e9] at hQ2
        exact wpAny_truthy_bool hQ2
      · obtain ⟨mo, em⟩ := more
        have off : ∀ b u, q.heap.get? b = some u → b ∉ g.objs.size :: [q.heap.objs.size] := fun b u e hb => by
          have hl : b < q.heap.objs.size := Heap.lt_size e
          rcases List.mem_cons.mp hb with zb | zb
          · have h9 : g.objs.size < q.heap.objs.size := zb ▸ hl
            exact absurd (Nat.lt_of_le_of_lt big h9) (by rw [szP]; exact Nat.not_lt.mpr (Nat.le_succ _))
          · exact Nat.ne_of_lt hl (List.mem_singleton.mp zb)
        have K := inv_tab (more := mo) (h' := s'.heap) (g' := s'.gens) (d' := s'.drawn) (t' := s'.toks) IJ atT (fun b u hb e => mv.heap b u (off b u e) (keep5 b u (stays b u hb e)))
          (by rw [← em]; exact mv.heap T _ (off T _ tab1) (keep5 T _ tab3)) (AllBare.movedS (IJ.bare.push bare) mv)
        rw [sh_eta q s' mv.os] at K
        exact ⟨upd J T (.tbl (ps ++ mo)), ⟨⟨ps ++ mo, upd_same, by rw [← em]; exact trip3⟩, fun b hb => upd_ne hb⟩, K⟩
  refine ⟨noL, ?_⟩
  cases hf : codeAmong pz ps.toList with
  | none =>
    refine wpAny_genexprCodeX cod (hd2.code tab2 trip) (hd2.tab tab2) hf fun c2 g n ext ge lt made _ made2 _ => ?_
    obtain ⟨o1, vs, f1, tf, fl, tg, inF, tx, tt, op, _, _, _, _, _, _, _, _, _, trip3, _⟩ := made
    exact after _ g n _ ext (Nat.le_trans ge (Nat.le_of_lt lt)) made2.2 ⟨_, rfl⟩ trip3
  | some cv =>
    exact wpAny_genexprCode_hit cod (hd2.code tab2 trip) hf (after cv _ q.toks ps (Heap.ExtBut.refl _ _) (Nat.le_refl _) tab2 ⟨#[], by simp⟩ trip)
theorem pe_allT {c T : Addr} {tst src : Expr} {y : Str} {py p pos pz : Pos} {sc : Scope} {f : Nat → Bool} {te : TE} {k : Nat}
    (room : Room k X.A) (hg : Gl X "all") (hm : X.mg "all" = none) (tab : TabB X.base X.mg c T) (cod : X.env.code = .ref c) (S : GenS X.env sc y) (hsrc : PE X src te) (ht : EltM X.prog X.w X.mg sc y tst f)
    (fold : ∀ v, genFold src X.env v = pure v)
    (star : starEach [.GeneratorExp tst [⟨.Name y py, src, [], 0⟩] sc pz] X.env = (false, eval (.GeneratorExp tst [⟨.Name y py, src, [], 0⟩] sc pz) X.env) :: starEach [] X.env := by rfl) :
    PE X (.Call (.Name "all" p) [.GeneratorExp tst [⟨.Name y py, src, [], 0⟩] sc pz] [] pos) (tAllS T f te) := by
  refine ⟨fun pins s σ H Q I h => wpAny_Call_Name_kw (ld_blt I hg hm boot_all (PyProof.Rows.callWith_builtin1 ?_ star (by rfl)))⟩
  rw [star]
  refine Calls.spliced_cons (gen_text (R := fun z J => ∀ J2, Tabbed T J J2 → Q (.bl (z.cps.toList.all f)) J2) room tab cod S hsrc ht fold I h ?_)
  rintro z J g s5 hR ⟨fp, wr, G, F, St, W, st0, truth, back⟩
  refine Calls.spliced_nil (call_all_walkS (W.self 0 _ _ _ st0 ⟨g, fp, wr, G, _, F, St, _, rfl, W, st0, truth, fun s' mv => ?_⟩))
  obtain ⟨J2, hT, IJ2⟩ := back s' mv
  exact ⟨.bl _, J2, IJ2, rfl, by rw [all_signs z f]; exact hR J2 hT⟩
end
theorem genS_of {env : Env} {sc : Scope} {y : Str} (h1 : sc.kind = .function) (h2 : sc.isCoroutine = false) (h3 : ∀ z ∈ sc.names, z.2 ≠ .cell) (h4 : sc.names.lookup (".0" : Str) = some NameKind.local) (h5 : sc.names.lookup y = some .local) (h6 : ∀ z ∈ sc.names, z.2 ≠ .free) : GenS env sc y :=
  ⟨h1, h2, h3, h4, h5, fun z hz e => absurd e (h6 z hz)⟩
/-! ### the table, hidden: what codes it holds is left open -/
def TabO (T : Addr) : HO := .ext fun h => ∃ ps : Array Value, TriplesOk ps.toList ∧ h.get? T = some { cls := .none, data := .fields ps }
section
variable {P : Program} {w : World} {K : PySem.W.Frag} {mg : Str → Option Value} {base : Heap} {H H' : Hp} {h h' : Heap} {T : Addr}
theorem tab_open (x : HOk P w H h) (e : H T = some (TabO T)) : ∃ ps : Array Value, TriplesOk ps.toList ∧ HOk P w (upd H T (.tbl ps)) h := by
  obtain ⟨⟨ps, tr, g⟩, _⟩ := (show ObjOk P w H h T (TabO T) from x T _ e)
  refine ⟨ps, tr, fun a o q => ?_⟩
  by_cases ha : a = T
  · subst ha
    rw [upd_same] at q
    cases q
    exact g
  · rw [upd_ne ha] at q
    exact (x a o q).stay (fun _ _ _ z => z) (fun c z => by rw [upd_ne (own_ne e z (fun _ y => by cases y))]; exact z) fun c xs z => by rw [upd_ne (own_ne e z (fun _ y => by cases y))]; exact z
theorem tab_close {ps : Array Value} (x : HOk P w H h) (e : H T = some (.tbl ps)) (tr : TriplesOk ps.toList) : HOk P w (upd H T (TabO T)) h := by
  have g := (show ObjOk P w H h T (.tbl ps) from x T _ e)
  have nt : ∀ c o, H c = some o → (∀ qs, o ≠ .tbl qs) → c ≠ T := fun c o z n y => by
    rw [y, e] at z
    exact n _ (Option.some.inj z).symm
  intro a o q
  by_cases ha : a = T
  · subst ha
    rw [upd_same] at q
    cases q
    exact ⟨⟨ps, tr, g⟩, ⟨_, g⟩, fun h1 h2 ⟨ps, tr, g⟩ k => ⟨ps, tr, k _ g⟩⟩
  · rw [upd_ne ha] at q
    exact (x a o q).stay (fun _ _ _ z => z) (fun c z => by rw [upd_ne (nt c _ z (fun _ y => by cases y))]; exact z) fun c xs z => by rw [upd_ne (nt c _ z (fun _ y => by cases y))]; exact z
end
end Vf
namespace Vf
open PySem PySem.Spec PyProof.Rows L2 Evl GxR
section
variable {P : Program} {w : World} {K : PySem.W.Frag} {mg : Str → Option Value} {base : Heap} {H H' : Hp} {h h' : Heap} {T : Addr}
/-- a def that may let the table grow and changes nothing else: with the table hidden it changes nothing -/
theorem tab_fn {k : Nat} {f : Addr} {fd : FuncData} {ps : List Str} {sp sp' : Sp} (F : FnOk P w K mg base CX0 k f fd ps sp) (hl : ∀ vs H Q E, sp' vs H Q E → vs.length = ps.length)
    (hs : ∀ vs H Q E, sp' vs H Q E → H T = some (TabO T) ∧ ∀ qs : Array Value, TriplesOk qs.toList → sp vs (upd H T (.tbl qs)) (fun v H3 => Tabbed T (upd H T (.tbl qs)) H3 ∧ Q v H) E) : FnOk P w K mg base CX0 k f fd ps sp' := by
  refine ⟨hl, fun A outer s H args us vs Q E hr e0 hb hv h => ?_⟩
  obtain ⟨hT, hq⟩ := hs vs H Q E h
  obtain ⟨qs, tr, ok⟩ := tab_open e0.hok hT
  have off : ∀ c, H c = none → c ≠ T := fun c n e => by
    rw [e, hT] at n
    cases n
  have offS : ∀ c o, H c = some o → (∀ φ, o ≠ .ext φ) → c ≠ T := fun c o q n => own_ne hT q n
  have e1 : Env0 P w K mg base A outer s (upd H T (.tbl qs)) := ⟨e0.frames, e0.mod, fun c o g => ⟨(e0.bs c o g).1, by rw [upd_ne (off c (e0.bs c o g).2)]; exact (e0.bs c o g).2⟩, e0.bsz, e0.funs, fun c g => by rw [upd_ne (off c (e0.frf c g))]; exact e0.frf c g, ok, e0.bare⟩
  refine codeAny_mono (F.run A outer s _ args us vs _ E hr e1 hb hv (hq qs tr)) fun r s' hr => ?_
  cases r with
  | error e => exact hr
  | ok fl =>
    cases fl with
    | ret u =>
      obtain ⟨v, H3, os, bare, un, hok, rv, ⟨⟨ps3, t3, tr3⟩, keep⟩, q⟩ := hr
      have back : upd H3 T (TabO T) = H := by
        funext c
        by_cases hc : c = T
        · rw [hc, upd_same, hT]
        · rw [upd_ne hc, keep c hc, upd_ne hc]
      have ok3 := tab_close hok t3 tr3
      rw [back] at ok3
      refine ⟨v, H, os, bare, ⟨fun c o g n => un.keep c o g (by rw [upd_ne (off c n)]; exact n), fun c o g n => un.slot c o g (by rw [upd_ne (off c n)]; exact n), fun c o g n _ => n, un.there, fun c xs g => g, fun c o u g => g, fun c qs g => ⟨#[], by rw [g]; simp⟩⟩, ok3, rv, q⟩
    | next => exact hr
    | brk => exact hr
    | cont => exact hr
/-- the other way round, where the table is empty at the start and known at the end -/
theorem tab_law {k : Nat} {f : Addr} {fd : FuncData} {ps : List Str} {sp sp' : Sp} (F : FnOk P w K mg base CX0 k f fd ps sp) (hl : ∀ vs H Q E, sp' vs H Q E → vs.length = ps.length)
    (hs : ∀ vs H Q E, sp' vs H Q E → H T = some (.tbl #[]) ∧ sp vs (upd H T (TabO T)) (fun v H3 => H3 T = some (TabO T) ∧ ∀ H4, Q v H4) E) : FnOk P w K mg base CX0 k f fd ps sp' := by
  refine ⟨hl, fun A outer s H args us vs Q E hr e0 hb hv h => ?_⟩
  obtain ⟨hT, hq⟩ := hs vs H Q E h
  have ok : HOk P w (upd H T (TabO T)) s.heap := tab_close e0.hok hT (show TriplesOk [] from True.intro)
  have off : ∀ c, H c = none → c ≠ T := fun c n e => by
    rw [e, hT] at n
    cases n
  have offS : ∀ c o, H c = some o → (∀ qs, o ≠ .tbl qs) → c ≠ T := fun c o q n e => by
    rw [e, hT] at q
    exact n _ (Option.some.inj q).symm
  have e1 : Env0 P w K mg base A outer s (upd H T (TabO T)) := ⟨e0.frames, e0.mod, fun c o g => ⟨(e0.bs c o g).1, by rw [upd_ne (off c (e0.bs c o g).2)]; exact (e0.bs c o g).2⟩, e0.bsz, e0.funs, fun c g => by rw [upd_ne (off c (e0.frf c g))]; exact e0.frf c g, ok, e0.bare⟩
  refine codeAny_mono (F.run A outer s _ args us vs _ E hr e1 hb hv hq) fun r s' hr => ?_
  cases r with
  | error e => exact hr
  | ok fl =>
    cases fl with
    | ret u =>
      obtain ⟨v, H3, os, bare, un, hok, rv, hT3, q⟩ := hr
      obtain ⟨qs, tr, ok3⟩ := tab_open hok hT3
      refine ⟨v, upd H3 T (.tbl qs), os, bare, ⟨fun c o g n => un.keep c o g (by rw [upd_ne (off c n)]; exact n), fun c o g n => un.slot c o g (by rw [upd_ne (off c n)]; exact n), fun c o g n hx => ?_, un.there, fun c xs g => ?_, fun c o u g => ?_, fun c qs2 g => ?_⟩, ok3, rv, q _⟩
      · rw [upd_ne (off c n)]
        exact un.free c o g (by rw [upd_ne (off c n)]; exact n) hx
      · have d := offS c _ g (fun _ z => by cases z)
        rw [upd_ne d]
        exact un.tups c xs (by rw [upd_ne d]; exact g)
      · have d := offS c _ g (fun _ z => by cases z)
        rw [upd_ne d]
        exact un.frzs c o u (by rw [upd_ne d]; exact g)
      · by_cases hc : c = T
        · subst hc
          rw [hT] at g
          cases g
          exact ⟨qs, by rw [upd_same]; simp⟩
        · rw [upd_ne hc]
          exact un.tbls c qs2 (by rw [upd_ne hc]; exact g)
    | next => exact hr
    | brk => exact hr
    | cont => exact hr
end
theorem tabIn_of {K : PySem.W.Frag} {x : Str} {f c T : Addr} {oc e1 : Value} {od e2 : Option Addr} {sl e3 : Array (Option Value)} {fd : FuncData} {vs : Array Value} (a : PySem.W.nsIn K mainGlobals x = some (some (.ref f))) (l : K.lookup f = some ⟨oc, od, .func fd, sl⟩)
    (hc : fd.code = .ref c) (lc : K.lookup c = some ⟨e1, e2, .fields vs, e3⟩) (v : vs[11]? = some (.ref T)) : PySem.W.tabIn K x = some (c, T) := by
  unfold PySem.W.tabIn
  rw [a]
  simp only [l, hc, lc, v]
/-- the law's own end, where one def's table of codes is told -/
theorem walk_tab {l : PySem.W.OpenLaw} {n k : Nat} {q : Program} {loose : List Str} {XP : (Str → Option Value) → Heap → Prop} {YP : World → Heap → Prop} {d dy : DefRec} {K : Params → PySem.W.Frag} {x y : Str} {sp : Addr → PySem.W.Frag → Sp}
    (hn : l.most = some n) (hn2 : n ≤ sizeLine) (hdf : d.params.defaults = []) (room : Room k callerA) (hrec : (recsOf q).find? (fun e => e.name == y) = some dy)
    (hY : ∀ (w : World) (h : Heap), YP w h → (K w.params).In h)
    (F : ∀ (w : World) (mg : Str → Option Value) (fa : Addr) (h : Heap), (K w.params).In h → h.Ns mainGlobals mg → mg d.name = some (.ref fa) → ∃ (c T : Addr) (fd : FuncData), PySem.W.tabIn (K w.params) y = some (c, T) ∧ (K w.params).lookup T = none ∧
      (∀ (s : Shared) (u : Value), BindsTo s fd ⟨[u], []⟩ [(x, u)]) ∧ ∀ base : Heap, (K w.params).In base → base.Ns mainGlobals mg → TabB base mg c T → FnOk l.prog w (K w.params) mg base CX0 k fa fd [x] (sp T (K w.params)))
    (hsp : ∀ (T : Addr) (K : PySem.W.Frag) (H : Hp) (a : Addr) (ns : List Int), ns.length ≤ n → H T = some (.tbl #[]) → SqL K H a (ns.map V.int) → sp T K [.ref a] H (fun v _ => v = .bl true) fun _ _ _ => False) :
    PySem.W.WalkO q loose XP YP l.row.toRowW d [] (fun f vs => PySem.call f vs) := by
  refine Att.attach_callB hn hdf fun w s0 s1 mg mb fa o pm cd doc a vs ns top inY eo ed ec em ea areI short bits gens => ?_
  have inK := hY w _ inY
  obtain ⟨c, T, fd, tabk, noT, binds, hF⟩ := F w mg fa _ inK top.T.g em
  obtain ⟨hd, emp⟩ := PySem.W.tab_of top.T inK hrec tabk
  exact LamX.law_callTs (cs := [(c, T)]) inK top.T.g top.T.b top.T.builtins top.T.nolimit gens (fun p hp => by rw [List.mem_singleton.mp hp]; exact emp) (fun p hp => by rw [List.mem_singleton.mp hp]; exact noT) (fun p hp => by rw [List.mem_singleton.mp hp]; exact hd)
    top.T.bmain ea areI (Nat.le_trans short hn2) room (fun base h1 h2 h3 => hF base h1 h2 (let z := h3 (c, T) (List.mem_singleton.mpr rfl); ⟨z.code, z.bm, z.gP⟩)) binds (fun H hH hS => hsp T _ H a ns short (hH (c, T) (List.mem_singleton.mpr rfl)) hS) fun H e s' z => z
end Vf
namespace Vf
open PySem PySem.Spec PyProof.Rows L2
/-! ### the text by places -/
def topS (i : Nat) : Stmt := PySem.Challenge.pw_attachhall_k05_letters_packed.main.body.getD i (.Pass ⟨0, 0, 0, 0⟩)
end Vf
namespace Vf
open PySem PySem.Spec PyProof.Rows L2 Evl
/-! ### the box of numbers -/
abbrev sBeg : Stmt := topS 14
theorem scBeg : FnScope ["_law_script", "_law_stirred", "_law_cell"] ["_law_script"] (defScope sBeg) := ⟨rfl, rfl, rfl, by decide +kernel, rfl, by decide +kernel, by decide +kernel⟩
structure TBeg (mg : Str → Option Value) : Prop where
  z_list : mg "list" = none
  z_int : mg "int" = none
  z_len : mg "len" = none
section
variable {P : Program} {w : World} {K : PySem.W.Frag} {mg : Str → Option Value} {base : Heap}
def spBegO (K : PySem.W.Frag) : Sp := fun vs H Q _ => ∃ (a : Addr) (ns : List Int), vs = [.ref a] ∧ SqL K H a (ns.map V.int) ∧ ns.length ≤ 63 ∧
  ∀ (b l : Addr) (z : Int) (ns' : List Int) (H' : Hp), b ≠ l → Ex H H' → H b = none → H l = none → H' b = some (.lst [.ref l, .int z]) → H' l = some (.lst (ns'.map V.int)) → Q (.ref b) H'
def spBeg (K : PySem.W.Frag) : Sp := fun vs H Q _ => ∃ (a : Addr) (ns : List Int), vs = [.ref a] ∧ SqL K H a (ns.map V.int) ∧ ns.length ≤ 63 ∧
  ∀ (b l : Addr) (H' : Hp), Ex H H' → Box H' b l → Q (.ref b) H'
theorem ok_begun0 {f : Addr} {fd : FuncData} (F : Fun K "_law_begun" "_law_begun" sBeg f fd) (T : TBeg mg) : FnOk P w K mg base CX0 1 f fd ["_law_script"] (spBegO K) := by
  refine F.ok scBeg (fun vs H Q E h => ?_) (fun cdv A outer s H vs Q E hr h => ?_)
  · obtain ⟨a, ns, rfl, _⟩ := h
    rfl
  · obtain ⟨a, ns, rfl, hS, hlen, q⟩ := h
    refine ⟨_, (pss_cons (ps_set (i := 1) scBeg.nd rfl (Or.inl rfl) pe_int)
      (pss_cons (ps_for PassesOwn.never rfl (pi_list (pv 0)) (pg_name (i := 2) scBeg.nd rfl (Or.inl rfl)) (pss_one (ps_set (i := 1) scBeg.nd rfl (Or.inl rfl) (pe_op op_mod (pe_op op_add (pe_op op_add (pe_op op_mul (pv 1) pe_int) (pe_op op_mul (pv 2) pe_int)) pe_int) pe_int))))
      (pss_one (ps_ret (pe_lst (pa_cons (pe_callTy call_list_of (by rfl) T.z_list boot_list (pa_cons (pv 0) pa_nil)) (pa_cons (pe_op op_mul (pv 1) (pe_callTy call_int1 (by rfl) T.z_int boot_int (pa_cons (pe_cmpR op_gt (pe_callB call_len_seq (by rfl) T.z_len PySem.boot_len (pa_cons (pv 0) pa_nil)) pe_int (nomark _)) pa_nil))) pa_nil))))))), ?_⟩
    refine ⟨.ref a, rfl, a, rfl, ⟨_, hS⟩, for_list (K := K) (a := a) (xs := ns.map V.int) (fun i σ H' => ∃ (z : Int) (c : Option V), σ = [some (.ref a), some (.int z), c] ∧ -(2 ^ 64) < z ∧ z < 2 ^ 64 ∧ H' = H)
      ⟨0, none, rfl, by decide, by decide, rfl⟩ (fun i σ H' _ ⟨_, _, _, _, _, e⟩ => by rw [e]; exact hS) ?_ ?_⟩
    · rintro i y σ H' hi ⟨z, c, rfl, h1, h2, rfl⟩
      obtain ⟨u, rfl⟩ : ∃ u, y = V.int u := by
        rw [List.getElem?_map] at hi
        cases e : ns[i]? with
        | none =>
          rw [e] at hi
          cases hi
        | some u =>
          rw [e] at hi
          exact ⟨u, (Option.some.inj hi).symm⟩
      refine ⟨_, rfl, z, 48271, rfl, rfl, .inl ⟨h1, h2⟩, _, rfl, u, 69621, rfl, rfl, .inr (by decide), _, _, rfl, rfl, _, _, rfl, rfl, _, _, rfl, rfl, (by show (0 : Int) < 2147483647; decide), ?_⟩
      refine ⟨_, _, rfl, ?_, ?_, rfl⟩
      · exact Int.lt_of_lt_of_le (by decide) (Int.emod_nonneg _ (by decide))
      · exact Int.lt_of_lt_of_le (Int.emod_lt_of_pos _ (by decide)) (by decide)
    · rintro σ H' ⟨z, c, rfl, h1, h2, rfl⟩
      refine ⟨.ref a, rfl, a, _, rfl, .inl hS, fun l nl => ?_⟩
      have kl : Ex H' (upd H' l (.lst (ns.map V.int))) := Ex.new nl
      have hl : upd H' l (.lst (ns.map V.int)) l = some (.lst (ns.map V.int)) := upd_same
      generalize upd H' l (.lst (ns.map V.int)) = H1 at kl hl ⊢
      have fin : ∀ (k : Bool) (Q' : VK), Q' = Q → (rI CMul fun i j => .int (i * j)) (.int z) (.int (if k then 1 else 0)) H1 fun x H2 => (fun xs H3 => xs.length ≤ sizeLine ∧ ∀ p, H3 p = none → Q' (.ref p) (upd H3 p (.lst xs))) [.ref l, x] H2 := fun k Q' e => by
        subst e
        refine ⟨_, _, rfl, rfl, .inl ⟨h1, h2⟩, (by show 2 ≤ sizeLine; decide), fun b nb => ?_⟩
        have hbl : b ≠ l := (ne_of_none hl nb).symm
        exact q b l _ ns _ hbl (kl.trans (Ex.new nb)) (by
          cases e : H' b with
          | none => rfl
          | some o => rw [kl _ _ e] at nb; cases nb) nl upd_same (by rw [upd_ne hbl.symm]; exact hl)
      refine ⟨.int z, rfl, .ref a, rfl, a, _, rfl, .inl (ex_l kl hS), _, _, rfl, rfl, .inr ⟨_, rfl, ?_⟩⟩
      exact fin _ _ rfl
theorem ok_begun {f : Addr} {fd : FuncData} (F : Fun K "_law_begun" "_law_begun" sBeg f fd) (T : TBeg mg) : FnOk P w K mg base CX0 1 f fd ["_law_script"] (spBeg K) := by
  have G : FnOk P w K mg base CX0 1 f fd ["_law_script"] (spBegO K) := ok_begun0 F T
  refine ⟨fun vs H Q E h => ?_, fun A outer s H args us vs Q E hr e0 hb hv h => ?_⟩
  · obtain ⟨a, ns, rfl, _⟩ := h
    rfl
  · obtain ⟨a, ns, rfl, hS, hlen, q⟩ := h
    refine codeAny_mono (G.run A outer s H args us [.ref a] (fun v H2 => ∃ b l z ns, v = .ref b ∧ b ≠ l ∧ Ex H H2 ∧ H b = none ∧ H l = none ∧ H2 b = some (.lst [.ref l, .int z]) ∧ H2 l = some (.lst (ns.map V.int))) E hr e0 hb hv
      ⟨a, ns, rfl, hS, hlen, fun b l z ns' H' h1 h2 h3 h4 h5 h6 => ⟨b, l, z, ns', rfl, h1, h2, h3, h4, h5, h6⟩⟩) fun r s' hq => ?_
    cases r with
    | error e => exact hq
    | ok fl =>
      cases fl with
      | ret u =>
        obtain ⟨v, H2, os, bare, un, hok, rv, b, l, z, ns2, rfl, hne, ex, n1, n2, hb2, hl2⟩ := hq
        exact ⟨.ref b, closed H2 b l, os, bare, un_new un n1 n2 hb2 hl2, hok_close hok hb2 hl2, rv, q b l _ (ex_new2 ex n1 n2) ⟨hne, upd_same, by unfold closed; rw [upd_ne (Ne.symm hne), upd_same]⟩⟩
      | next => exact hq
      | brk => exact hq
      | cont => exact hq
end
end Vf
namespace Vf
open PySem PySem.Spec PyProof.Rows L2 Evl
/-! ### a draw -/
abbrev sTak : Stmt := topS 15
theorem scTak : FnScope ["_law_box", "_law_many", "_law_number"] ["_law_box", "_law_many"] (defScope sTak) := ⟨rfl, rfl, rfl, by decide +kernel, rfl, by decide +kernel, by decide +kernel⟩
section
variable {P : Program} {w : World} {K : PySem.W.Frag} {mg : Str → Option Value} {base : Heap}
theorem ok_take {f : Addr} {fd : FuncData} (F : Fun K "_law_take" "_law_take" sTak f fd) (m : Int) (h0 : 0 < m) (h1 : m < 1073741824) :
    FnOk P w K mg base CX0 1 f fd ["_law_box", "_law_many"] (spOpen (fun v => ∃ i, v = V.int i ∧ 0 ≤ i ∧ i < m) (fun r => r = [V.int m])) := by
  refine F.ok scTak (fun vs H Q E h => ?_) (fun cdv A outer s H vs Q E hr h => ?_)
  · obtain ⟨b, l, z, ns, rest, rfl, rfl, _⟩ := h
    rfl
  · obtain ⟨b, l, z, ns, rest, rfl, rfl, hne, hb, hl, q⟩ := h
    refine ⟨_, (pss_cons (ps_if (pt_cmpR (op_eqD hr.units) (pe_ix ix_list (pv 0) pe_int (fun _ _ => rfl)) (pe_lst pa_nil) (nomark _)) (pss_cons (ps_asg (pe_op op_mod (pe_op op_mul (pe_ix ix_list (pv 0) pe_int (fun _ _ => rfl)) pe_int) pe_int) (pg_sub (pv 0) pe_int set_list))
      (pss_one (ps_ret (pe_op op_mod (pe_op op_fdivN (pe_ix ix_list (pv 0) pe_int (fun _ _ => rfl)) pe_int) (pv 1))))) pss_nil)
      (pss_cons (ps_set (i := 2) scTak.nd rfl (Or.inl rfl) (pe_ix ix_list (pe_ix ix_list (pv 0) pe_int (fun _ _ => rfl)) pe_int (fun _ _ => rfl)))
      (pss_cons (ps_asg (pe_op op_fdivN (pv 2) (pv 1)) (pg_sub (pe_ix ix_list (pv 0) pe_int (fun _ _ => rfl)) pe_int set_list))
      (pss_cons (ps_if (PW.pt (pw_or (pt_cmpR op_eq (pe_ix ix_list (pe_ix ix_list (pv 0) pe_int (fun _ _ => rfl)) pe_int (fun _ _ => rfl)) pe_int (nomark _)) (pw_or1 (pt_cmpR op_eq (pe_ix ix_list (pe_ix ix_list (pv 0) pe_int (fun _ _ => rfl)) pe_int (fun _ _ => rfl)) (pe_un un_neg pe_int) (nomark _))))) (pss_one (ps_expr (pe_bm PySem.F.plainAttrs_list PySem.F.slot_list_pop PySem.F.type_list_pop mt_popAt (pe_ix ix_list (pv 0) pe_int (fun _ _ => rfl)) (pa_cons pe_int pa_nil)))) pss_nil)
      (pss_one (ps_ret (pe_op op_mod (pv 2) (pv 1)))))))), ?_⟩
    have hmod : ∀ i : Int, ∃ j, V.int (i % m) = V.int j ∧ 0 ≤ j ∧ j < m := fun i => ⟨i % m, rfl, Int.emod_nonneg _ (by omega), Int.emod_lt_of_pos _ h0⟩
    refine ⟨.ref b, rfl, b, _, 0, .ref l, rfl, rfl, SqL.of hb, atI_nat (j := 0) rfl, Nat.zero_le _, fun p np => ?_⟩
    have kp : ∀ c o, H c = some o → (upd H p (.lst [])) c = some o := fun c o e => by rw [upd_ne (ne_of_none e np)]; exact e
    have hb1 := kp _ _ hb
    have hl1 := kp _ _ hl
    have pp : (upd H p (.lst [])) p = some (.lst []) := upd_same
    generalize upd H p (HO.lst []) = H1 at kp hb1 hl1 pp ⊢
    refine ⟨.list (ns.map PyData.int), .list [], .lst (SqL.of hl1) (dp_ints ns), .lst (SqL.of pp) .nil, sh_ints ns, rfl, _, rfl, ?_⟩
    rw [eqv_nil]
    refine ite2 (fun e => ?_) (fun e => ?_)
    · have e0 : ns = [] := of_decide_eq_true e
      subst e0
      -- the second number turned on
      refine ⟨.ref b, rfl, b, _, 1, .int z, rfl, rfl, SqL.of hb1, atI_nat (j := 1) rfl, _, _, rfl, rfl, .inr (by decide), _, _, rfl, rfl, (by show (0 : Int) < 2147483647; decide), .ref b, rfl, b, _, 1, 1, rfl, rfl, hb1, rfl, ?_⟩
      refine ⟨.ref b, rfl, b, _, 1, .int (z * 48271 % 2147483647), rfl, rfl, SqL.of upd_same, atI_nat (j := 1) rfl, _, _, rfl, rfl, ⟨by decide, by decide⟩, _, rfl, _, _, rfl, rfl, h0, ?_⟩
      refine q _ _ (z * 48271 % 2147483647) [] (hmod _) (fun c o h2 h3 e => by rw [upd_ne h2]; exact kp c o e) upd_same (by rw [upd_ne (Ne.symm hne)]; exact hl1)
    · have e0 : ns ≠ [] := fun z => e (decide_eq_true z)
      obtain ⟨n, r, rfl⟩ : ∃ n r, ns = n :: r := by
        cases ns with
        | nil => exact absurd rfl e0
        | cons n r => exact ⟨n, r, rfl⟩
      refine ⟨.ref b, rfl, b, _, 0, .ref l, rfl, rfl, SqL.of hb1, atI_nat (j := 0) rfl, l, _, 0, .int n, rfl, rfl, SqL.of hl1, atI_nat (j := 0) rfl, ?_⟩
      refine ⟨.int n, rfl, .int m, rfl, _, _, rfl, rfl, ⟨by omega, by omega⟩, .ref b, rfl, b, _, 0, .ref l, rfl, rfl, SqL.of hb1, atI_nat (j := 0) rfl, l, _, 0, 0, rfl, rfl, hl1, ixN_nat (j := 0) (by simp), ?_⟩
      have hb2 : upd H1 l (.lst (((n :: r).map V.int).set 0 (.int (n.fdiv m)))) b = some (.lst [.ref l, .int z]) := by rw [upd_ne hne]; exact hb1
      have hl2 : upd H1 l (.lst (((n :: r).map V.int).set 0 (.int (n.fdiv m)))) l = some (.lst ((n.fdiv m :: r).map V.int)) := upd_same
      have kp2 : ∀ c o, c ≠ l → H c = some o → upd H1 l (.lst (((n :: r).map V.int).set 0 (.int (n.fdiv m)))) c = some o := fun c o h e => by rw [upd_ne h]; exact kp c o e
      generalize upd H1 l (.lst (((n :: r).map V.int).set 0 (.int (n.fdiv m)))) = H2 at hb2 hl2 kp2 ⊢
      have fin : ∀ (H' : Hp) (ns' : List Int), (∀ c o, c ≠ b → c ≠ l → H c = some o → H' c = some o) → H' b = some (.lst [.ref l, .int z]) → H' l = some (.lst (ns'.map V.int)) → Q (.int (n % m)) H' := fun H' ns' h2 h3 h4 => q _ _ z ns' (hmod _) h2 h3 h4
      have fin2 : ∀ (H' : Hp) (ns' : List Int), (∀ c o, c ≠ b → c ≠ l → H c = some o → H' c = some o) → H' b = some (.lst [.ref l, .int z]) → H' l = some (.lst (ns'.map V.int)) →
          tRet (tOp (rI (fun _ j => 0 < j) fun i j => .int (i % j)) (tVar 2) (tVar 1)) { nx := fun _ H' => Q .non H', rt := Q } [some (V.ref b), some (V.int m), some (V.int n)] H' :=
        fun H' ns' h2 h3 h4 => ⟨.int n, rfl, .int m, rfl, _, _, rfl, rfl, h0, fin H' ns' h2 h3 h4⟩
      have pop : tDrop (tBM K "list" rPopAt (tOp (rIxL K) (tVar 0) (tC (.int 0))) (tCons (tC (.int 0)) tNil)) { nx := fun σ H => tRet (tOp (rI (fun _ j => 0 < j) fun i j => .int (i % j)) (tVar 2) (tVar 1)) { nx := fun _ H' => Q .non H', rt := Q } σ H, rt := Q } [some (V.ref b), some (V.int m), some (V.int n)] H2 := by
        refine ⟨.ref b, rfl, b, _, 0, .ref l, rfl, rfl, SqL.of hb2, atI_nat (j := 0) rfl, .inl ⟨rfl, _, SqL.of hl2⟩, l, _, 0, 0, .int (n.fdiv m), rfl, rfl, hl2, by decide, by decide, seq0 _ _, rfl, ?_⟩
        exact fin2 _ r (fun c o _ h3 e => by rw [upd_ne h3]; exact kp2 c o h3 e) (by rw [upd_ne hne]; exact hb2) upd_same
      refine ⟨.ref b, rfl, b, _, 0, .ref l, rfl, rfl, SqL.of hb2, atI_nat (j := 0) rfl, l, _, 0, .int (n.fdiv m), rfl, rfl, SqL.of hl2, atI_nat (j := 0) rfl, rfl, _, rfl, ?_⟩
      refine ite2 (fun _ => iteT pop) (fun _ => ?_)
      refine ⟨.ref b, rfl, b, _, 0, .ref l, rfl, rfl, SqL.of hb2, atI_nat (j := 0) rfl, l, _, 0, .int (n.fdiv m), rfl, rfl, SqL.of hl2, atI_nat (j := 0) rfl, 1, rfl, rfl, _, rfl, ?_⟩
      exact ite2 (fun _ => pop) (fun _ => fin2 H2 _ (fun c o _ h3 e => kp2 c o h3 e) hb2 hl2)
def spTak : Sp := fun vs H Q _ => ∃ (b l : Addr) (m : Int), vs = [.ref b, .int m] ∧ Box H b l ∧ 0 < m ∧ m < 1073741824 ∧ ∀ (i : Int) (H' : Hp), Ex H H' → 0 ≤ i → i < m → Q (.int i) H'
theorem ok_take2 {f : Addr} {fd : FuncData} (F : Fun K "_law_take" "_law_take" sTak f fd) : FnOk P w K mg base CX0 1 f fd ["_law_box", "_law_many"] spTak := by
  have G := hide_fn (P := P) (w := w) (K := K) (mg := mg) (base := base) (k := 1) (f := f) (fd := fd) (ps := ["_law_box", "_law_many"]) (R := fun r v => ∃ m i, r = [V.int m] ∧ v = V.int i ∧ 0 ≤ i ∧ i < m) (pre := fun r => ∃ m, r = [V.int m] ∧ 0 < m ∧ m < 1073741824)
    (fun r0 ⟨m, e, h0, h1⟩ => (ok_take F m h0 h1).imp fun vs H Q E ⟨b, l, z, ns, rest, e1, e2, e3, e4, e5, q⟩ => ⟨b, l, z, ns, rest, e1, e2.trans e, e3, e4, e5, fun v H' z' ns' ⟨i, x1, x2, x3⟩ => q v H' z' ns' ⟨m, i, e, x1, x2, x3⟩⟩)
    (fun r ⟨m, e, _⟩ => by rw [e]; rfl)
  refine G.imp fun vs H Q E ⟨b, l, m, e, B, h0, h1, q⟩ => ⟨b, l, [.int m], e, ⟨m, rfl, h0, h1⟩, B, fun v H' ⟨m', i, x1, x2, x3, x4⟩ ex => ?_⟩
  have em : m = m' := V.int.inj (List.cons.inj x1).1
  subst em
  subst x2
  exact q i H' ex x3 x4
end
structure CTak (P : Program) (w : World) (K : PySem.W.Frag) (mg : Str → Option Value) (base : Heap) : Prop where
  law_take : Cal P w K mg base "_law_take" 1 ["_law_box", "_law_many"] spTak
end Vf
namespace Vf
open PySem PySem.Spec PyProof.Rows L2 Evl
/-! ### the same data -/
abbrev sAli : Stmt := topS 16
theorem scAli : FnScope ["_law_found", "_law_due", "_law_k"] ["_law_found", "_law_due"] (defScope sAli) := ⟨rfl, rfl, rfl, by decide +kernel, rfl, by decide +kernel, by decide +kernel⟩
structure TAli (mg : Str → Option Value) : Prop where
  z_bool : mg "bool" = none
  z_int : mg "int" = none
  z_str : mg "str" = none
  z_list : mg "list" = none
  z_tuple : mg "tuple" = none
  z_isinstance : mg "isinstance" = none
  z_len : mg "len" = none
  z_range : mg "range" = none
def spAli (K : PySem.W.Frag) (n : Nat) : Sp := fun vs H Q _ => ∃ (x y : V) (d : PyData), vs = [x, y] ∧ Dp K H x d ∧ Dp K H y d ∧ good n d = true ∧ n ≤ 60 ∧ Q (.bl true) H
theorem isi_of {K : PySem.W.Frag} {H : Hp} {x : V} {t u : String} {b : Bool} {Q : VK} (ty : TyX K H x (.type t)) (h : kitB t u = some b) (q : Q (.bl b) H) : rIsi K [x, .ty u] H Q := ⟨x, .ty u, _, _, b, rfl, .ty u, ty, kit_ty h, q⟩
theorem sh_of {d : PyData} {n : Nat} (h : PyData.canLay0 d = true) (hd : PyData.depth d ≤ n) (hn : n ≤ 60) : SeqAt.shaped d = true := by
  show (PyData.canLay0 d && decide (PyData.depth d ≤ 64)) = true
  rw [h, decide_eq_true (by omega)]
  rfl
theorem dpall_get {K : PySem.W.Frag} {H : Hp} : ∀ {xs : List V} {ds : List PyData} {i : Nat} {d : PyData}, DpAll K H xs ds → ds[i]? = some d → ∃ x, xs[i]? = some x ∧ Dp K H x d
  | _, _, _, _, .nil, e => by simp at e
  | _, _, 0, _, .cons h _, e => by
    simp at e
    subst e
    exact ⟨_, rfl, h⟩
  | _, _, i + 1, _, .cons _ t, e => by
    obtain ⟨x, h1, h2⟩ := dpall_get (i := i) t (by simpa using e)
    exact ⟨x, by simpa using h1, h2⟩
theorem dpall_len {K : PySem.W.Frag} {H : Hp} : ∀ {xs : List V} {ds : List PyData}, DpAll K H xs ds → xs.length = ds.length
  | _, _, .nil => rfl
  | _, _, .cons _ t => by rw [List.length_cons, List.length_cons, dpall_len t]
theorem depth_get : ∀ {ds : List PyData} {i : Nat} {d : PyData}, ds[i]? = some d → PyData.depth d ≤ PyData.depthAll ds
  | [], _, _, e => by simp at e
  | x :: r, 0, d, e => by
    simp at e
    subst e
    exact Nat.le_max_left _ _
  | x :: r, i + 1, d, e => Nat.le_trans (depth_get (ds := r) (i := i) (by simpa using e)) (Nat.le_max_right _ _)
theorem lay_get : ∀ {ds : List PyData} {i : Nat} {d : PyData}, PyData.canLayAll0 ds = true → ds[i]? = some d → PyData.canLay0 d = true
  | [], _, _, _, e => by simp at e
  | x :: r, 0, d, h, e => by
    simp at e
    subst e
    exact (Bool.and_eq_true_iff.mp (show (PyData.canLay0 x && PyData.canLayAll0 r) = true from h)).1
  | x :: r, i + 1, d, h, e => lay_get (ds := r) (i := i) (Bool.and_eq_true_iff.mp (show (PyData.canLay0 x && PyData.canLayAll0 r) = true from h)).2 (by simpa using e)
theorem ty_list {K : PySem.W.Frag} {H : Hp} {a : Addr} {xs : List V} (h : SqL K H a xs) : TyX K H (.ref a) (.type "list") := by
  rcases h with (h | ⟨o, h⟩) | h
  · exact .base (.lst h)
  · exact .base (.frz h)
  · obtain ⟨_, _, _, h, c, _⟩ := h
    exact .kList h c
theorem ty_tup {K : PySem.W.Frag} {H : Hp} {a : Addr} {xs : List V} (h : SqT K H a xs) : TyX K H (.ref a) (.type "tuple") := by
  rcases h with (h | ⟨o, h⟩) | h
  · exact .base (.tup h)
  · exact .fTuple h
  · obtain ⟨_, _, _, h, c, _⟩ := h
    exact .kTuple h c
section
variable {P : Program} {w : World} {K : PySem.W.Frag} {mg : Str → Option Value} {base : Heap}
structure CAli (P : Program) (w : World) (K : PySem.W.Frag) (mg : Str → Option Value) (base : Heap) (k : Nat) (sp : Sp) : Prop where
  law_alike : Cal P w K mg base "_law_alike" k ["_law_found", "_law_due"] sp
theorem ok_alike1 {f : Addr} {fd : FuncData} {k n : Nat} {sp : Sp} (F : Fun K "_law_alike" "_law_alike" sAli f fd) (T : TAli mg) (C : CAli P w K mg base k sp)
    (hC : ∀ (x y : V) (d : PyData) (H : Hp) (Q : VK) (E : XK), Dp K H x d → Dp K H y d → (∃ m, n = m + 1 ∧ good m d = true) → n ≤ 60 → Q (.bl true) H → sp [x, y] H Q E) : FnOk P w K mg base CX0 (k + 1) f fd ["_law_found", "_law_due"] (spAli K n) := by
  refine F.ok scAli (fun vs H Q E h => ?_) (fun cdv A outer s H vs Q E hr h => ?_)
  · obtain ⟨x, y, d, rfl, _⟩ := h
    rfl
  · obtain ⟨x, y, d, rfl, hx, hy, hg, hn, q⟩ := h
    obtain ⟨hl, hd⟩ := good_lay n d hg
    refine ⟨_, (pss_cons (ps_if (pt_cmpR op_isN (pv 1) pe_non (nomark _)) (pss_one (ps_ret (pe_cmpR op_isN (pv 0) pe_non (nomark _)))) pss_nil)
      (pss_cons (ps_if (pt_val (pe_callB call_isi (by rfl) T.z_isinstance boot_isinstance (pa_cons (pv 1) (pa_cons (pe_bltn (v := .ty "bool") (by rfl) T.z_bool boot_bool rfl) pa_nil)))) (pss_one (ps_ret (pe_and (pe_callB call_isi (by rfl) T.z_isinstance boot_isinstance (pa_cons (pv 0) (pa_cons (pe_bltn (v := .ty "bool") (by rfl) T.z_bool boot_bool rfl) pa_nil))) (pe_one (pe_cmpR (op_eqD hr.units) (pv 0) (pv 1) (nomark _)))))) pss_nil)
      (pss_cons (ps_if (pt_val (pe_callB call_isi (by rfl) T.z_isinstance boot_isinstance (pa_cons (pv 1) (pa_cons (pe_bltn (v := .ty "int") (by rfl) T.z_int boot_int rfl) pa_nil)))) (pss_one (ps_ret (pe_and (pe_callB call_isi (by rfl) T.z_isinstance boot_isinstance (pa_cons (pv 0) (pa_cons (pe_bltn (v := .ty "int") (by rfl) T.z_int boot_int rfl) pa_nil))) (pe_and (pe_not (pe_callB call_isi (by rfl) T.z_isinstance boot_isinstance (pa_cons (pv 0) (pa_cons (pe_bltn (v := .ty "bool") (by rfl) T.z_bool boot_bool rfl) pa_nil)))) (pe_one (pe_cmpR (op_eqD hr.units) (pv 0) (pv 1) (nomark _))))))) pss_nil)
      (pss_cons (ps_if (pt_val (pe_callB call_isi (by rfl) T.z_isinstance boot_isinstance (pa_cons (pv 1) (pa_cons (pe_bltn (v := .ty "str") (by rfl) T.z_str boot_str rfl) pa_nil)))) (pss_one (ps_ret (pe_and (pe_callB call_isi (by rfl) T.z_isinstance boot_isinstance (pa_cons (pv 0) (pa_cons (pe_bltn (v := .ty "str") (by rfl) T.z_str boot_str rfl) pa_nil))) (pe_one (pe_cmpR (op_eqD hr.units) (pv 0) (pv 1) (nomark _)))))) pss_nil)
      (pss_cons (ps_if (PW.pt (pw_or (pt_cmpR op_ne (pe_callB call_isi (by rfl) T.z_isinstance boot_isinstance (pa_cons (pv 1) (pa_cons (pe_bltn (v := .ty "tuple") (by rfl) T.z_tuple boot_tuple rfl) pa_nil))) (pe_callB call_isi (by rfl) T.z_isinstance boot_isinstance (pa_cons (pv 0) (pa_cons (pe_bltn (v := .ty "tuple") (by rfl) T.z_tuple boot_tuple rfl) pa_nil))) (nomark _)) (pw_or1 (pt_cmpR op_ne (pe_callB call_isi (by rfl) T.z_isinstance boot_isinstance (pa_cons (pv 1) (pa_cons (pe_bltn (v := .ty "list") (by rfl) T.z_list boot_list rfl) pa_nil))) (pe_callB call_isi (by rfl) T.z_isinstance boot_isinstance (pa_cons (pv 0) (pa_cons (pe_bltn (v := .ty "list") (by rfl) T.z_list boot_list rfl) pa_nil))) (nomark _))))) (pss_one (ps_ret pe_bl)) pss_nil)
      (pss_cons (ps_if (pt_cmpR op_ne (pe_callB call_len_seq (by rfl) T.z_len PySem.boot_len (pa_cons (pv 0) pa_nil)) (pe_callB call_len_seq (by rfl) T.z_len PySem.boot_len (pa_cons (pv 1) pa_nil)) (nomark _)) (pss_one (ps_ret pe_bl)) pss_nil)
      (pss_cons (ps_for PassesOwn.never rfl (pi_range1 rfl T.z_range (pa_cons (pe_callB call_len_seq (by rfl) T.z_len PySem.boot_len (pa_cons (pv 1) pa_nil)) pa_nil)) (pg_name (i := 2) scAli.nd rfl (Or.inl rfl)) (pss_one (ps_if (pt_not (pt_val (pcall C.law_alike (hr.mono (by first | decide | omega)) (pa_cons (pe_ix ix_seq (pv 0) (pv 2) (fun _ _ => rfl)) (pa_cons (pe_ix ix_seq (pv 1) (pv 2) (fun _ _ => rfl)) pa_nil))))) (pss_one (ps_ret pe_bl)) pss_nil)))
      (pss_one (ps_ret pe_bl))))))))), ?_⟩
    refine ⟨y, rfl, rfl, _, rfl, ?_⟩
    cases d with
    | none =>
      cases hx
      cases hy
      rw [decide_eq_true rfl]
      refine iteT ?_
      exact ⟨.non, rfl, rfl, q⟩
    | bool b =>
      cases hx
      cases hy
      refine iteF ?_
      refine ⟨.bl b, rfl, ?_⟩
      refine ⟨_, .ty "bool", _, _, true, rfl, .ty "bool", (.base (.bl b)), kit_ty (show kitB "bool" "bool" = some true by decide +kernel), ?_⟩
      refine ⟨_, rfl, iteT ?_⟩
      refine ⟨.bl b, rfl, ?_⟩
      refine ⟨_, .ty "bool", _, _, true, rfl, .ty "bool", (.base (.bl b)), kit_ty (show kitB "bool" "bool" = some true by decide +kernel), ?_⟩
      refine ⟨_, rfl, iteT ?_⟩
      refine ⟨.bl b, rfl, .bl b, rfl, .bool b, .bool b, .bl b, .bl b, rfl, rfl, ?_⟩
      rw [SeqAt.eqv_refl _ rfl]
      exact q
    | int i =>
      cases hx
      cases hy
      refine iteF ?_
      refine ⟨.int i, rfl, ?_⟩
      refine ⟨_, .ty "bool", _, _, false, rfl, .ty "bool", (.base (.int i)), kit_ty (show kitB "int" "bool" = some false by decide +kernel), ?_⟩
      refine ⟨_, rfl, iteF ?_⟩
      refine ⟨.int i, rfl, ?_⟩
      refine ⟨_, .ty "int", _, _, true, rfl, .ty "int", (.base (.int i)), kit_ty (show kitB "int" "int" = some true by decide +kernel), ?_⟩
      refine ⟨_, rfl, iteT ?_⟩
      refine ⟨.int i, rfl, ?_⟩
      refine ⟨_, .ty "int", _, _, true, rfl, .ty "int", (.base (.int i)), kit_ty (show kitB "int" "int" = some true by decide +kernel), ?_⟩
      refine ⟨_, rfl, iteT ?_⟩
      refine ⟨.int i, rfl, ?_⟩
      refine ⟨_, .ty "bool", _, _, false, rfl, .ty "bool", (.base (.int i)), kit_ty (show kitB "int" "bool" = some false by decide +kernel), ?_⟩
      refine ⟨_, rfl, _, rfl, iteT ?_⟩
      refine ⟨.int i, rfl, .int i, rfl, .int i, .int i, .int i, .int i, rfl, rfl, ?_⟩
      rw [SeqAt.eqv_refl _ rfl]
      exact q
    | str z =>
      cases hx
      cases hy
      have hs := sh_of hl hd hn
      refine iteF ?_
      refine ⟨.str z, rfl, ?_⟩
      refine ⟨_, .ty "bool", _, _, false, rfl, .ty "bool", (.base (.str z)), kit_ty (show kitB "str" "bool" = some false by decide +kernel), ?_⟩
      refine ⟨_, rfl, iteF ?_⟩
      refine ⟨.str z, rfl, ?_⟩
      refine ⟨_, .ty "int", _, _, false, rfl, .ty "int", (.base (.str z)), kit_ty (show kitB "str" "int" = some false by decide +kernel), ?_⟩
      refine ⟨_, rfl, iteF ?_⟩
      refine ⟨.str z, rfl, ?_⟩
      refine ⟨_, .ty "str", _, _, true, rfl, .ty "str", (.base (.str z)), kit_ty (show kitB "str" "str" = some true by decide +kernel), ?_⟩
      refine ⟨_, rfl, iteT ?_⟩
      refine ⟨.str z, rfl, ?_⟩
      refine ⟨_, .ty "str", _, _, true, rfl, .ty "str", (.base (.str z)), kit_ty (show kitB "str" "str" = some true by decide +kernel), ?_⟩
      refine ⟨_, rfl, iteT ?_⟩
      refine ⟨.str z, rfl, .str z, rfl, .str z, .str z, .str z, .str z, hs, hs, ?_⟩
      rw [SeqAt.eqv_refl _ hl]
      exact q
    | dict _ => cases hx
    | list ds =>
      cases hx with
      | @lst a xs _ ha hA =>
      cases hy with
      | @lst b ys _ hb hB =>
      have ta := ty_list ha
      have tb := ty_list hb
      refine iteF ?_
      refine ⟨.ref b, rfl, ?_⟩
      refine ⟨_, .ty "bool", _, _, false, rfl, .ty "bool", tb, kit_ty (show kitB "list" "bool" = some false by decide +kernel), ?_⟩
      refine ⟨_, rfl, iteF ?_⟩
      refine ⟨.ref b, rfl, ?_⟩
      refine ⟨_, .ty "int", _, _, false, rfl, .ty "int", tb, kit_ty (show kitB "list" "int" = some false by decide +kernel), ?_⟩
      refine ⟨_, rfl, iteF ?_⟩
      refine ⟨.ref b, rfl, ?_⟩
      refine ⟨_, .ty "str", _, _, false, rfl, .ty "str", tb, kit_ty (show kitB "list" "str" = some false by decide +kernel), ?_⟩
      refine ⟨_, rfl, iteF ?_⟩
      refine ⟨.ref b, rfl, ?_⟩
      refine ⟨_, .ty "tuple", _, _, false, rfl, .ty "tuple", tb, kit_ty (show kitB "list" "tuple" = some false by decide +kernel), ?_⟩
      refine ⟨.ref a, rfl, ?_⟩
      refine ⟨_, .ty "tuple", _, _, false, rfl, .ty "tuple", ta, kit_ty (show kitB "list" "tuple" = some false by decide +kernel), ?_⟩
      refine ⟨rfl, _, rfl, iteF ?_⟩
      refine ⟨.ref b, rfl, ?_⟩
      refine ⟨_, .ty "list", _, _, true, rfl, .ty "list", tb, kit_ty (show kitB "list" "list" = some true by decide +kernel), ?_⟩
      refine ⟨.ref a, rfl, ?_⟩
      refine ⟨_, .ty "list", _, _, true, rfl, .ty "list", ta, kit_ty (show kitB "list" "list" = some true by decide +kernel), ?_⟩
      refine ⟨rfl, _, rfl, iteF ?_⟩
      have el : xs.length = ys.length := (dpall_len hA).trans (dpall_len hB).symm
      refine ⟨.ref a, rfl, a, xs, rfl, .inl ha, .ref b, rfl, b, ys, rfl, .inl hb, rfl, _, rfl, ?_⟩
      rw [el]
      refine iteNS rfl ?_
      cases n with
      | zero => cases hg
      | succ m =>
      have hg2 : (decide (ds.length ≤ 16777216) && ds.all (good m)) = true := hg
      have hlen : ys.length ≤ 16777216 := by
        rw [dpall_len hB]
        exact good_len hg2
      refine ⟨.ref b, rfl, b, ys, rfl, .inl hb, _, rfl, by omega, by omega, ?_⟩
      refine for_range (lo := 0) (n := ((ys.length : Nat) : Int).toNat) (fun i σ H' => ∃ c, σ = [some (.ref a), some (.ref b), c] ∧ H' = H) ⟨none, rfl, rfl⟩ ?_ ?_
      · rintro i σ H' hi ⟨c, rfl, rfl⟩
        have hi2 : i < ds.length := by rw [← dpall_len hB]; omega
        obtain ⟨x, gx, dx⟩ := dpall_get hA (List.getElem?_eq_getElem hi2)
        obtain ⟨y, gy, dy⟩ := dpall_get hB (List.getElem?_eq_getElem hi2)
        refine ⟨.ref a, rfl, _, rfl, .inl ⟨a, xs, _, x, rfl, rfl, ha, at_of (by omega) gx, .ref b, rfl, _, rfl, .inl ⟨b, ys, _, y, rfl, rfl, hb, at_of (by omega) gy, ?_⟩⟩⟩
        exact hC x y _ _ _ _ dx dy ⟨m, rfl, good_get hg2 (List.getElem?_eq_getElem hi2)⟩ hn ⟨_, rfl, iteF ⟨_, rfl, rfl⟩⟩
      · rintro σ H' ⟨c, rfl, rfl⟩
        exact q
    | tuple ds =>
      cases hx with
      | @tup a xs _ ha hA =>
      cases hy with
      | @tup b ys _ hb hB =>
      have ta := ty_tup ha
      have tb := ty_tup hb
      refine iteF ?_
      refine ⟨.ref b, rfl, ?_⟩
      refine ⟨_, .ty "bool", _, _, false, rfl, .ty "bool", tb, kit_ty (show kitB "tuple" "bool" = some false by decide +kernel), ?_⟩
      refine ⟨_, rfl, iteF ?_⟩
      refine ⟨.ref b, rfl, ?_⟩
      refine ⟨_, .ty "int", _, _, false, rfl, .ty "int", tb, kit_ty (show kitB "tuple" "int" = some false by decide +kernel), ?_⟩
      refine ⟨_, rfl, iteF ?_⟩
      refine ⟨.ref b, rfl, ?_⟩
      refine ⟨_, .ty "str", _, _, false, rfl, .ty "str", tb, kit_ty (show kitB "tuple" "str" = some false by decide +kernel), ?_⟩
      refine ⟨_, rfl, iteF ?_⟩
      refine ⟨.ref b, rfl, ?_⟩
      refine ⟨_, .ty "tuple", _, _, true, rfl, .ty "tuple", tb, kit_ty (show kitB "tuple" "tuple" = some true by decide +kernel), ?_⟩
      refine ⟨.ref a, rfl, ?_⟩
      refine ⟨_, .ty "tuple", _, _, true, rfl, .ty "tuple", ta, kit_ty (show kitB "tuple" "tuple" = some true by decide +kernel), ?_⟩
      refine ⟨rfl, _, rfl, iteF ?_⟩
      refine ⟨.ref b, rfl, ?_⟩
      refine ⟨_, .ty "list", _, _, false, rfl, .ty "list", tb, kit_ty (show kitB "tuple" "list" = some false by decide +kernel), ?_⟩
      refine ⟨.ref a, rfl, ?_⟩
      refine ⟨_, .ty "list", _, _, false, rfl, .ty "list", ta, kit_ty (show kitB "tuple" "list" = some false by decide +kernel), ?_⟩
      refine ⟨rfl, _, rfl, iteF ?_⟩
      have el : xs.length = ys.length := (dpall_len hA).trans (dpall_len hB).symm
      refine ⟨.ref a, rfl, a, xs, rfl, .inr ha, .ref b, rfl, b, ys, rfl, .inr hb, rfl, _, rfl, ?_⟩
      rw [el]
      refine iteNS rfl ?_
      cases n with
      | zero => cases hg
      | succ m =>
      have hg2 : (decide (ds.length ≤ 16777216) && ds.all (good m)) = true := hg
      have hlen : ys.length ≤ 16777216 := by
        rw [dpall_len hB]
        exact good_len hg2
      refine ⟨.ref b, rfl, b, ys, rfl, .inr hb, _, rfl, by omega, by omega, ?_⟩
      refine for_range (lo := 0) (n := ((ys.length : Nat) : Int).toNat) (fun i σ H' => ∃ c, σ = [some (.ref a), some (.ref b), c] ∧ H' = H) ⟨none, rfl, rfl⟩ ?_ ?_
      · rintro i σ H' hi ⟨c, rfl, rfl⟩
        have hi2 : i < ds.length := by rw [← dpall_len hB]; omega
        obtain ⟨x, gx, dx⟩ := dpall_get hA (List.getElem?_eq_getElem hi2)
        obtain ⟨y, gy, dy⟩ := dpall_get hB (List.getElem?_eq_getElem hi2)
        refine ⟨.ref a, rfl, _, rfl, .inr (.inl ⟨a, xs, _, x, rfl, rfl, ha, at_of (by omega) gx, .ref b, rfl, _, rfl, .inr (.inl ⟨b, ys, _, y, rfl, rfl, hb, at_of (by omega) gy, ?_⟩)⟩)⟩
        exact hC x y _ _ _ _ dx dy ⟨m, rfl, good_get hg2 (List.getElem?_eq_getElem hi2)⟩ hn ⟨_, rfl, iteF ⟨_, rfl, rfl⟩⟩
      · rintro σ H' ⟨c, rfl, rfl⟩
        exact q
theorem ok_alike {f : Addr} {fd : FuncData} (F : Fun K "_law_alike" "_law_alike" sAli f fd) (T : TAli mg) (hm : mg "_law_alike" = some (.ref f)) (hb : Binds K fd ["_law_found", "_law_due"] []) : ∀ n : Nat, FnOk P w K mg base CX0 (n + 1) f fd ["_law_found", "_law_due"] (spAli K n)
  | 0 => ok_alike1 (sp := fun _ _ _ _ => False) F T ⟨⟨f, fd, ⟨fun _ _ _ _ h => h.elim, fun _ _ _ _ _ _ _ _ _ _ _ _ _ h => h.elim⟩, hm, F.kp, hb⟩⟩ fun _ _ _ _ _ _ _ _ h => by
      obtain ⟨m, h, _⟩ := h
      exact absurd h (by omega)
  | n + 1 => ok_alike1 F T ⟨⟨f, fd, ok_alike F T hm hb n, hm, F.kp, hb⟩⟩ fun x y d H Q E hx hy h hn q => by
      obtain ⟨m, h, hg⟩ := h
      obtain rfl : m = n := by omega
      exact ⟨x, y, d, rfl, hx, hy, hg, by omega, q⟩
end
end Vf
namespace Vf
open PySem PySem.Spec PyProof.Rows L2 Evl GxR
/-! ### letters: the mathematics -/
abbrev sSum : Stmt := topS 8
theorem scSum : FnScope ["body", "total", "sign"] ["body"] (defScope sSum) := ⟨rfl, rfl, rfl, by decide +kernel, rfl, by decide +kernel, by decide +kernel⟩
abbrev sLet : Stmt := topS 9
theorem scLet : FnScope ["body"] ["body"] (defScope sLet) := ⟨rfl, rfl, rfl, by decide +kernel, rfl, by decide +kernel, by decide +kernel⟩
abbrev sHas : Stmt := topS 10
theorem scHas : FnScope ["body"] ["body"] (defScope sHas) := ⟨rfl, rfl, rfl, by decide +kernel, rfl, by decide +kernel, by decide +kernel⟩
abbrev sPac : Stmt := topS 11
theorem scPac : FnScope ["fields", "field"] ["fields"] (defScope sPac) := ⟨rfl, rfl, rfl, by decide +kernel, rfl, by decide +kernel, by decide +kernel⟩
abbrev sUnp : Stmt := topS 12
theorem scUnp : FnScope ["text", "body"] ["text"] (defScope sUnp) := ⟨rfl, rfl, rfl, by decide +kernel, rfl, by decide +kernel, by decide +kernel⟩
def SGN : Str := litOf (topS 5)
def isS (c : Nat) : Bool := decide (c ∈ SGN.cps.toList)
theorem sgn_facts : isS 46 = false ∧ isS 33 = false ∧ isS 124 = true ∧ SGN.cps.toList.all (fun c => decide (c < 128)) = true := by decide +kernel
theorem isS_low {c : Nat} (h : isS c = true) : c < 128 := of_decide_eq_true (List.all_eq_true.mp sgn_facts.2.2.2 c (of_decide_eq_true h))
def sumN (l : List Nat) : Nat := l.foldl (fun t c => (t * 61 + ixS SGN c + 1) % 9973) 0
theorem sumN_lt : ∀ l : List Nat, sumN l < 9973 := by
  have h : ∀ (l : List Nat) (a : Nat), a < 9973 → l.foldl (fun t c => (t * 61 + ixS SGN c + 1) % 9973) a < 9973 := fun l => by
    induction l with
    | nil => exact fun a h => h
    | cons c r ih => exact fun a _ => ih _ (Nat.mod_lt _ (by decide))
  exact fun l => h l 0 (by decide)
theorem sumN_snoc (l : List Nat) (c : Nat) : sumN (l ++ [c]) = (sumN l * 61 + ixS SGN c + 1) % 9973 := by
  unfold sumN
  rw [List.foldl_append]
  rfl
def lett (l : List Nat) : List Nat := TL.numL l.length ++ (46 :: (TL.numL (sumN l) ++ (46 :: (l ++ [33]))))
theorem num_len {n : Nat} (h : n < 10000000) : (TL.numL n).length ≤ 7 := TL.numL_len (by decide) h
theorem behind_lett {l : List Nat} (h : ∀ c ∈ l, isS c = true) : (behind 46 (lett l)).dropLast = l := by
  have e : lett l = (TL.numL l.length ++ (46 :: TL.numL (sumN l))) ++ 46 :: (l ++ [33]) := by
    unfold lett
    simp
  rw [e, behind_app]
  · simp
  · intro hm
    rcases List.mem_append.mp hm with hm | hm
    · have := h 46 hm
      rw [sgn_facts.1] at this
      cases this
    · have := List.mem_singleton.mp hm
      omega
def bodyOf (fs : List Str) : List Nat := (Txt.join (sg 124) fs).cps.toList
theorem txt_body (fs : List Str) : Txt.join (sg 124) fs = txt (bodyOf fs) := (txt_of _).symm
theorem body_isS {fs : List Str} (h : ∀ z ∈ fs, ∀ c ∈ z.cps.toList, isS c = true) : ∀ c ∈ bodyOf fs, isS c = true := by
  intro c hc
  have e : bodyOf fs = TL.joinL [124] (fs.map TL.tl) := by
    show TL.tl (Txt.join (sg 124) fs) = _
    rw [TL.join_eq, TL.tl_join]
    rfl
  rw [e] at hc
  rcases mem_joinL hc with h2 | ⟨p, hp, h2⟩
  · rw [List.mem_singleton.mp h2]
    exact sgn_facts.2.2.1
  · obtain ⟨z, hz, rfl⟩ := List.mem_map.mp hp
    exact h z hz c h2
theorem sum_le {m : Nat} : ∀ fs : List Str, (∀ z ∈ fs, z.length ≤ m) → (fs.map (fun z => z.length)).sum ≤ fs.length * m
  | [], _ => by simp
  | z :: r, h => by
    rw [List.map_cons, List.sum_cons, List.length_cons, Nat.add_mul, Nat.one_mul]
    have h1 := h z List.mem_cons_self
    have h2 := sum_le r fun y hy => h y (List.mem_cons_of_mem _ hy)
    omega
theorem body_len {fs : List Str} {m : Nat} (h : ∀ z ∈ fs, z.length ≤ m) : (bodyOf fs).length ≤ fs.length * m + fs.length := by
  show (TL.tl (Txt.join (sg 124) fs)).length ≤ _
  rw [← TL.len_tl, TL.join_eq]
  cases fs with
  | nil => simp [Str.join, Str.empty, Str.length]
  | cons a r =>
    rw [PyProof.Rows.len_join_cons]
    have h1 := sum_le (a :: r) h
    have e : r.length * (sg 124).length = r.length := by
      show r.length * 1 = _
      omega
    rw [e]
    rw [List.length_cons] at h1 ⊢
    omega
theorem body_len2 (fs : List Str) : (bodyOf fs).length ≤ (fs.map (fun z => z.length)).sum + fs.length := by
  show (TL.tl (Txt.join (sg 124) fs)).length ≤ _
  rw [← TL.len_tl, TL.join_eq]
  cases fs with
  | nil => simp [Str.join, Str.empty, Str.length]
  | cons a r =>
    rw [PyProof.Rows.len_join_cons]
    have e : r.length * (sg 124).length = r.length := by
      show r.length * 1 = _
      omega
    rw [e, List.length_cons]
    omega
theorem split_body {fs : List Str} (hne : fs ≠ []) (h : ∀ z ∈ fs, 124 ∉ z.cps.toList) : Txt.split (txt (bodyOf fs)) (sg 124) = fs := by
  rw [← txt_body]
  exact TL.split_join (s := 124) (S := []) rfl (by decide +kernel) hne h
def unpL (l : List Nat) : Option (List Str) := if (((behind 46 l).dropLast).all isS && decide (lett (behind 46 l).dropLast = l)) = true then some (Txt.split (txt (behind 46 l).dropLast) (sg 124)) else none
theorem unp_lett {fs : List Str} (hne : fs ≠ []) (h : ∀ z ∈ fs, 124 ∉ z.cps.toList) (hs : ∀ z ∈ fs, ∀ c ∈ z.cps.toList, isS c = true) : unpL (lett (bodyOf fs)) = some fs := by
  unfold unpL
  rw [behind_lett (body_isS hs), if_pos, split_body hne h]
  rw [decide_eq_true rfl, Bool.and_true, List.all_eq_true]
  exact body_isS hs
theorem nstr (n : Nat) : ((toString ((n : Nat) : Int) : String) : Str) = txt (TL.numL n) := num_txt n
theorem nstr_len {n : Nat} (h : n < 10000000) : ((toString ((n : Nat) : Int) : String) : Str).length ≤ 7 := by
  rw [nstr, txt_len]
  exact num_len h
/-! ### the program's own letters -/
structure TLet (mg : Str → Option Value) : Prop where
  z_len : mg "len" = none
  z_all : mg "all" = none
  mg_SIGNS : ∃ t, mg "SIGNS" = some (.str SGN t)
  mg_BETWEEN : ∃ t, mg "BETWEEN" = some (.str "|" t)
  mg_SUM_TIMES : ∃ t, mg "SUM_TIMES" = some (.int 61 t)
  mg_SUM_REST : ∃ t, mg "SUM_REST" = some (.int 9973 t)
def spSum : Sp := fun vs H Q _ => ∃ z : Str, vs = [.str z] ∧ (∀ c ∈ z.cps.toList, isS c = true) ∧ Q (.int (sumN z.cps.toList : Nat)) H
def spLet : Sp := fun vs H Q _ => ∃ z : Str, vs = [.str z] ∧ (∀ c ∈ z.cps.toList, isS c = true) ∧ z.length ≤ 1000000 ∧ Q (.str (txt (lett z.cps.toList))) H
def spHas (T : Addr) : Sp := fun vs H Q _ => ∃ z : Str, vs = [.str z] ∧ H T = some (TabO T) ∧ Q (.bl (z.cps.toList.all isS)) H
def Fields (fs : List Str) : Prop := fs ≠ [] ∧ fs.length ≤ 500 ∧ ∀ z ∈ fs, z.length ≤ 1000 ∧ 124 ∉ z.cps.toList ∧ ∀ c ∈ z.cps.toList, isS c = true
def FieldsL (fs : List Str) : Prop := (fs.map (fun z => z.length)).sum + fs.length ≤ 1000000 ∧ ∀ z ∈ fs, ∀ c ∈ z.cps.toList, isS c = true
theorem Fields.toL {fs : List Str} (h : Fields fs) : FieldsL fs := by
  obtain ⟨_, h2, h3⟩ := h
  have := sum_le (m := 1000) fs fun z hz => (h3 z hz).1
  exact ⟨by omega, fun z hz => (h3 z hz).2.2⟩
def spPac (T : Addr) (K : PySem.W.Frag) : Sp := fun vs H Q _ => ∃ (a : Addr) (fs : List Str), vs = [.ref a] ∧ SqL K H a (fs.map V.str) ∧ Fields fs ∧ H T = some (TabO T) ∧ Q (.str (txt (lett (bodyOf fs)))) H
def spUnp (T : Addr) : Sp := fun vs H Q _ => ∃ z : Str, vs = [.str z] ∧ z.length ≤ 1000000 ∧ H T = some (TabO T) ∧ (unpL z.cps.toList = none → ∀ H', Ex H H' → Q .non H') ∧
  ∀ fs, unpL z.cps.toList = some fs → ∀ p H', Ex H H' → H p = none → H' p = some (.lst (fs.map V.str)) → Q (.ref p) H'
section
variable {P : Program} {w : World} {K : PySem.W.Frag} {mg : Str → Option Value} {base : Heap}
theorem ok_sum {f : Addr} {fd : FuncData} (F : Fun K "sum_of" "sum_of" sSum f fd) (T : TLet mg) : FnOk P w K mg base CX0 1 f fd ["body"] spSum := by
  refine F.ok scSum (fun vs H Q E h => ?_) (fun cdv A outer s H vs Q E hr h => ?_)
  · obtain ⟨z, rfl, _⟩ := h
    rfl
  · obtain ⟨z, rfl, hs, q⟩ := h
    refine ⟨_, (pss_cons (ps_set (i := 1) scSum.nd rfl (Or.inl rfl) pe_int)
      (pss_cons (ps_for PassesOwn.never rfl (pi_str (pv 0)) (pg_name (i := 2) scSum.nd rfl (Or.inl rfl)) (pss_one (ps_set (i := 1) scSum.nd rfl (Or.inl rfl) (pe_op op_mod (pe_op op_add (pe_op op_add (pe_op op_mul (pv 1) (pgI T.mg_SUM_TIMES)) (pe_m1 PySem.F.slot_str_index PySem.F.type_str_index mt_sindex (pgS T.mg_SIGNS) (pv 2))) pe_int) (pgI T.mg_SUM_REST)))))
      (pss_one (ps_ret (pv 1))))), ?_⟩
    refine ⟨_, rfl, z, rfl, for_it walk_str (fun i σ H' => ∃ c, σ = [some (.str z), some (.int (sumN (z.cps.toList.take i) : Nat)), c] ∧ H' = H) ⟨_, rfl, rfl⟩ (fun _ _ _ _ _ => trivial) ?_ ?_⟩
    · rintro i x σ H1 H2 hi ⟨c, rfl, rfl⟩ ⟨rfl, cc, hcc, rfl⟩
      have hc : z.cps.toList[i]? = some cc := by rw [Array.getElem?_toList]; exact hcc
      obtain ⟨r, hr⟩ := ix_cons (z := SGN) (of_decide_eq_true (hs cc (List.mem_of_getElem? hc)))
      have hlt := sumN_lt (z.cps.toList.take i)
      refine ⟨_, rfl, _, _, rfl, rfl, .inl ⟨by omega, by omega⟩, ⟨_, rfl⟩, _, rfl, SGN, sg cc, _, r, rfl, rfl, hr, _, _, rfl, rfl, _, _, rfl, rfl, _, _, rfl, rfl, (by show (0 : Int) < 9973; decide), some (.str (sg cc)), ?_, rfl⟩
      rw [List.take_add_one, hc]
      show _ = [some (V.str z), some (V.int (sumN (z.cps.toList.take i ++ [cc]) : Nat)), some (V.str (sg cc))]
      rw [sumN_snoc]
      have e : (((sumN (z.cps.toList.take i) : Nat) : Int) * 61 + (ixS SGN cc : Nat) + 1) % 9973 = (((sumN (z.cps.toList.take i) * 61 + ixS SGN cc + 1) % 9973 : Nat) : Int) := by omega
      rw [← e]
      rfl
    · rintro σ H1 ⟨c, rfl, rfl⟩
      have e : z.cps.toList.take z.cps.size = z.cps.toList := List.take_of_length_le (by simp)
      rw [e]
      exact ⟨_, rfl, q⟩
structure CLet1 (P : Program) (w : World) (K : PySem.W.Frag) (mg : Str → Option Value) (base : Heap) : Prop where
  sum_of : Cal P w K mg base "sum_of" 1 ["body"] spSum
theorem ok_let {f : Addr} {fd : FuncData} (F : Fun K "letter_of" "letter_of" sLet f fd) (T : TLet mg) (C : CLet1 P w K mg base) : FnOk P w K mg base CX0 2 f fd ["body"] spLet := by
  refine F.ok scLet (fun vs H Q E h => ?_) (fun cdv A outer s H vs Q E hr h => ?_)
  · obtain ⟨z, rfl, _⟩ := h
    rfl
  · obtain ⟨z, rfl, hs, hz, q⟩ := h
    refine ⟨_, (pss_one (ps_ret (pe_joined (PJ.cons (pe_fmt (pe_callB call_len_str (by rfl) T.z_len PySem.boot_len (pa_cons (pv 0) pa_nil))) (PJ.cons pe_str (PJ.cons (pe_fmt (pcall C.sum_of (hr.mono (by first | decide | omega)) (pa_cons (pv 0) pa_nil))) (PJ.cons pe_str (PJ.cons (pe_fmt (pv 0)) (PJ.cons pe_str PJ.nil))))))))), ?_⟩
    have n1 := nstr_len (n := z.length) (by omega)
    have n2 := nstr_len (n := sumN z.cps.toList) (Nat.lt_trans (sumN_lt _) (by decide))
    have big : ∀ x : Str, x.length ≤ 2000000 → x.length ≤ sizeLine := fun x h => Nat.le_trans h (by decide)
    have fin : ∀ x : Str, x = txt (lett z.cps.toList) → Q (.str x) H := fun x e => by rw [e]; exact q
    have d1 : (Str.ofString ".").length = 1 := rfl
    have d2 : (Str.ofString "!").length = 1 := rfl
    have d0 : Str.empty.length = 0 := rfl
    refine ⟨_, rfl, z, rfl, big z (by omega), .inr ⟨_, rfl, log_small (n := z.length) (by omega), _, rfl, big _ (by rw [Str.length_append]; omega), _, rfl, big _ (by rw [Str.length_append, Str.length_append]; omega), ?_⟩⟩
    refine ⟨_, rfl, z, rfl, hs, .inr ⟨_, rfl, log_small (n := sumN z.cps.toList) (Nat.lt_trans (sumN_lt _) (by decide)), _, rfl, big _ (by simp only [Str.length_append]; omega), _, rfl, big _ (by simp only [Str.length_append]; omega), ?_⟩⟩
    refine ⟨_, rfl, .inl ⟨z, rfl, big z (by omega), _, rfl, big _ (by simp only [Str.length_append]; omega), _, rfl, big _ (by simp only [Str.length_append]; omega), fin _ ?_⟩⟩
    refine TL.ext_tl ?_
    simp only [TL.tl_append]
    rw [TL.tl_num, TL.tl_num]
    show [] ++ TL.numL z.length ++ [46] ++ TL.numL (sumN z.cps.toList) ++ [46] ++ z.cps.toList ++ [33] = (txt (lett z.cps.toList)).cps.toList
    rw [txt_cps]
    unfold lett
    rw [str_len]
    simp
theorem ok_has0 {f c T0 : Addr} {oc : Value} {od an : Option Addr} {osl : Array (Option Value)} {kV doc pm ct : Value} (lk : K.lookup f = some ⟨oc, od, .func (PySem.W.fnOf "has_only_signs" "has_only_signs" (defArgs sHas) (defBody sHas) (defScope sHas) .none kV doc pm an (.ref c) ct), osl⟩)
    (hcd : PySem.W.codeIn K (.ref c) "has_only_signs" = true) (tab : TabB base mg c T0) (T : TLet mg) :
    FnOk P w K mg base CX0 1 f (PySem.W.fnOf "has_only_signs" "has_only_signs" (defArgs sHas) (defBody sHas) (defScope sHas) .none kV doc pm an (.ref c) ct) ["body"]
      (fun vs H Q _ => ∃ z : Str, vs = [.str z] ∧ TabG H T0 ∧ ∀ H', Tabbed T0 H H' → Q (.bl (z.cps.toList.all isS)) H') := by
  refine fn_of lk hcd scHas (fun vs H Q E h => ?_) fun A outer s H vs Q E hr h => ?_
  · obtain ⟨z, rfl, _⟩ := h
    rfl
  · obtain ⟨z, rfl, ht, q⟩ := h
    refine ⟨_, PSs.nox (pss_one (ps_ret (pe_allT hr rfl T.z_all tab rfl (genS_of rfl rfl (by decide +kernel) rfl rfl (by decide +kernel)) (pv 0) (elt_in rfl rfl rfl T.mg_SIGNS) (fun _ => rfl)))), ?_⟩
    exact ⟨_, rfl, z, rfl, ht, q⟩
end
end Vf
namespace Vf
open PySem PySem.Spec PyProof.Rows L2 Evl GxR
section
variable {P : Program} {w : World} {K : PySem.W.Frag} {mg : Str → Option Value} {base : Heap}
theorem ok_has {f c T0 : Addr} {oc : Value} {od an : Option Addr} {osl : Array (Option Value)} {kV doc pm ct : Value} (lk : K.lookup f = some ⟨oc, od, .func (PySem.W.fnOf "has_only_signs" "has_only_signs" (defArgs sHas) (defBody sHas) (defScope sHas) .none kV doc pm an (.ref c) ct), osl⟩)
    (hcd : PySem.W.codeIn K (.ref c) "has_only_signs" = true) (tab : TabB base mg c T0) (T : TLet mg) :
    FnOk P w K mg base CX0 1 f (PySem.W.fnOf "has_only_signs" "has_only_signs" (defArgs sHas) (defBody sHas) (defScope sHas) .none kV doc pm an (.ref c) ct) ["body"] (spHas T0) := by
  refine tab_fn (T := T0) (ok_has0 lk hcd tab T) (fun vs H Q E h => ?_) fun vs H Q E h => ?_
  · obtain ⟨z, rfl, _⟩ := h
    rfl
  · obtain ⟨z, rfl, hT, q⟩ := h
    exact ⟨hT, fun qs tr => ⟨z, rfl, ⟨qs, upd_same, tr⟩, fun H' ht => ⟨ht, q⟩⟩⟩
structure CLet2 (P : Program) (w : World) (K : PySem.W.Frag) (mg : Str → Option Value) (base : Heap) (T0 : Addr) : Prop where
  letter_of : Cal P w K mg base "letter_of" 2 ["body"] spLet
  has_only_signs : Cal P w K mg base "has_only_signs" 1 ["body"] (spHas T0)
theorem fields_sum {fs : List Str} (h : Fields fs) : (fs.map (fun z => z.length)).sum + fs.length * 1 ≤ 16777216 := by
  obtain ⟨_, h2, h3⟩ := h
  have := sum_le (m := 1000) fs fun z hz => (h3 z hz).1
  omega
theorem fields_body {fs : List Str} (h : Fields fs) : (bodyOf fs).length ≤ 500500 := by
  obtain ⟨_, h2, h3⟩ := h
  have := body_len (m := 1000) fun z hz => (h3 z hz).1
  omega
theorem ok_pac {f T0 : Addr} {fd : FuncData} (F : Fun K "packed" "packed" sPac f fd) (T : TLet mg) (C : CLet2 P w K mg base T0) : FnOk P w K mg base CX0 3 f fd ["fields"] (spPac T0 K) := by
  refine F.ok scPac (fun vs H Q E h => ?_) (fun cdv A outer s H vs Q E hr h => ?_)
  · obtain ⟨a, fs, rfl, _⟩ := h
    rfl
  · obtain ⟨a, fs, rfl, hS, hF, hT, q⟩ := h
    obtain ⟨hne, hl, hz⟩ := id hF
    refine ⟨_, (pss_cons (ps_if (pt_cmpR op_eq (pe_callB call_len_seq (by rfl) T.z_len PySem.boot_len (pa_cons (pv 0) pa_nil)) pe_int (nomark _)) pss_never pss_nil)
      (pss_cons (ps_for PassesOwn.never rfl (pi_list (pv 0)) (pg_name (i := 1) scPac.nd rfl (Or.inl rfl)) (pss_one (ps_if (PW.pt (pw_or (pt_cmpR op_in_sign (pgS T.mg_BETWEEN) (pv 1) rfl) (pw_or1 (pt_not (pt_val (pcall C.has_only_signs (hr.mono (by first | decide | omega)) (pa_cons (pv 1) pa_nil))))))) pss_never pss_nil)))
      (pss_one (ps_ret (pcall C.letter_of (hr.mono (by first | decide | omega)) (pa_cons (pe_join (pgS T.mg_BETWEEN) (pv 0)) pa_nil)))))), ?_⟩
    refine ⟨_, rfl, a, _, rfl, .inl hS, rfl, _, rfl, ?_⟩
    have h0 : decide (V.int ((fs.map V.str).length : Nat) = V.int 0) = false := decide_eq_false fun e => by
      have e2 := V.int.inj e
      rw [List.length_map] at e2
      exact hne (List.length_eq_zero_iff.mp (by omega))
    rw [h0]
    refine iteF ?_
    refine ⟨_, rfl, a, rfl, ⟨_, hS⟩, for_list (K := K) (a := a) (xs := fs.map V.str) (fun i σ H' => ∃ c, σ = [some (.ref a), c] ∧ H' = H) ⟨_, rfl, rfl⟩ (fun i σ H' _ ⟨_, _, e⟩ => by rw [e]; exact hS) ?_ ?_⟩
    · rintro i y σ H1 hi ⟨c, rfl, rfl⟩
      obtain ⟨z, hm, rfl⟩ := List.mem_map.mp (List.mem_of_getElem? hi)
      obtain ⟨z1, z2, z3⟩ := hz z hm
      refine ⟨_, rfl, 124, z, rfl, rfl, _, rfl, ?_⟩
      rw [decide_eq_false z2]
      refine iteF ⟨_, rfl, z, rfl, hT, _, rfl, ?_⟩
      rw [List.all_eq_true.mpr z3]
      exact iteF ⟨_, rfl, rfl⟩
    · rintro σ H1 ⟨c, rfl, rfl⟩
      refine ⟨⟨_, rfl⟩, _, rfl, sg 124, a, fs, rfl, rfl, .inl hS, fields_sum hF, Txt.join (sg 124) fs, rfl, body_isS fun z hm => (hz z hm).2.2, ?_, q⟩
      have := fields_body hF
      rw [txt_body, txt_len]
      omega
theorem ok_unp {f T0 : Addr} {fd : FuncData} (F : Fun K "unpacked" "unpacked" sUnp f fd) (T : TLet mg) (C : CLet2 P w K mg base T0) : FnOk P w K mg base CX0 3 f fd ["text"] (spUnp T0) := by
  refine F.ok scUnp (fun vs H Q E h => ?_) (fun cdv A outer s H vs Q E hr h => ?_)
  · obtain ⟨z, rfl, _⟩ := h
    rfl
  · obtain ⟨z, rfl, hz, hT, qn, qs⟩ := h
    refine ⟨_, (pss_cons (ps_set (i := 1) scUnp.nd rfl (Or.inl rfl) (pe_slice sl_str (pe_ix ix_tup (pe_m1 PySem.F.slot_str_rpartition PySem.F.type_str_rpartition mt_rpart (pv 0) pe_str) pe_int (fun _ _ => rfl)) po_none (po_some (pe_un un_neg pe_int))))
      (pss_cons (ps_if (PW.pt (pw_or (pt_not (pt_val (pcall C.has_only_signs (hr.mono (by first | decide | omega)) (pa_cons (pv 1) pa_nil)))) (pw_or1 (pt_cmpR op_ne (pcall C.letter_of (hr.mono (by first | decide | omega)) (pa_cons (pv 1) pa_nil)) (pv 0) (nomark _))))) (pss_one (ps_ret pe_non)) pss_nil)
      (pss_one (ps_ret (pe_split (pv 1) (pgS T.mg_BETWEEN)))))), ?_⟩
    have big : ∀ n : Nat, n ≤ 1000002 → n ≤ sizeLine := fun n h => Nat.le_trans h (by decide)
    refine ⟨_, rfl, ⟨_, rfl⟩, z, sg 46, rfl, rfl, rfl, big _ (by omega), fun p np => ?_⟩
    have e1 : Ex H (upd H p (.tup [.str (Txt.rpartition z (sg 46)).1, .str (Txt.rpartition z (sg 46)).2.1, .str (Txt.rpartition z (sg 46)).2.2])) := Ex.new np
    have hp : upd H p (.tup [.str (Txt.rpartition z (sg 46)).1, .str (Txt.rpartition z (sg 46)).2.1, .str (Txt.rpartition z (sg 46)).2.2]) p = some (.tup [.str (Txt.rpartition z (sg 46)).1, .str (Txt.rpartition z (sg 46)).2.1, .str (Txt.rpartition z (sg 46)).2.2]) := upd_same
    generalize upd H p (.tup [.str (Txt.rpartition z (sg 46)).1, .str (Txt.rpartition z (sg 46)).2.1, .str (Txt.rpartition z (sg 46)).2.2]) = H1 at e1 hp ⊢
    have hlen : (txt (behind 46 z.cps.toList)).length ≤ z.length := by
      rw [txt_len, ← str_len]
      unfold behind
      rw [List.length_reverse]
      exact Nat.le_trans (List.takeWhile_sublist _).length_le (by rw [List.length_reverse]; exact Nat.le_refl _)
    refine ⟨p, _, 2, .str (txt (behind 46 z.cps.toList)), rfl, rfl, SqT.of hp, ?_, _, rfl, _, rfl, _, rfl, big _ (by omega), ?_⟩
    · rw [← rpart_behind]
      exact atI_nat (j := 2) rfl
    · rw [cutS_butlast, txt_cps]
      have hbl : ((behind 46 z.cps.toList).dropLast).length ≤ z.length := by
        rw [txt_len] at hlen
        rw [List.length_dropLast]
        omega
      have hun : unpL z.cps.toList = if (((behind 46 z.cps.toList).dropLast).all isS && decide (lett (behind 46 z.cps.toList).dropLast = z.cps.toList)) = true then some (Txt.split (txt (behind 46 z.cps.toList).dropLast) (sg 124)) else none := rfl
      generalize (behind 46 z.cps.toList).dropLast = b at hbl hun ⊢
      refine ⟨_, rfl, txt b, rfl, e1 _ _ hT, _, rfl, ?_⟩
      rw [txt_cps]
      by_cases hall : b.all isS = true
      · rw [hall]
        refine iteF ⟨_, rfl, txt b, rfl, by rw [txt_cps]; exact List.all_eq_true.mp hall, by rw [txt_len]; omega, ?_⟩
        rw [txt_cps]
        refine ⟨_, rfl, rfl, _, rfl, ?_⟩
        rw [hall, Bool.true_and] at hun
        by_cases he : lett b = z.cps.toList
        · rw [decide_eq_true he, if_pos rfl] at hun
          have e9 : decide (V.str (txt (lett b)) = V.str z) = true := decide_eq_true (by rw [he, txt_of])
          rw [e9]
          refine iteF ⟨_, rfl, ⟨_, rfl⟩, txt b, sg 124, rfl, rfl, rfl, big _ (by rw [txt_len]; omega), fun p2 n2 => ?_⟩
          exact qs _ hun p2 _ (e1.trans (Ex.new n2)) (fresh_back e1 n2) upd_same
        · rw [decide_eq_false he] at hun
          have e9 : decide (V.str (txt (lett b)) = V.str z) = false := decide_eq_false fun e => he (by rw [← V.str.inj e, txt_cps])
          rw [e9]
          exact iteT (qn hun _ e1)
      · have hf : b.all isS = false := by
          cases q : b.all isS with
          | true => exact absurd q hall
          | false => rfl
        rw [hf, Bool.false_and] at hun
        rw [hf]
        exact iteT (iteT (qn hun _ e1))
end
end Vf
namespace Vf
open PySem PySem.Spec PyProof.Rows L2 Evl GxR
/-! ### the law's own letters -/
abbrev sLpk : Stmt := topS 17
theorem scLpk : FnScope ["_law_fields", "_law_every", "_law_body", "_law_found", "_law_sign"] ["_law_fields"] (defScope sLpk) := ⟨rfl, rfl, rfl, by decide +kernel, rfl, by decide +kernel, by decide +kernel⟩
structure TLpk (mg : Str → Option Value) : Prop where
  z_len : mg "len" = none
  z_str : mg "str" = none
def spLpk (K : PySem.W.Frag) : Sp := fun vs H Q _ => ∃ (a : Addr) (fs : List Str), vs = [.ref a] ∧ SqL K H a (fs.map V.str) ∧ FieldsL fs ∧ Q (.str (txt (lett (bodyOf fs)))) H
section
variable {P : Program} {w : World} {K : PySem.W.Frag} {mg : Str → Option Value} {base : Heap}
theorem ok_lpk {f : Addr} {fd : FuncData} (F : Fun K "_law_packed" "_law_packed" sLpk f fd) (T : TLpk mg) : FnOk P w K mg base CX0 1 f fd ["_law_fields"] (spLpk K) := by
  refine F.ok scLpk (fun vs H Q E h => ?_) (fun cdv A outer s H vs Q E hr h => ?_)
  · obtain ⟨a, fs, rfl, _⟩ := h
    rfl
  · obtain ⟨a, fs, rfl, hS, hF, q⟩ := h
    obtain ⟨hl, hz⟩ := id hF
    refine ⟨_, (pss_cons (ps_set (i := 1) scLpk.nd rfl (Or.inl rfl) pe_str)
      (pss_cons (ps_set (i := 2) scLpk.nd rfl (Or.inl rfl) (pe_join pe_str (pv 0)))
      (pss_cons (ps_set (i := 3) scLpk.nd rfl (Or.inl rfl) pe_int)
      (pss_cons (ps_for PassesOwn.never rfl (pi_str (pv 2)) (pg_name (i := 4) scLpk.nd rfl (Or.inl rfl)) (pss_one (ps_set (i := 3) scLpk.nd rfl (Or.inl rfl) (pe_op op_mod (pe_op op_add (pe_op op_add (pe_op op_mul (pv 3) pe_int) (pe_m1 PySem.F.slot_str_index PySem.F.type_str_index mt_sindex (pv 1) (pv 4))) pe_int) pe_int))))
      (pss_one (ps_ret (pe_op op_add_str (pe_op op_add_str (pe_op op_add_str (pe_op op_add_str (pe_op op_add_str (pe_callTy call_str_int (by rfl) T.z_str boot_str (pa_cons (pe_callB call_len_str (by rfl) T.z_len PySem.boot_len (pa_cons (pv 2) pa_nil)) pa_nil)) pe_str) (pe_callTy call_str_int (by rfl) T.z_str boot_str (pa_cons (pv 3) pa_nil))) pe_str) (pv 2)) pe_str))))))), ?_⟩
    refine ⟨⟨_, rfl⟩, _, rfl, sg 124, a, fs, rfl, rfl, .inl hS, (by show _ + fs.length * 1 ≤ _; omega), ?_⟩
    have hs := body_isS hz
    have hb : (bodyOf fs).length ≤ 1000000 := Nat.le_trans (body_len2 fs) hl
    rw [txt_body]
    generalize bodyOf fs = b at hs hb q ⊢
    refine ⟨_, rfl, txt b, rfl, for_it walk_str (fun i σ H' => ∃ c, σ = [some (.ref a), some (.str SGN), some (.str (txt b)), some (.int (sumN (b.take i) : Nat)), c] ∧ H' = H) ⟨_, rfl, rfl⟩ (fun _ _ _ _ _ => trivial) ?_ ?_⟩
    · rintro i x σ H1 H2 hi ⟨c, rfl, rfl⟩ ⟨rfl, cc, hcc, rfl⟩
      have hc : b[i]? = some cc := by
        have e : (txt b).cps.toList[i]? = some cc := by rw [Array.getElem?_toList]; exact hcc
        rw [txt_cps] at e
        exact e
      obtain ⟨r, hr⟩ := ix_cons (z := SGN) (of_decide_eq_true (hs cc (List.mem_of_getElem? hc)))
      have hlt := sumN_lt (b.take i)
      refine ⟨_, rfl, _, _, rfl, rfl, .inl ⟨by omega, by omega⟩, _, rfl, ⟨_, rfl⟩, _, rfl, SGN, sg cc, _, r, rfl, rfl, hr, _, _, rfl, rfl, _, _, rfl, rfl, _, _, rfl, rfl, (by show (0 : Int) < 9973; decide), some (.str (sg cc)), ?_, rfl⟩
      rw [List.take_add_one, hc]
      show _ = [some (V.ref a), some (V.str SGN), some (V.str (txt b)), some (V.int (sumN (b.take i ++ [cc]) : Nat)), some (V.str (sg cc))]
      rw [sumN_snoc]
      have e : (((sumN (b.take i) : Nat) : Int) * 61 + (ixS SGN cc : Nat) + 1) % 9973 = (((sumN (b.take i) * 61 + ixS SGN cc + 1) % 9973 : Nat) : Int) := by omega
      rw [← e]
      rfl
    · rintro σ H1 ⟨c, rfl, rfl⟩
      have e : b.take (txt b).cps.size = b := List.take_of_length_le (by show b.length ≤ b.toArray.size; simp)
      rw [e]
      have n1 := nstr_len (n := (txt b).length) (by rw [txt_len]; omega)
      have n2 := nstr_len (n := sumN b) (Nat.lt_trans (sumN_lt _) (by decide))
      have n3 : (txt b).length ≤ 1000000 := by rw [txt_len]; omega
      have big : ∀ n : Nat, n ≤ 2000000 → n ≤ sizeLine := fun n h => Nat.le_trans h (by decide)
      have d1 : (Str.ofString ".").length = 1 := rfl
      have d2 : (Str.ofString "!").length = 1 := rfl
      have fin : ∀ x : Str, x = txt (lett b) → Q (.str x) H1 := fun x e => by rw [e]; exact q
      refine ⟨_, rfl, txt b, rfl, big _ (by omega), _, rfl, log_small (n := (txt b).length) (by omega), _, _, rfl, rfl, big _ (by omega), _, rfl, _, rfl, log_small (n := sumN b) (Nat.lt_trans (sumN_lt _) (by decide)), _, _, rfl, rfl, big _ (by simp only [Str.length_append]; omega), _, _, rfl, rfl, big _ (by simp only [Str.length_append]; omega), _, rfl, _, _, rfl, rfl, big _ (by simp only [Str.length_append]; omega), _, _, rfl, rfl, big _ (by simp only [Str.length_append]; omega), fin _ ?_⟩
      refine TL.ext_tl ?_
      simp only [TL.tl_append]
      rw [TL.tl_num, TL.tl_num]
      show TL.numL (txt b).length ++ [46] ++ TL.numL (sumN b) ++ [46] ++ (txt b).cps.toList ++ [33] = (txt (lett b)).cps.toList
      rw [txt_cps, txt_cps, txt_len]
      unfold lett
      simp
end
end Vf
namespace Vf
open PySem PySem.Spec PyProof.Rows L2 Evl GxR
/-! ### the law -/
abbrev sL05 : Stmt := topS 18
theorem scL05 : FnScope ["_law_script", "_law_box", "_law_every", "_law_turn", "_law_fields", "_law_k", "_law_most", "_law_handed", "_law_text", "_law_found", "_law_j"] ["_law_script"] (defScope sL05) := ⟨rfl, rfl, rfl, by decide +kernel, rfl, by decide +kernel, by decide +kernel⟩
structure TLaw (mg : Str → Option Value) : Prop where
  z_range : mg "range" = none
  z_list : mg "list" = none
structure CLaw (P : Program) (w : World) (K : PySem.W.Frag) (mg : Str → Option Value) (base : Heap) (T0 : Addr) : Prop where
  law_begun : Cal P w K mg base "_law_begun" 1 ["_law_script"] (spBeg K)
  law_take : Cal P w K mg base "_law_take" 1 ["_law_box", "_law_many"] spTak
  law_packed : Cal P w K mg base "_law_packed" 1 ["_law_fields"] (spLpk K)
  law_alike : Cal P w K mg base "_law_alike" 2 ["_law_found", "_law_due"] (spAli K 1)
  packed : Cal P w K mg base "packed" 3 ["fields"] (spPac T0 K)
  unpacked : Cal P w K mg base "unpacked" 3 ["text"] (spUnp T0)
def spLawH (T0 : Addr) (K : PySem.W.Frag) : Sp := fun vs H Q _ => ∃ (a : Addr) (ns : List Int), vs = [.ref a] ∧ SqL K H a (ns.map V.int) ∧ ns.length ≤ 63 ∧ H T0 = some (TabO T0) ∧ ∀ H', H' T0 = some (TabO T0) → Q (.bl true) H'
def spLaw (T0 : Addr) (K : PySem.W.Frag) : Sp := fun vs H Q _ => ∃ (a : Addr) (ns : List Int), vs = [.ref a] ∧ SqL K H a (ns.map V.int) ∧ ns.length ≤ 63 ∧ H T0 = some (.tbl #[]) ∧ ∀ H', Q (.bl true) H'
def evl : Str := litOf ((defBody sL05).getD 1 (.Pass ⟨0, 0, 0, 0⟩))
theorem evl_len : evl.cps.toList.length = 41 := by decide +kernel
theorem evl_ok : ∀ c ∈ evl.cps.toList, isS c = true ∧ c ≠ 124 := by decide +kernel
theorem good_strs {ss : List Str} (hl : ss.length ≤ 16777216) (h : ∀ z ∈ ss, ∀ c ∈ z.cps.toList, c < 128) : good 1 (.list (ss.map PyData.str)) = true := by
  show (decide ((ss.map PyData.str).length ≤ 16777216) && (ss.map PyData.str).all (good 0)) = true
  rw [List.length_map, decide_eq_true hl, Bool.true_and, List.all_eq_true]
  intro d hd
  obtain ⟨z, hz, rfl⟩ := List.mem_map.mp hd
  exact lay_str (h z hz)
theorem lett_low {l : List Nat} (h : ∀ c ∈ l, isS c = true) : ∀ c ∈ (txt (lett l)).cps.toList, c < 128 := by
  rw [txt_cps]
  have dig : ∀ n c, c ∈ TL.numL n → c < 128 := fun n c hc => by
    by_cases h1 : 57 < c
    · exact absurd hc (TL.numL_free (.inr h1))
    · omega
  intro c hc
  unfold lett at hc
  rcases List.mem_append.mp hc with hc | hc
  · exact dig _ _ hc
  rcases List.mem_cons.mp hc with rfl | hc
  · decide
  rcases List.mem_append.mp hc with hc | hc
  · exact dig _ _ hc
  rcases List.mem_cons.mp hc with rfl | hc
  · decide
  rcases List.mem_append.mp hc with hc | hc
  · exact isS_low (h c hc)
  · rw [List.mem_singleton.mp hc]
    decide
theorem lett_len {l : List Nat} (h : l.length ≤ 600000) : (lett l).length ≤ 600100 := by
  have h1 := num_len (n := l.length) (by omega)
  have h2 := num_len (n := sumN l) (Nat.lt_trans (sumN_lt _) (by decide))
  unfold lett
  simp only [List.length_append, List.length_cons, List.length_nil]
  omega
section
variable {P : Program} {w : World} {K : PySem.W.Frag} {mg : Str → Option Value} {base : Heap}
theorem ok_law0 {f T0 : Addr} {fd : FuncData} (F : Fun K "law" "law" sL05 f fd) (T : TLaw mg) (C : CLaw P w K mg base T0) : FnOk P w K mg base CX0 4 f fd ["_law_script"] (spLawH T0 K) := by
  refine F.ok scL05 (fun vs H Q E h => ?_) (fun cdv A outer s H vs Q E hr h => ?_)
  · obtain ⟨a, ns, rfl, _⟩ := h
    rfl
  · obtain ⟨a, ns, rfl, hS, hlen, hT, q⟩ := h
    refine ⟨_, (pss_cons (ps_set (i := 1) scL05.nd rfl (Or.inr rfl) (pcall C.law_begun (hr.mono (by first | decide | omega)) (pa_cons (pv 0) pa_nil)))
      (pss_cons (ps_set (i := 2) scL05.nd rfl (Or.inr rfl) pe_str)
      (pss_cons (ps_for PassesOwn.never rfl (pi_range1 rfl T.z_range (pa_cons pe_int pa_nil)) (pg_name (i := 3) scL05.nd rfl (Or.inl rfl)) (pss_cons (ps_set (i := 4) scL05.nd rfl (Or.inl rfl) (pe_lst pa_nil))
      (pss_cons (ps_for PassesOwn.never rfl (pi_range1 rfl T.z_range (pa_cons (pe_op op_add pe_int (pcall C.law_take (hr.mono (by first | decide | omega)) (pa_cons (pv 1) (pa_cons (pe_ix ix_list (pe_lst (pa_cons pe_int (pa_cons pe_int pa_nil))) (pcall C.law_take (hr.mono (by first | decide | omega)) (pa_cons (pv 1) (pa_cons pe_int pa_nil))) (fun _ _ => rfl)) pa_nil)))) pa_nil)) (pg_name (i := 5) scL05.nd rfl (Or.inl rfl)) (pss_cons (ps_set (i := 6) scL05.nd rfl (Or.inl rfl) (pe_ix ix_list (pe_lst (pa_cons pe_int (pa_cons pe_int (pa_cons pe_int pa_nil)))) (pcall C.law_take (hr.mono (by first | decide | omega)) (pa_cons (pv 1) (pa_cons pe_int pa_nil))) (fun _ _ => rfl)))
      (pss_one (ps_expr (pe_bm PySem.F.plainAttrs_list PySem.F.slot_list_append PySem.F.type_list_append mt_append (pv 4) (pa_cons (pe_join pe_str (pe_lc (own := [("_law_j", 10)]) (g := gName 10) (tt := tYes) rfl scL05.nd (pi_range1 rfl T.z_range (pa_cons (pcall C.law_take (hr.mono (by first | decide | omega)) (pa_cons (pv 1) (pa_cons (pv 6) pa_nil))) pa_nil)) (blkOk_by (own := [("_law_j", 10)]) (N := ["_law_script", "_law_box", "_law_every", "_law_turn", "_law_fields", "_law_k", "_law_most", "_law_handed", "_law_text", "_law_found", "_law_j"]) (sc := defScope sL05) (by decide +kernel)) (fun _ _ _ _ _ => pg_name (i := 10) scL05.nd rfl (Or.inl rfl)) (fun _ _ _ _ _ => pts_nil) (fun _ _ _ _ _ => (pe_ix ix_str (pv 2) (pcall C.law_take (hr.mono (by first | decide | omega)) (pa_cons (pv 1) (pa_cons pe_int pa_nil))) (fun _ _ => rfl))))) pa_nil))))))
      (pss_cons (ps_set (i := 7) scL05.nd rfl (Or.inl rfl) (pe_callTy call_list_of (by rfl) T.z_list boot_list (pa_cons (pv 4) pa_nil)))
      (pss_cons (ps_set (i := 8) scL05.nd rfl (Or.inl rfl) (pcall C.packed (hr.mono (by first | decide | omega)) (pa_cons (pv 7) pa_nil)))
      (pss_cons (ps_if (PW.pt (pw_or (pt_not (pt_val (pcall C.law_alike (hr.mono (by first | decide | omega)) (pa_cons (pv 8) (pa_cons (pcall C.law_packed (hr.mono (by first | decide | omega)) (pa_cons (pv 4) pa_nil)) pa_nil))))) (pw_or1 (pt_cmpR (op_neD hr.units) (pv 7) (pv 4) (nomark _))))) (pss_one (ps_ret pe_bl)) pss_nil)
      (pss_cons (ps_set (i := 9) scL05.nd rfl (Or.inl rfl) (pcall C.unpacked (hr.mono (by first | decide | omega)) (pa_cons (pv 8) pa_nil)))
      (pss_cons (ps_if (pt_not (pt_val (pcall C.law_alike (hr.mono (by first | decide | omega)) (pa_cons (pv 9) (pa_cons (pv 4) pa_nil))))) (pss_one (ps_ret pe_bl)) pss_nil)
      (pss_cons (ps_expr (pe_bm PySem.F.plainAttrs_list PySem.F.slot_list_append PySem.F.type_list_append mt_append (pv 9) (pa_cons pe_str pa_nil)))
      (pss_one (ps_if (pt_not (pt_val (pcall C.law_alike (hr.mono (by first | decide | omega)) (pa_cons (pcall C.unpacked (hr.mono (by first | decide | omega)) (pa_cons (pv 8) pa_nil)) (pa_cons (pv 4) pa_nil))))) (pss_one (ps_ret pe_bl)) pss_nil)))))))))))
      (pss_one (ps_ret pe_bl))))), ?_⟩
    refine ⟨_, rfl, a, ns, rfl, hS, hlen, fun b l H0 e0 B0 => ?_⟩
    refine ⟨6, rfl, by decide, by decide, ?_⟩
    refine for_it walk_range (fun i σ H' => ∃ c3 c4 c5 c6 c7 c8 c9 c10, σ = [some (.ref a), some (.ref b), some (.str evl), c3, c4, c5, c6, c7, c8, c9, c10] ∧ Box H' b l ∧ H' T0 = some (TabO T0)) ⟨_, _, _, _, _, _, _, _, rfl, B0, e0 _ _ hT⟩ (fun _ _ _ _ _ => trivial) ?_ ?_
    · rintro i x σ H1o H1 hi ⟨c3, c4, c5, c6, c7, c8, c9, c10, rfl, B1, t1⟩ ⟨rfl, rfl⟩
      -- the fields
      refine ⟨Nat.zero_le _, fun r nr => ?_⟩
      have er : Ex H1 (upd H1 r (.lst [])) := Ex.new nr
      have Br := B1.ex er
      have hr0 : upd H1 r (.lst []) r = some (.lst ([] : List V)) := upd_same
      generalize upd H1 r (.lst []) = H2 at er Br hr0 ⊢
      refine ⟨_, rfl, (by show 2 ≤ sizeLine; decide), fun t nt => ?_⟩
      have Bt := Br.ex (Ex.new (o := .lst [.int 3, .int 46]) nt)
      refine ⟨_, rfl, b, l, _, rfl, Bt, by decide, by decide, fun k H4 e4 k0 k1 => ?_⟩
      have B4 := Bt.ex e4
      obtain ⟨m, hm, hm2⟩ : ∃ m : Int, atI [V.int 3, V.int 46] k = some (.int m) ∧ 0 < m ∧ m ≤ 46 := by
        rcases (show k = 0 ∨ k = 1 by omega) with rfl | rfl
        · exact ⟨3, rfl, by decide, by decide⟩
        · exact ⟨46, rfl, by decide, by decide⟩
      refine ⟨t, _, _, _, rfl, rfl, SqL.of (e4 _ _ upd_same), hm, b, l, _, rfl, B4, by omega, by omega, fun n H5 e5 n0 n1 => ?_⟩
      have x3 : Ex H2 H5 := ((Ex.new nt).trans e4).trans e5
      obtain ⟨nn, rfl⟩ : ∃ nn : Nat, n = (nn : Int) := ⟨n.toNat, by omega⟩
      refine ⟨1, (nn : Int), rfl, rfl, 1 + (nn : Int), rfl, by omega, by omega, ?_⟩
      have h5 := x3 _ _ hr0
      have x1 : Ex H1 H5 := er.trans x3
      clear e5 hm e4 B4 Bt x3 hr0 Br er
      refine for_it walk_range (fun j σ H' => ∃ c5 c6 fs, σ = [some (.ref a), some (.ref b), some (.str evl), some (.int (0 + (i : Nat))), some (.ref r), c5, c6, c7, c8, c9, c10] ∧ Ex H1 H' ∧ H' r = some (.lst (List.map V.str fs)) ∧ fs.length = j ∧ ∀ z ∈ fs, z.length ≤ 1000 ∧ 124 ∉ z.cps.toList ∧ ∀ c ∈ z.cps.toList, isS c = true)
        ⟨_, _, [], rfl, x1, h5, rfl, fun _ h => nomatch h⟩ (fun _ _ _ _ _ => trivial) ?_ ?_
      · rintro j x σ H6o H6 hj ⟨c5, c6, fs, rfl, e6, hr6, hl, hz⟩ ⟨rfl, rfl⟩
        have B6 := B1.ex e6
        refine ⟨(by show 3 ≤ sizeLine; decide), fun t nt => ?_⟩
        have Bt := B6.ex (Ex.new (o := .lst [.int 2, .int 9, .int 34]) nt)
        refine ⟨_, rfl, b, l, _, rfl, Bt, by decide, by decide, fun k H7 e7 k0 k1 => ?_⟩
        have B7 := Bt.ex e7
        obtain ⟨m, hm, hm1, hm2⟩ : ∃ m : Int, atI [V.int 2, V.int 9, V.int 34] k = some (.int m) ∧ 0 < m ∧ m ≤ 34 := by
          rcases (show k = 0 ∨ k = 1 ∨ k = 2 by omega) with rfl | rfl | rfl
          · exact ⟨2, rfl, by decide, by decide⟩
          · exact ⟨9, rfl, by decide, by decide⟩
          · exact ⟨34, rfl, by decide, by decide⟩
        refine ⟨t, _, _, _, rfl, rfl, SqL.of (e7 _ _ upd_same), hm, ?_⟩
        have e67 : Ex H6 H7 := (Ex.new nt).trans e7
        have hr7 := e67 _ _ hr6
        refine ⟨_, rfl, .inl ⟨rfl, _, SqL.of hr7⟩, ⟨_, rfl⟩, _, rfl, _, rfl, b, l, m, rfl, B7, hm1, by omega, fun n H8 e8 n0 n1 => ?_⟩
        refine ⟨n, rfl, by omega, by omega, fun D hD => ?_⟩
        refine lc_it walk_range (fun i H' => Ex H6 H' ∧ ∃ cs : List Nat, cs.length = i ∧ (∀ c ∈ cs, isS c = true ∧ c ≠ 124) ∧ H' D = some (.lst ((cs.map sg).map V.str))) ⟨(e67.trans e8).trans (Ex.new hD), [], rfl, (fun _ h => nomatch h), upd_same⟩ (fun _ _ _ _ => trivial) ?_ ?_
        · rintro i2 x H9o H9 hi2 ⟨e9, cs, hcl, hcs, hp⟩ ⟨rfl, rfl⟩
          refine ⟨rfl, yes_lc ?_⟩
          refine ⟨.str evl, rfl, _, rfl, b, l, 41, rfl, B6.ex e9, by decide, by decide, fun k H10 e10 k0 k1 => ?_⟩
          have hk : k.toNat < evl.cps.toList.length := by rw [evl_len]; omega
          refine ⟨evl, k, evl.cps.toList[k.toNat], rfl, rfl, by decide +kernel, at_ix (z := k) (j := k.toNat) (by omega) (List.getElem?_eq_getElem hk), _, e10 _ _ hp, ?_, ex_set (e9.trans e10) (fresh_back (e67.trans e8) hD), cs ++ [evl.cps.toList[k.toNat]], ?_, fun c hm => ?_, ?_⟩
          · rw [List.length_map, List.length_map, hcl]
            exact Nat.lt_of_lt_of_le hi2 (Nat.le_trans (m := 2000) (by omega) (by decide))
          · rw [List.length_append, hcl]
            rfl
          · rcases List.mem_append.mp hm with hm | hm
            · exact hcs c hm
            · rw [List.mem_singleton.mp hm]
              exact evl_ok _ (List.getElem_mem hk)
          · rw [upd_same, List.map_append, List.map_append]
            rfl
        · rintro H9 ⟨e9, cs, hcl, hcs, hp⟩
          refine ⟨_, D, cs.map sg, rfl, rfl, .inl (SqL.of hp), ?_, ?_⟩
          · rw [sg_sum, List.length_map]
            show cs.length + cs.length * 0 ≤ _
            omega
          · have ej : Txt.join (Str.ofString "") (cs.map sg) = txt cs := join0 cs
            rw [ej]
            refine ⟨r, _, _, rfl, rfl, e9 _ _ hr6, ?_, ?_⟩
            · rw [List.length_map, hl]
              exact Nat.lt_of_lt_of_le hj (Nat.le_trans (m := 100) (by omega) (by decide))
            · refine ⟨_, some (.int m), fs ++ [txt cs], rfl, ex_set (e6.trans e9) ?_, ?_, by rw [List.length_append, hl]; rfl, fun y hy => ?_⟩
              · exact nr
              · rw [upd_same, List.map_append]
                rfl
              · rcases List.mem_append.mp hy with hy | hy
                · exact hz y hy
                · rw [List.mem_singleton.mp hy]
                  refine ⟨by rw [txt_len]; omega, ?_, ?_⟩
                  · rw [txt_cps]
                    exact fun hm => (hcs 124 hm).2 rfl
                  · rw [txt_cps]
                    exact fun c hm => (hcs c hm).1
      · rintro σ H6 ⟨c5, c6, fs, rfl, e6, hr6, hl, hz⟩
        have hfl : fs.length ≤ 60 ∧ 1 ≤ fs.length := by omega
        have hF : Fields fs := ⟨fun e => by rw [e] at hfl; simp at hfl, by omega, hz⟩
        have hbS := body_isS fun z hm => (hz z hm).2.2
        have hbl := fields_body hF
        have hll := lett_len (l := bodyOf fs) (by omega)
        have t6 := e6 _ _ t1
        -- what is handed in
        refine ⟨_, rfl, r, _, rfl, .inl (SqL.of hr6), fun hd nh => ?_⟩
        have e7 : Ex H6 (upd H6 hd (.lst (fs.map V.str))) := Ex.new nh
        have hh7 : upd H6 hd (.lst (fs.map V.str)) hd = some (.lst (fs.map V.str)) := upd_same
        generalize upd H6 hd (.lst (fs.map V.str)) = H7 at e7 hh7 ⊢
        have hr7 := e7 _ _ hr6
        have t7 := e7 _ _ t6
        have B7 := (B1.ex e6).ex e7
        -- packed
        refine ⟨_, rfl, hd, fs, rfl, SqL.of hh7, hF, t7, ?_⟩
        have g0 : good 1 (.str (txt (lett (bodyOf fs)))) = true := lay_str (lett_low hbS)
        have g1 : good 1 (.list (fs.map PyData.str)) = true := good_strs (by omega) fun z hm c hc => isS_low ((hz z hm).2.2 c hc)
        have hsh := sh_of' g1 (by decide)
        refine ⟨_, rfl, _, rfl, r, fs, rfl, SqL.of hr7, hF.toL, _, _, _, rfl, .str _, .str _, g0, by decide, _, rfl, iteF ?_⟩
        refine ⟨_, rfl, _, rfl, .list (fs.map PyData.str), .list (fs.map PyData.str), .lst (SqL.of hh7) (dp_strs _), .lst (SqL.of hr7) (dp_strs _), hsh, hsh, _, rfl, ?_⟩
        rw [SeqAt.eqv_refl _ (good_lay _ _ g1).1]
        refine iteF ?_
        -- unpacked
        have hun := unp_lett hF.1 (fun z hm => (hz z hm).2.1) (fun z hm => (hz z hm).2.2)
        refine ⟨_, rfl, txt (lett (bodyOf fs)), rfl, by rw [txt_len]; omega, t7, fun hn => ?_, fun fs2 hs p H8 e8 np hp => ?_⟩
        · rw [txt_cps, hun] at hn
          cases hn
        rw [txt_cps, hun] at hs
        cases hs
        have hr8 := e8 _ _ hr7
        refine ⟨_, rfl, _, rfl, _, _, _, rfl, .lst (SqL.of hp) (dp_strs _), .lst (SqL.of hr8) (dp_strs _), g1, by decide, _, rfl, iteF ?_⟩
        refine ⟨_, rfl, .inl ⟨rfl, _, SqL.of hp⟩, p, _, _, rfl, rfl, hp, ?_, ?_⟩
        · rw [List.length_map]
          exact Nat.lt_of_le_of_lt hfl.1 (by decide)
        have e9 : Ex H7 (upd H8 p (.lst (fs.map V.str ++ [.str (Str.ofString "")]))) := ex_set e8 np
        generalize upd H8 p (.lst (fs.map V.str ++ [.str (Str.ofString "")])) = H9 at e9 ⊢
        refine ⟨_, rfl, txt (lett (bodyOf fs)), rfl, by rw [txt_len]; omega, e9 _ _ t7, fun hn => ?_, fun fs2 hs p2 H10 e10 np2 hp2 => ?_⟩
        · rw [txt_cps, hun] at hn
          cases hn
        rw [txt_cps, hun] at hs
        cases hs
        refine ⟨_, rfl, _, _, _, rfl, .lst (SqL.of hp2) (dp_strs _), .lst (SqL.of (e10 _ _ (e9 _ _ hr7))) (dp_strs _), g1, by decide, _, rfl, iteF ?_⟩
        exact ⟨_, _, _, _, _, _, _, _, rfl, B7.ex (e9.trans e10), e10 _ _ (e9 _ _ t7)⟩
    · rintro σ H' ⟨c3, c4, c5, c6, c7, c8, c9, c10, rfl, B1, t1⟩
      exact q _ t1
theorem ok_law {f T0 : Addr} {fd : FuncData} (F : Fun K "law" "law" sL05 f fd) (T : TLaw mg) (C : CLaw P w K mg base T0) : FnOk P w K mg base CX0 4 f fd ["_law_script"] (spLaw T0 K) := by
  refine tab_law (T := T0) (ok_law0 F T C) (fun vs H Q E h => ?_) fun vs H Q E h => ?_
  · obtain ⟨a, ns, rfl, _⟩ := h
    rfl
  · obtain ⟨a, ns, rfl, hS, hl, hT, q⟩ := h
    refine ⟨hT, a, ns, rfl, ?_, hl, upd_same, fun H' h' => ⟨h', fun H4 => q H4⟩⟩
    rcases hS with (hS | ⟨o, hS⟩) | hS
    · exact .inl (.inl (by rw [upd_ne (fun e => by rw [e, hT] at hS; cases hS)]; exact hS))
    · exact .inl (.inr ⟨o, by rw [upd_ne (fun e => by rw [e, hT] at hS; cases hS)]; exact hS⟩)
    · exact .inr hS
end
end Vf
namespace Vf
open PySem PySem.Spec PyProof.Rows L2 Evl GxR
/-! ### what the top has written -/
theorem all_mk {l : PySem.W.OpenLaw} {w : World} {K : PySem.W.Frag} {h : Heap} {mg : Str → Option Value} {fa f1 f2 f3 c0 T0 f4 f5 f6 f7 f8 f9 f10 : Addr} (X : K.In h) (G : h.Ns mainGlobals mg) (hfa : mg "law" = some (.ref fa))
    {od1 an1 od2 an2 od3 an3 od0 od4 an4 od5 an5 od6 an6 od7 an7 od8 an8 od9 an9 od10 an10 : Option Addr} {sl1 sl2 sl3 sl0 sl4 sl5 sl6 sl7 sl8 sl9 sl10 : Array (Option Value)} {oc1 kV1 dc1 pm1 cd1 ct1 oc2 kV2 dc2 pm2 cd2 ct2 oc3 kV3 dc3 pm3 ct3 oc0 oc4 kV4 dc4 pm4 cd4 ct4 oc5 kV5 dc5 pm5 cd5 ct5 oc6 kV6 dc6 pm6 cd6 ct6 oc7 kV7 dc7 pm7 cd7 ct7 oc8 kV8 dc8 pm8 cd8 ct8 oc9 kV9 dc9 pm9 cd9 ct9 oc10 kV10 dc10 pm10 cd10 ct10 : Value} {t_SIGNS t_BETWEEN t_SUM_TIMES t_SUM_REST : Tok} {vs0 : Array Value}
    (a1 : PySem.W.nsIn K mainGlobals "sum_of" = some (some (.ref f1))) (l1 : K.lookup f1 = some ⟨oc1, od1, .func (PySem.W.fnOf "sum_of" "sum_of" (defArgs sSum) (defBody sSum) (defScope sSum) .none kV1 dc1 pm1 an1 cd1 ct1), sl1⟩) (c1 : PySem.W.codeIn K cd1 "sum_of" = true) (k1 : PySem.W.keepIn K (.ref f1) = true)
    (a2 : PySem.W.nsIn K mainGlobals "letter_of" = some (some (.ref f2))) (l2 : K.lookup f2 = some ⟨oc2, od2, .func (PySem.W.fnOf "letter_of" "letter_of" (defArgs sLet) (defBody sLet) (defScope sLet) .none kV2 dc2 pm2 an2 cd2 ct2), sl2⟩) (c2 : PySem.W.codeIn K cd2 "letter_of" = true) (k2 : PySem.W.keepIn K (.ref f2) = true)
    (a3 : PySem.W.nsIn K mainGlobals "has_only_signs" = some (some (.ref f3))) (l3 : K.lookup f3 = some ⟨oc3, od3, .func (PySem.W.fnOf "has_only_signs" "has_only_signs" (defArgs sHas) (defBody sHas) (defScope sHas) .none kV3 dc3 pm3 an3 (.ref c0) ct3), sl3⟩) (c3 : PySem.W.codeIn K (.ref c0) "has_only_signs" = true) (k3 : PySem.W.keepIn K (.ref f3) = true)
    (lc : K.lookup c0 = some ⟨oc0, od0, .fields vs0, sl0⟩) (v11 : vs0[11]? = some (.ref T0)) (noT : K.lookup T0 = none)
    (a4 : PySem.W.nsIn K mainGlobals "packed" = some (some (.ref f4))) (l4 : K.lookup f4 = some ⟨oc4, od4, .func (PySem.W.fnOf "packed" "packed" (defArgs sPac) (defBody sPac) (defScope sPac) .none kV4 dc4 pm4 an4 cd4 ct4), sl4⟩) (c4 : PySem.W.codeIn K cd4 "packed" = true) (k4 : PySem.W.keepIn K (.ref f4) = true)
    (a5 : PySem.W.nsIn K mainGlobals "unpacked" = some (some (.ref f5))) (l5 : K.lookup f5 = some ⟨oc5, od5, .func (PySem.W.fnOf "unpacked" "unpacked" (defArgs sUnp) (defBody sUnp) (defScope sUnp) .none kV5 dc5 pm5 an5 cd5 ct5), sl5⟩) (c5 : PySem.W.codeIn K cd5 "unpacked" = true) (k5 : PySem.W.keepIn K (.ref f5) = true)
    (a6 : PySem.W.nsIn K mainGlobals "_law_begun" = some (some (.ref f6))) (l6 : K.lookup f6 = some ⟨oc6, od6, .func (PySem.W.fnOf "_law_begun" "_law_begun" (defArgs sBeg) (defBody sBeg) (defScope sBeg) .none kV6 dc6 pm6 an6 cd6 ct6), sl6⟩) (c6 : PySem.W.codeIn K cd6 "_law_begun" = true) (k6 : PySem.W.keepIn K (.ref f6) = true)
    (a7 : PySem.W.nsIn K mainGlobals "_law_take" = some (some (.ref f7))) (l7 : K.lookup f7 = some ⟨oc7, od7, .func (PySem.W.fnOf "_law_take" "_law_take" (defArgs sTak) (defBody sTak) (defScope sTak) .none kV7 dc7 pm7 an7 cd7 ct7), sl7⟩) (c7 : PySem.W.codeIn K cd7 "_law_take" = true) (k7 : PySem.W.keepIn K (.ref f7) = true)
    (a8 : PySem.W.nsIn K mainGlobals "_law_alike" = some (some (.ref f8))) (l8 : K.lookup f8 = some ⟨oc8, od8, .func (PySem.W.fnOf "_law_alike" "_law_alike" (defArgs sAli) (defBody sAli) (defScope sAli) .none kV8 dc8 pm8 an8 cd8 ct8), sl8⟩) (c8 : PySem.W.codeIn K cd8 "_law_alike" = true) (k8 : PySem.W.keepIn K (.ref f8) = true)
    (a9 : PySem.W.nsIn K mainGlobals "_law_packed" = some (some (.ref f9))) (l9 : K.lookup f9 = some ⟨oc9, od9, .func (PySem.W.fnOf "_law_packed" "_law_packed" (defArgs sLpk) (defBody sLpk) (defScope sLpk) .none kV9 dc9 pm9 an9 cd9 ct9), sl9⟩) (c9 : PySem.W.codeIn K cd9 "_law_packed" = true) (k9 : PySem.W.keepIn K (.ref f9) = true)
    (a10 : PySem.W.nsIn K mainGlobals "law" = some (some (.ref f10))) (l10 : K.lookup f10 = some ⟨oc10, od10, .func (PySem.W.fnOf "law" "law" (defArgs sL05) (defBody sL05) (defScope sL05) .none kV10 dc10 pm10 an10 cd10 ct10), sl10⟩) (c10 : PySem.W.codeIn K cd10 "law" = true) (k10 : PySem.W.keepIn K (.ref f10) = true)
    (z_list : PySem.W.nsIn K mainGlobals "list" = some none)
    (z_int : PySem.W.nsIn K mainGlobals "int" = some none)
    (z_len : PySem.W.nsIn K mainGlobals "len" = some none)
    (z_bool : PySem.W.nsIn K mainGlobals "bool" = some none)
    (z_str : PySem.W.nsIn K mainGlobals "str" = some none)
    (z_tuple : PySem.W.nsIn K mainGlobals "tuple" = some none)
    (z_isinstance : PySem.W.nsIn K mainGlobals "isinstance" = some none)
    (z_range : PySem.W.nsIn K mainGlobals "range" = some none)
    (z_all : PySem.W.nsIn K mainGlobals "all" = some none)
    (mg_SIGNS : PySem.W.nsIn K mainGlobals "SIGNS" = some (some (.str SGN t_SIGNS)))
    (mg_BETWEEN : PySem.W.nsIn K mainGlobals "BETWEEN" = some (some (.str "|" t_BETWEEN)))
    (mg_SUM_TIMES : PySem.W.nsIn K mainGlobals "SUM_TIMES" = some (some (.int 61 t_SUM_TIMES)))
    (mg_SUM_REST : PySem.W.nsIn K mainGlobals "SUM_REST" = some (some (.int 9973 t_SUM_REST)))
    : ∃ (c T : Addr) (fd : FuncData), PySem.W.tabIn K "has_only_signs" = some (c, T) ∧ K.lookup T = none ∧ (∀ (s : Shared) (v : Value), BindsTo s fd ⟨[v], []⟩ [("_law_script", v)]) ∧ ∀ base : Heap, K.In base → base.Ns mainGlobals mg → TabB base mg c T → FnOk l.prog w K mg base CX0 4 fa fd ["_law_script"] (spLaw T K) := by
  have e := hfa.symm.trans (PySem.W.mg_of X G a10)
  cases e
  have FSum := fun_mk (st := sSum) l1 c1 k1
  have bSum := FSum.binds (ps := ["body"]) fun _ _ _ _ _ _ us hl => match us, hl with | [_], _ => rfl
  have mSum := PySem.W.mg_of X G a1
  have FLet := fun_mk (st := sLet) l2 c2 k2
  have bLet := FLet.binds (ps := ["body"]) fun _ _ _ _ _ _ us hl => match us, hl with | [_], _ => rfl
  have mLet := PySem.W.mg_of X G a2
  have tabH : PySem.W.tabIn K "has_only_signs" = some (c0, T0) := tabIn_of a3 l3 rfl lc v11
  have FHas := fun_mk (st := sHas) l3 c3 k3
  have bHas := FHas.binds (ps := ["body"]) fun _ _ _ _ _ _ us hl => match us, hl with | [_], _ => rfl
  have mHas := PySem.W.mg_of X G a3
  have FPac := fun_mk (st := sPac) l4 c4 k4
  have bPac := FPac.binds (ps := ["fields"]) fun _ _ _ _ _ _ us hl => match us, hl with | [_], _ => rfl
  have mPac := PySem.W.mg_of X G a4
  have FUnp := fun_mk (st := sUnp) l5 c5 k5
  have bUnp := FUnp.binds (ps := ["text"]) fun _ _ _ _ _ _ us hl => match us, hl with | [_], _ => rfl
  have mUnp := PySem.W.mg_of X G a5
  have FBeg := fun_mk (st := sBeg) l6 c6 k6
  have bBeg := FBeg.binds (ps := ["_law_script"]) fun _ _ _ _ _ _ us hl => match us, hl with | [_], _ => rfl
  have mBeg := PySem.W.mg_of X G a6
  have FTak := fun_mk (st := sTak) l7 c7 k7
  have bTak := FTak.binds (ps := ["_law_box", "_law_many"]) fun _ _ _ _ _ _ us hl => match us, hl with | [_, _], _ => rfl
  have mTak := PySem.W.mg_of X G a7
  have FAli := fun_mk (st := sAli) l8 c8 k8
  have bAli := FAli.binds (ps := ["_law_found", "_law_due"]) fun _ _ _ _ _ _ us hl => match us, hl with | [_, _], _ => rfl
  have mAli := PySem.W.mg_of X G a8
  have FLpk := fun_mk (st := sLpk) l9 c9 k9
  have bLpk := FLpk.binds (ps := ["_law_fields"]) fun _ _ _ _ _ _ us hl => match us, hl with | [_], _ => rfl
  have mLpk := PySem.W.mg_of X G a9
  have FL05 := fun_mk (st := sL05) l10 c10 k10
  have bL05 := FL05.binds (ps := ["_law_script"]) fun _ _ _ _ _ _ us hl => match us, hl with | [_], _ => rfl
  have mL05 := PySem.W.mg_of X G a10
  have TBeg_ : TBeg mg := ⟨PySem.W.mg_none_of X G z_list, PySem.W.mg_none_of X G z_int, PySem.W.mg_none_of X G z_len⟩
  have TAli_ : TAli mg := ⟨PySem.W.mg_none_of X G z_bool, PySem.W.mg_none_of X G z_int, PySem.W.mg_none_of X G z_str, PySem.W.mg_none_of X G z_list, PySem.W.mg_none_of X G z_tuple, PySem.W.mg_none_of X G z_isinstance, PySem.W.mg_none_of X G z_len, PySem.W.mg_none_of X G z_range⟩
  have TLet_ : TLet mg := ⟨PySem.W.mg_none_of X G z_len, PySem.W.mg_none_of X G z_all, ⟨_, PySem.W.mg_of X G mg_SIGNS⟩, ⟨_, PySem.W.mg_of X G mg_BETWEEN⟩, ⟨_, PySem.W.mg_of X G mg_SUM_TIMES⟩, ⟨_, PySem.W.mg_of X G mg_SUM_REST⟩⟩
  have TLpk_ : TLpk mg := ⟨PySem.W.mg_none_of X G z_len, PySem.W.mg_none_of X G z_str⟩
  have TLaw_ : TLaw mg := ⟨PySem.W.mg_none_of X G z_range, PySem.W.mg_none_of X G z_list⟩
  refine ⟨c0, T0, PySem.W.fnOf "law" "law" (defArgs sL05) (defBody sL05) (defScope sL05) .none kV10 dc10 pm10 an10 cd10 ct10, tabH, noT, fun s v => ?_, fun base _ _ tab => ?_⟩
  case refine_2 =>
    have cBeg : Cal l.prog w K mg base "_law_begun" 1 _ (spBeg K) := ⟨⟨_, _, ok_begun FBeg TBeg_, mBeg, FBeg.kp, bBeg⟩⟩
    have cTak : Cal l.prog w K mg base "_law_take" 1 _ spTak := ⟨⟨_, _, ok_take2 FTak, mTak, FTak.kp, bTak⟩⟩
    have cAli : Cal l.prog w K mg base "_law_alike" 2 _ (spAli K 1) := ⟨⟨_, _, ok_alike FAli TAli_ mAli bAli 1, mAli, FAli.kp, bAli⟩⟩
    have cSum : Cal l.prog w K mg base "sum_of" 1 _ spSum := ⟨⟨_, _, ok_sum FSum TLet_, mSum, FSum.kp, bSum⟩⟩
    have cLet : Cal l.prog w K mg base "letter_of" 2 _ spLet := ⟨⟨_, _, ok_let FLet TLet_ ⟨cSum⟩, mLet, FLet.kp, bLet⟩⟩
    have cHas : Cal l.prog w K mg base "has_only_signs" 1 _ (spHas T0) := ⟨⟨_, _, ok_has l3 c3 tab TLet_, mHas, FHas.kp, bHas⟩⟩
    have cPac : Cal l.prog w K mg base "packed" 3 _ (spPac T0 K) := ⟨⟨_, _, ok_pac FPac TLet_ ⟨cLet, cHas⟩, mPac, FPac.kp, bPac⟩⟩
    have cUnp : Cal l.prog w K mg base "unpacked" 3 _ (spUnp T0) := ⟨⟨_, _, ok_unp FUnp TLet_ ⟨cLet, cHas⟩, mUnp, FUnp.kp, bUnp⟩⟩
    have cLpk : Cal l.prog w K mg base "_law_packed" 1 _ (spLpk K) := ⟨⟨_, _, ok_lpk FLpk TLpk_, mLpk, FLpk.kp, bLpk⟩⟩
    exact ok_law FL05 TLaw_ ⟨cBeg, cTak, cLpk, cAli, cPac, cUnp⟩
  case refine_1 => exact .of_eq rfl
end Vf
open PySem PySem.W PyProof.Rows in
set_option maxRecDepth 100000 in
set_option maxHeartbeats 0 in
theorem PySem.Challenge.cw_attachhall_k05_letters_packed_holds : PySem.Challenge.rw_attachhall_k05_letters_packed.Holds := by
  w_on; o_law; k_head; (case hw => w_witness2)
  k_fill
  refine Vf.walk_tab (l := PySem.Challenge.rw_attachhall_k05_letters_packed) (n := 63) (k := 4) (x := "_law_script") (y := "has_only_signs") (sp := fun T K => Vf.spLaw T K) rfl (by decide) rfl ⟨rfl, by decide, by decide⟩ (by rfl) (fun w h Y => PySem.W.kIn_of Y) ?F (fun T K H a ns hl hT hS => ⟨a, ns, rfl, hS, hl, hT, fun _ => rfl⟩)
  case F =>
    intro w mg fa h KX G hmg
    refine' Vf.all_mk KX G hmg ?a1 ?l1 ?c1 ?k1 ?a2 ?l2 ?c2 ?k2 ?a3 ?l3 ?c3 ?k3 ?lc ?v11 ?noT ?a4 ?l4 ?c4 ?k4 ?a5 ?l5 ?c5 ?k5 ?a6 ?l6 ?c6 ?k6 ?a7 ?l7 ?c7 ?k7 ?a8 ?l8 ?c8 ?k8 ?a9 ?l9 ?c9 ?k9 ?a10 ?l10 ?c10 ?k10 ?z_list ?z_int ?z_len ?z_bool ?z_str ?z_tuple ?z_isinstance ?z_range ?z_all ?mg_SIGNS ?mg_BETWEEN ?mg_SUM_TIMES ?mg_SUM_REST
    (case a1 => k_is)
    (case l1 => k_is)
    (case c1 => k_is)
    (case k1 => k_is)
    (case a2 => k_is)
    (case l2 => k_is)
    (case c2 => k_is)
    (case k2 => k_is)
    (case a3 => k_is)
    (case l3 => k_is)
    (case c3 => k_is)
    (case k3 => k_is)
    (case lc => k_is)
    (case v11 => rfl)
    (case noT => kernel_rfl)
    (case a4 => k_is)
    (case l4 => k_is)
    (case c4 => k_is)
    (case k4 => k_is)
    (case a5 => k_is)
    (case l5 => k_is)
    (case c5 => k_is)
    (case k5 => k_is)
    (case a6 => k_is)
    (case l6 => k_is)
    (case c6 => k_is)
    (case k6 => k_is)
    (case a7 => k_is)
    (case l7 => k_is)
    (case c7 => k_is)
    (case k7 => k_is)
    (case a8 => k_is)
    (case l8 => k_is)
    (case c8 => k_is)
    (case k8 => k_is)
    (case a9 => k_is)
    (case l9 => k_is)
    (case c9 => k_is)
    (case k9 => k_is)
    (case a10 => k_is)
    (case l10 => k_is)
    (case c10 => k_is)
    (case k10 => k_is)
    (case z_list => k_is)
    (case z_int => k_is)
    (case z_len => k_is)
    (case z_bool => k_is)
    (case z_str => k_is)
    (case z_tuple => k_is)
    (case z_isinstance => k_is)
    (case z_range => k_is)
    (case z_all => k_is)
    (case mg_SIGNS => k_is)
    (case mg_BETWEEN => k_is)
    (case mg_SUM_TIMES => k_is)
    (case mg_SUM_REST => k_is)
#print axioms PySem.Challenge.cw_attachhall_k05_letters_packed_holds
