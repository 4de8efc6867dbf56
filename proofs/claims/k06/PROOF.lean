import PyProof.Rows.All
import Wide.All
import OpenK.AllK
import Wide.FinOn
import HandS.ForMost
import HandS.Evl
import HandS.IsInst
import HandS.FStr
import HandS.StrMore
import HandS.AnyAll
import HandS.Walk
import HandS.Replace
import HandS.EndTab
import HandS.Style
import HandS.Small
import HandS.Flow
import HandS.Star
import HandS.More
import KE.GoesMore
import KE.KUnpackStar
import HandS.NoneIn
import HandS.RaiseMore
import HandS.StrSplit
import PySem.Challenge.RW_attachhall_k06_texts_that_are_no_letter
set_option Elab.async false
set_option linter.all false
set_option maxRecDepth 100000
set_option maxHeartbeats 4000000
namespace Vf
open PySem PySem.Spec PyProof.Rows L2 Evl
/-! ### a def of the text that may be called by its name -/
structure Cal (P : Program) (w : World) (K : PySem.W.Frag) (mg : Str → Option Value) (base : Heap) (x : Str) (k : Nat) (ps : List Str) (sp : Sp) : Prop where
  ex : ∃ (f : Addr) (fd : FuncData), FnOk P w K mg base CX0 k f fd ps sp ∧ mg x = some (.ref f) ∧ PySem.W.keepIn K (.ref f) = true ∧ Binds K fd ps []
theorem Cal.mono {P : Program} {w : World} {K : PySem.W.Frag} {mg : Str → Option Value} {base : Heap} {x : Str} {k j : Nat} {ps : List Str} {sp : Sp} (c : Cal P w K mg base x k ps sp) (h : k ≤ j) : Cal P w K mg base x j ps sp := by
  obtain ⟨f, fd, F, a, b, c⟩ := c.ex
  exact ⟨f, fd, F.mono h, a, b, c⟩
theorem Cal.imp {P : Program} {w : World} {K : PySem.W.Frag} {mg : Str → Option Value} {base : Heap} {x : Str} {k : Nat} {ps : List Str} {sp sp' : Sp} (c : Cal P w K mg base x k ps sp)
    (h : ∀ vs H Q E, sp' vs H Q E → sp vs H Q E) : Cal P w K mg base x k ps sp' := by
  obtain ⟨f, fd, F, a, b, c⟩ := c.ex
  exact ⟨f, fd, F.imp h, a, b, c⟩
section
variable {X : Cx} {x : Str} {k : Nat} {ps : List Str} {sp : Sp} {e : Expr} {es : List Expr} {t : TA} {p pos : Pos}
theorem pcall (c : Cal X.prog X.w X.K X.mg X.base x k ps sp) (hr : Room k X.A) (ha : PA X (e :: es) t) (hg : Gl X x := by rfl)
    (hdb : (x == ("__debug__" : Str)) = false := by decide) (he : starEach (e :: es) X.env = (false, eval e X.env) :: starEach es X.env := by rfl) (hpl : (backTo pos (starEach es X.env)).any (·.1) = false := by rfl) :
    PE X (.Call (.Name x p) (e :: es) [] pos) (tCall sp [] E0 t) := by
  obtain ⟨f, fd, F, hm, hk, hb⟩ := c.ex
  exact pe_call F hr hg hm hk hb .nil pass0 ha hdb he hpl
theorem pcall0 (c : Cal X.prog X.w X.K X.mg X.base x k ps sp) (hr : Room k X.A) (hg : Gl X x := by rfl)
    (hdb : (x == ("__debug__" : Str)) = false := by decide) :
    PE X (.Call (.Name x p) [] [] pos) (tCall sp [] E0 tNil) := by
  obtain ⟨f, fd, F, hm, hk, hb⟩ := c.ex
  exact pe_call0 F hr hg hm hk hb .nil pass0 hdb
end
/-! ### a constant of the module -/
section
variable {X : Cx} {x : Str} {pos : Pos}
theorem pgI {i : Int} (h : ∃ t, X.mg x = some (.int i t)) (hg : Gl X x := by rfl) (hdb : (x == ("__debug__" : Str)) = false := by decide) : PE X (.Name x pos) (tC (.int i)) := by
  obtain ⟨t, h⟩ := h
  exact pe_glob hg h ⟨_, rfl⟩ hdb
theorem pgS {i : Str} (h : ∃ t, X.mg x = some (.str i t)) (hg : Gl X x := by rfl) (hdb : (x == ("__debug__" : Str)) = false := by decide) : PE X (.Name x pos) (tC (.str i)) := by
  obtain ⟨t, h⟩ := h
  exact pe_glob hg h ⟨_, rfl⟩ hdb
end
theorem yes_lc {σ : L2.St} {H : Hp} {f g : Hp → Prop} (h : f H) : tYes σ H (fun b H3 => if b = true then f H3 else g H3) := by
  show if true = true then f H else g H
  rw [if_pos rfl]
  exact h
/-! ### two addresses apart, a heap that grows -/
theorem ne_new {H : Hp} {a p : Addr} {o : HO} (h : H a = some o) (n : H p = none) : a ≠ p := ne_of_none h n
theorem ex_set {H H1 : Hp} {p : Addr} {o : HO} (e : Ex H H1) (n : H p = none) : Ex H (upd H1 p o) := Ex.mut e n
/-! ### the box of numbers, hidden: which numbers it holds is left open -/
def lstObj (its : List Value) (n : Nat) : Obj := { cls := .type "list", data := .seq its.toArray n }
def BoxO (b l : Addr) : HO := .ext fun h => ∃ (z : Int) (its : List Value) (n : Nat), Vals [.ref l, .int z] its ∧ h.get? b = some (lstObj its n)
def IntsO (l : Addr) : HO := .ext fun h => ∃ (ns : List Int) (its : List Value) (n : Nat), ns.length ≤ sizeLine ∧ Vals (ns.map V.int) its ∧ h.get? l = some (lstObj its n)
/-- the box stands at b, its numbers at l -/
def Box (H : Hp) (b l : Addr) : Prop := b ≠ l ∧ H b = some (BoxO b l) ∧ H l = some (IntsO l)
theorem Box.ex {H H' : Hp} {b l : Addr} (h : Box H b l) (e : Ex H H') : Box H' b l := ⟨h.1, e _ _ h.2.1, e _ _ h.2.2⟩
def opened (H : Hp) (b l : Addr) (z : Int) (ns : List Int) : Hp := upd (upd H l (.lst (ns.map V.int))) b (.lst [.ref l, .int z])
def closed (H : Hp) (b l : Addr) : Hp := upd (upd H l (IntsO l)) b (BoxO b l)
section
variable {P : Program} {w : World} {H H' : Hp} {h h' : Heap} {b l a : Addr} {z : Int} {ns : List Int}
theorem upd2_ne {o u : HO} (h1 : a ≠ b) (h2 : a ≠ l) : upd (upd H l o) b u a = H a := by rw [upd_ne h1, upd_ne h2]
theorem own_ne {o : HO} {φ : Heap → Prop} (hb : H b = some (.ext φ)) (h : H a = some o) (n : ∀ φ, o ≠ .ext φ) : a ≠ b := by
  rintro rfl
  rw [hb] at h
  exact n _ (Option.some.inj h).symm
theorem hok_open (x : HOk P w H h) (B : Box H b l) : ∃ z ns, HOk P w (opened H b l z ns) h := by
  obtain ⟨hne, hb, hl⟩ := B
  obtain ⟨⟨z, its, n, r, g⟩, _⟩ := (show ObjOk P w H h b (BoxO b l) from x b _ hb)
  obtain ⟨⟨ns, its', n', hz, r', g'⟩, _⟩ := (show ObjOk P w H h l (IntsO l) from x l _ hl)
  refine ⟨z, ns, fun a o e => ?_⟩
  unfold opened at e
  by_cases h1 : a = b
  · subst h1
    rw [upd_same] at e
    cases e
    exact ⟨by show 2 ≤ sizeLine; decide, its, n, r, g⟩
  · rw [upd_ne h1] at e
    by_cases h2 : a = l
    · subst h2
      rw [upd_same] at e
      cases e
      exact ⟨by rw [List.length_map]; exact hz, its', n', r', g'⟩
    · rw [upd_ne h2] at e
      refine (x a o e).stay (fun _ _ _ q => q) (fun c q => ?_) (fun c xs q => ?_)
      · unfold opened
        rw [upd2_ne (own_ne hb q (fun _ z => by cases z)) (own_ne hl q (fun _ z => by cases z))]
        exact q
      · unfold opened
        rw [upd2_ne (own_ne hb q (fun _ z => by cases z)) (own_ne hl q (fun _ z => by cases z))]
        exact q
theorem lst_ne {o : HO} {xs : List V} (hb : H b = some (.lst xs)) (h : H a = some o) (n : ∀ xs, o ≠ .lst xs) : a ≠ b := by
  rintro rfl
  rw [hb] at h
  exact n _ (Option.some.inj h).symm
theorem hok_close (x : HOk P w H h) (hb : H b = some (.lst [.ref l, .int z])) (hl : H l = some (.lst (ns.map V.int))) : HOk P w (closed H b l) h := by
  obtain ⟨_, its, n, r, g⟩ := (show ObjOk P w H h b (.lst _) from x b _ hb)
  obtain ⟨hz, its', n', r', g'⟩ := (show ObjOk P w H h l (.lst _) from x l _ hl)
  intro a o e
  unfold closed at e
  by_cases h1 : a = b
  · subst h1
    rw [upd_same] at e
    cases e
    exact ⟨⟨z, its, n, r, g⟩, ⟨_, g⟩, fun h1 h2 ⟨z, its, n, r, g⟩ k => ⟨z, its, n, r, k _ g⟩⟩
  · rw [upd_ne h1] at e
    by_cases h2 : a = l
    · subst h2
      rw [upd_same] at e
      cases e
      exact ⟨⟨ns, its', n', by rw [List.length_map] at hz; exact hz, r', g'⟩, ⟨_, g'⟩, fun h1 h2 ⟨ns, its, n, hz, r, g⟩ k => ⟨ns, its, n, hz, r, k _ g⟩⟩
    · rw [upd_ne h2] at e
      refine (x a o e).stay (fun _ _ _ q => q) (fun c q => ?_) (fun c xs q => ?_)
      · unfold closed
        rw [upd2_ne (lst_ne hb q (fun _ z => by cases z)) (lst_ne hl q (fun _ z => by cases z))]
        exact q
      · unfold closed
        rw [upd2_ne (lst_ne hb q (fun _ z => by cases z)) (lst_ne hl q (fun _ z => by cases z))]
        exact q
theorem un_hide {fs ex : List Addr} {H2 : Hp} (B : Box H b l) (u : Un fs ex (opened H b l z ns) H2 h h') : Un fs ex H (closed H2 b l) h h' := by
  obtain ⟨hne, hb, hl⟩ := B
  have none_ne : ∀ c, H c = none → c ≠ b ∧ c ≠ l := fun c q => ⟨fun e => (by rw [e, hb] at q; cases q), fun e => (by rw [e, hl] at q; cases q)⟩
  have non : ∀ c, H c = none → opened H b l z ns c = none := fun c q => by
    unfold opened
    rw [upd2_ne (none_ne c q).1 (none_ne c q).2]
    exact q
  have ne2 : ∀ c o, H c = some o → (∀ φ, o ≠ .ext φ) → c ≠ b ∧ c ≠ l := fun c o q n => ⟨own_ne hb q n, own_ne hl q n⟩
  refine ⟨fun c o q n => u.keep c o q (non c n), fun c o q n => u.slot c o q (non c n), fun c o q n hx => ?_, u.there, fun c xs q => ?_, fun c o v q => ?_, fun c ps q => ?_⟩
  · unfold closed
    rw [upd2_ne (none_ne c n).1 (none_ne c n).2]
    exact u.free c o q (non c n) hx
  · have d := ne2 c _ q (fun _ z => by cases z)
    unfold closed
    rw [upd2_ne d.1 d.2]
    exact u.tups c xs (by unfold opened; rw [upd2_ne d.1 d.2]; exact q)
  · have d := ne2 c _ q (fun _ z => by cases z)
    unfold closed
    rw [upd2_ne d.1 d.2]
    exact u.frzs c o v (by unfold opened; rw [upd2_ne d.1 d.2]; exact q)
  · have d := ne2 c _ q (fun _ z => by cases z)
    unfold closed
    rw [upd2_ne d.1 d.2]
    exact u.tbls c ps (by unfold opened; rw [upd2_ne d.1 d.2]; exact q)
theorem ex_new2 {H2 : Hp} (e : Ex H H2) (n1 : H b = none) (n2 : H l = none) : Ex H (closed H2 b l) := fun c o q => by
  have d1 : c ≠ b := ne_of_none q n1
  have d2 : c ≠ l := ne_of_none q n2
  unfold closed
  rw [upd2_ne d1 d2]
  exact e c o q
theorem un_new {fs : List Addr} {H2 : Hp} (u : Un fs [] H H2 h h') (n1 : H b = none) (n2 : H l = none) (hb : H2 b = some (.lst [.ref l, .int z])) (hl : H2 l = some (.lst (ns.map V.int))) : Un fs [] H (closed H2 b l) h h' := by
  have old : ∀ c o, h.get? c = some o → H c = none → c ≠ b ∧ c ≠ l := fun c o q n => by
    have f := u.free c o q n (by simp)
    exact ⟨fun e => (by rw [e, hb] at f; cases f), fun e => (by rw [e, hl] at f; cases f)⟩
  have ne2 : ∀ c o, H c = some o → c ≠ b ∧ c ≠ l := fun c o q => ⟨ne_of_none q n1, ne_of_none q n2⟩
  refine ⟨u.keep, u.slot, fun c o q n hx => ?_, u.there, fun c xs q => ?_, fun c o v q => ?_, fun c ps q => ?_⟩
  · unfold closed
    rw [upd2_ne (old c o q n).1 (old c o q n).2]
    exact u.free c o q n hx
  · have d := ne2 c _ q
    unfold closed
    rw [upd2_ne d.1 d.2]
    exact u.tups c xs q
  · have d := ne2 c _ q
    unfold closed
    rw [upd2_ne d.1 d.2]
    exact u.frzs c o v q
  · have d := ne2 c _ q
    unfold closed
    rw [upd2_ne d.1 d.2]
    exact u.tbls c ps q
theorem ex_hide {H2 : Hp} (B : Box H b l) (e : ∀ c o, c ≠ b → c ≠ l → H c = some o → H2 c = some o) : Ex H (closed H2 b l) := by
  obtain ⟨hne, hb, hl⟩ := B
  intro c o q
  unfold closed
  by_cases h1 : c = b
  · subst h1
    rw [upd_same, ← hb]
    exact q
  · rw [upd_ne h1]
    by_cases h2 : c = l
    · subst h2
      rw [upd_same, ← hl]
      exact q
    · rw [upd_ne h2]
      exact e c o h1 h2 q
end
/-- what a def that works upon the open box promises -/
def spOpen (R : V → Prop) (pre : List V → Prop) : Sp := fun vs H Q _ => ∃ (b l : Addr) (z : Int) (ns : List Int) (rest : List V), vs = .ref b :: rest ∧ pre rest ∧ b ≠ l ∧ H b = some (.lst [.ref l, .int z]) ∧ H l = some (.lst (ns.map V.int)) ∧
  ∀ (v : V) (H' : Hp) (z' : Int) (ns' : List Int), R v → (∀ c o, c ≠ b → c ≠ l → H c = some o → H' c = some o) → H' b = some (.lst [.ref l, .int z']) → H' l = some (.lst (ns'.map V.int)) → Q v H'
/-- what it promises where the box is hidden -/
def spHid (R : V → Prop) (pre : List V → Prop) : Sp := fun vs H Q _ => ∃ (b l : Addr) (rest : List V), vs = .ref b :: rest ∧ pre rest ∧ Box H b l ∧ ∀ (v : V) (H' : Hp), R v → Ex H H' → Q v H'
section
variable {P : Program} {w : World} {K : PySem.W.Frag} {mg : Str → Option Value} {base : Heap}
theorem hide_fn {k : Nat} {f : Addr} {fd : FuncData} {ps : List Str} {R : List V → V → Prop} {pre : List V → Prop} (F : ∀ r0, pre r0 → FnOk P w K mg base CX0 k f fd ps (spOpen (R r0) fun r => r = r0)) (hl : ∀ r, pre r → r.length + 1 = ps.length) :
    FnOk P w K mg base CX0 k f fd ps (fun vs H Q _ => ∃ (b l : Addr) (rest : List V), vs = .ref b :: rest ∧ pre rest ∧ Box H b l ∧ ∀ (v : V) (H' : Hp), R rest v → Ex H H' → Q v H') := by
  refine ⟨fun vs H Q E h => ?_, fun A outer s H args us vs Q E hr e0 hb hv h => ?_⟩
  · obtain ⟨b, l, rest, rfl, hp, _⟩ := h
    exact hl _ hp
  · obtain ⟨b, l, rest, rfl, hp, B, q⟩ := h
    obtain ⟨z, ns, ok⟩ := hok_open e0.hok B
    have non : ∀ c, H c = none → opened H b l z ns c = none := fun c n => by
      have h1 : c ≠ b := fun e => by rw [e, B.2.1] at n; cases n
      have h2 : c ≠ l := fun e => by rw [e, B.2.2] at n; cases n
      unfold opened
      rw [upd2_ne h1 h2]
      exact n
    have e1 : Env0 P w K mg base A outer s (opened H b l z ns) := ⟨e0.frames, e0.mod, fun c o g => ⟨(e0.bs c o g).1, non c (e0.bs c o g).2⟩, e0.bsz, e0.funs, fun c g => non c (e0.frf c g), ok, e0.bare⟩
    refine codeAny_mono ((F rest hp).run A outer s (opened H b l z ns) args us (.ref b :: rest) (fun v H2 => Q v (closed H2 b l) ∧ ∃ z ns, H2 b = some (.lst [.ref l, .int z]) ∧ H2 l = some (.lst (ns.map V.int))) E hr e1 hb hv ⟨b, l, z, ns, rest, rfl, rfl, B.1, upd_same, ?_, fun v H' z' ns' hR hk h1 h2 => ⟨?_, z', ns', h1, h2⟩⟩) fun r s' hq => ?_
    · unfold opened
      rw [upd_ne (Ne.symm B.1), upd_same]
    · refine q v _ hR (ex_hide B fun c o h1 h2 g => hk c o h1 h2 ?_)
      unfold opened
      rw [upd2_ne h1 h2]
      exact g
    · cases r with
      | error e => exact hq
      | ok fl =>
        cases fl with
        | ret u =>
          obtain ⟨v, H2, os, bare, un, hok, rv, q2, z2, ns2, hb2, hl2⟩ := hq
          exact ⟨v, closed H2 b l, os, bare, un_hide B un, hok_close hok hb2 hl2, rv, q2⟩
        | next => exact hq
        | brk => exact hq
        | cont => exact hq
end
end Vf
namespace Vf
open PySem PySem.Spec PyProof.Rows L2 Evl
/-! ### data -/
theorem sq_ex {K : PySem.W.Frag} {H H' : Hp} {a : Addr} {xs : List V} (e : Ex H H') (h : SqL K H a xs) : SqL K H' a xs := ex_l e h
theorem dp_ints {K : PySem.W.Frag} {H : Hp} : ∀ ns : List Int, DpAll K H (ns.map V.int) (ns.map PyData.int)
  | [] => .nil
  | n :: r => .cons (.int n) (dp_ints r)
theorem dp_strs {K : PySem.W.Frag} {H : Hp} : ∀ ns : List Str, DpAll K H (ns.map V.str) (ns.map PyData.str)
  | [] => .nil
  | n :: r => .cons (.str n) (dp_strs r)
theorem flat_ints : ∀ ns : List Int, (PyData.canLayAll0 (ns.map PyData.int) = true) ∧ PyData.depthAll (ns.map PyData.int) = 0
  | [] => ⟨rfl, rfl⟩
  | n :: r => by
    obtain ⟨h1, h2⟩ := flat_ints r
    refine ⟨?_, ?_⟩
    · show (true && PyData.canLayAll0 (r.map PyData.int)) = true
      rw [h1]; rfl
    · show max 0 (PyData.depthAll (r.map PyData.int)) = 0
      rw [h2]; rfl
theorem sh_ints (ns : List Int) : SeqAt.shaped (.list (ns.map PyData.int)) = true := by
  obtain ⟨h1, h2⟩ := flat_ints ns
  show (PyData.canLayAll0 (ns.map PyData.int) && decide (PyData.depthAll (ns.map PyData.int) + 1 ≤ 64)) = true
  rw [h1, h2]; rfl
def good : Nat → PyData → Bool
  | _, .none => true
  | _, .bool _ => true
  | _, .int _ => true
  | _, .str x => PyData.canLay0 (.str x)
  | _, .dict _ => false
  | 0, .list _ => false
  | 0, .tuple _ => false
  | n + 1, .list xs => decide (xs.length ≤ 16777216) && xs.all (good n)
  | n + 1, .tuple xs => decide (xs.length ≤ 16777216) && xs.all (good n)
theorem good_all {n : Nat} (ih : ∀ d, good n d = true → PyData.canLay0 d = true ∧ PyData.depth d ≤ n) : ∀ xs : List PyData, xs.all (good n) = true → PyData.canLayAll0 xs = true ∧ PyData.depthAll xs ≤ n
  | [], _ => ⟨rfl, Nat.zero_le _⟩
  | x :: r, h => by
    rw [List.all_cons, Bool.and_eq_true] at h
    obtain ⟨h1, h2⟩ := ih x h.1
    obtain ⟨h3, h4⟩ := good_all ih r h.2
    refine ⟨?_, Nat.max_le.mpr ⟨h2, h4⟩⟩
    show (PyData.canLay0 x && PyData.canLayAll0 r) = true
    rw [h1, h3]; rfl
theorem good_lay : ∀ (n : Nat) (d : PyData), good n d = true → PyData.canLay0 d = true ∧ PyData.depth d ≤ n
  | n, .none, _ => ⟨rfl, Nat.zero_le _⟩
  | n, .bool _, _ => ⟨rfl, Nat.zero_le _⟩
  | n, .int _, _ => ⟨rfl, Nat.zero_le _⟩
  | n, .str x, h => ⟨by cases n <;> exact h, Nat.zero_le _⟩
  | n, .dict _, h => by cases n <;> cases h
  | 0, .list _, h => by cases h
  | 0, .tuple _, h => by cases h
  | n + 1, .list xs, h => by
    obtain ⟨h1, h2⟩ := good_all (good_lay n) xs (Bool.and_eq_true_iff.mp (show (decide (xs.length ≤ 16777216) && xs.all (good n)) = true from h)).2
    exact ⟨h1, Nat.succ_le_succ h2⟩
  | n + 1, .tuple xs, h => by
    obtain ⟨h1, h2⟩ := good_all (good_lay n) xs (Bool.and_eq_true_iff.mp (show (decide (xs.length ≤ 16777216) && xs.all (good n)) = true from h)).2
    exact ⟨h1, Nat.succ_le_succ h2⟩
theorem sh_of' {d : PyData} {n : Nat} (h : good n d = true) (hn : n ≤ 60) : SeqAt.shaped d = true := by
  obtain ⟨h1, h2⟩ := good_lay n d h
  show (PyData.canLay0 d && decide (PyData.depth d ≤ 64)) = true
  rw [h1, decide_eq_true (by omega)]
  rfl
theorem good_get {n : Nat} {xs : List PyData} {i : Nat} {d : PyData} (h : (decide (xs.length ≤ 16777216) && xs.all (good n)) = true) (e : xs[i]? = some d) : good n d = true :=
  List.all_eq_true.mp (Bool.and_eq_true_iff.mp h).2 d (List.mem_of_getElem? e)
theorem good_len {n : Nat} {xs : List PyData} (h : (decide (xs.length ≤ 16777216) && xs.all (good n)) = true) : xs.length ≤ 16777216 := of_decide_eq_true (Bool.and_eq_true_iff.mp h).1
theorem seq0 {α : Type} (x : α) (r : List α) : seqIndex? 0 (x :: r).length = some 0 := by
  have h : (0 : Int) < ((x :: r).length : Nat) := by rw [List.length_cons]; omega
  have e : (seqIndex? 0 (x :: r).length) = (if decide ((0 : Int) ≤ 0) && decide ((0 : Int) < ((x :: r).length : Nat)) then some (0 : Int).toNat else none) := rfl
  rw [e, decide_eq_true h]
  rfl
theorem eqv_nil (ns : List Int) : PyData.eqv (.list (ns.map PyData.int)) (.list []) = decide (ns = []) := by
  cases ns with
  | nil => rfl
  | cons n r => rfl
end Vf
namespace Vf
open PySem PySem.Spec PyProof.Rows L2 Evl
theorem at_ix {α : Type} {xs : List α} {z : Int} {j : Nat} {v : α} (e : z = (j : Int)) (h : xs[j]? = some v) : atI xs z = some v := by
  rw [e]
  exact atI_nat h
/-! ### texts by their signs -/
def txt (l : List Nat) : Str := ⟨l.toArray⟩
theorem txt_len (l : List Nat) : (txt l).length = l.length := by show l.toArray.size = _; simp
theorem txt_cps (l : List Nat) : (txt l).cps.toList = l := by show l.toArray.toList = l; simp
theorem txt_of (z : Str) : txt z.cps.toList = z := by cases z; simp [txt]
theorem txt_app (a b : List Nat) : txt a ++ txt b = txt (a ++ b) := by
  show (⟨a.toArray ++ b.toArray⟩ : Str) = ⟨(a ++ b).toArray⟩
  rw [List.append_toArray]
theorem str_len (z : Str) : z.cps.toList.length = z.length := by show _ = z.cps.size; simp
/-- a text of one sign -/
def sg (c : Nat) : Str := ⟨#[c]⟩
theorem glue0 : ∀ (r : List Nat) (acc : Array Nat), (r.map sg).foldl (fun (acc : Array Nat) (p : Str) => acc ++ (#[] : Array Nat) ++ p.cps) acc = acc ++ r.toArray
  | [], acc => by simp
  | c :: r, acc => by
    rw [List.map_cons, List.foldl_cons, glue0 r]
    show acc ++ #[] ++ #[c] ++ r.toArray = _
    apply Array.toList_inj.mp
    simp
theorem join0 (cs : List Nat) : Txt.join ⟨#[]⟩ (cs.map sg) = txt cs := by
  cases cs with
  | nil => rfl
  | cons c r =>
    show (⟨(r.map sg).foldl (fun (acc : Array Nat) (p : Str) => acc ++ (#[] : Array Nat) ++ p.cps) #[c]⟩ : Str) = _
    rw [glue0]
    show (⟨#[c] ++ r.toArray⟩ : Str) = ⟨(c :: r).toArray⟩
    congr 1
    apply Array.toList_inj.mp
    simp
theorem sg_sum : ∀ cs : List Nat, ((cs.map sg).map (fun y => y.length)).sum = cs.length
  | [] => rfl
  | c :: r => by
    rw [List.map_cons, List.map_cons, List.sum_cons, sg_sum r, List.length_cons]
    show 1 + r.length = _
    omega
/-- the text that a statement binds -/
def litOf : Stmt → Str
  | .Assign _ (.Constant (.str x) _ _) _ => x
  | _ => ⟨#[]⟩
theorem lay_str {z : Str} (h : ∀ c ∈ z.cps.toList, c < 128) : PyData.canLay0 (.str z) = true := by
  show z.cps.all (fun c => decide (c < 0x110000)) = true
  rw [Array.all_eq_true]
  intro i hi
  exact decide_eq_true (Nat.lt_trans (h _ (by simp)) (by decide))
end Vf
namespace Vf
open PySem PySem.Spec PyProof.Rows L2 Evl
/-! ### a text many times -/
theorem rep_fold (c : Array Nat) : ∀ (n : Nat) (acc : Array Nat), ((List.replicate n c).foldl (fun a b => a ++ b) acc).toList = acc.toList ++ (List.replicate n c.toList).flatten
  | 0, acc => by simp
  | n + 1, acc => by
    rw [List.replicate_succ, List.foldl_cons, rep_fold c n, List.replicate_succ, List.flatten_cons]
    simp
theorem mul_cps (x : Str) (n : Nat) : (Txt.mul x (n : Int)).cps.toList = (List.replicate n x.cps.toList).flatten := by
  unfold Txt.mul
  by_cases h0 : n = 0
  · subst h0
    rfl
  · rw [if_neg (by omega)]
    by_cases h1 : ((n : Int) == 1 || x.length == 0) = true
    · rw [if_pos h1]
      rw [Bool.or_eq_true] at h1
      rcases h1 with h1 | h1
      · have e : n = 1 := by have := eq_of_beq h1; omega
        subst e
        simp
      · have e : x.cps.toList = [] := by
          have := eq_of_beq h1
          rw [← List.length_eq_zero_iff, str_len]
          exact this
        rw [e]
        simp
    · rw [if_neg h1, Int.toNat_natCast, rep_fold]
      simp
theorem mul_sg (c n : Nat) : Txt.mul (sg c) (n : Int) = txt (List.replicate n c) := by
  have h := mul_cps (sg c) n
  have e : (sg c).cps.toList = [c] := rfl
  rw [e] at h
  rw [← txt_of (Txt.mul (sg c) (n : Int)), h]
  congr 1
  induction n with
  | zero => rfl
  | succ n ih => rw [List.replicate_succ, List.flatten_cons, List.replicate_succ]; simp
theorem mul_ok {x : Str} {n : Int} (hx : x.length ≤ 1000) (h0 : 0 ≤ n) (h1 : n ≤ 10000) : MulOk x n := by
  refine ⟨?_, fun h _ z => ?_, fun h _ => ?_⟩
  · rw [decide_eq_false (by omega), decide_eq_false (by omega)]
    rfl
  · have : (1000 : Int) ≤ (2 ^ 63 - 1) / n := (Int.le_ediv_iff_mul_le (by omega)).mpr (by omega)
    omega
  · have : x.length * n.toNat ≤ 1000 * 10000 := Nat.mul_le_mul hx (by omega)
    unfold Builtin.Str.tooLong
    exact decide_eq_false (by
      have e : sizeLine = 16777216 := by decide
      omega)
section
variable {X : Cx}
theorem op_mulS : OpR X (binaryOp .Mult) (fun x y H Q => ∃ (z : Str) (n : Int), x = .str z ∧ y = .int n ∧ z.length ≤ 1000 ∧ 0 ≤ n ∧ n ≤ 10000 ∧ Q (.str (Txt.mul z n)) H) := by
  intro pins s σ H x y v u Q I rx ry h
  obtain ⟨z, n, rfl, rfl, hz, h0, h1, q⟩ := h
  obtain ⟨t, rfl⟩ := rx
  obtain ⟨t', rfl⟩ := ry
  exact SB.mul (mul_ok hz h0 h1) fun t' tk => ⟨.str (Txt.mul z n), H, I.tok _, ⟨_, rfl⟩, q⟩
end
end Vf
namespace Vf
open PySem PySem.Spec PyProof.Rows L2 Evl
/-! ### slices of texts -/
theorem cutS_first {z : Str} {w : Nat} : cutS z none (some (w : Int)) = ⟨(z.cps.toList.take w).toArray⟩ := by
  unfold cutS
  have hz : z.length = z.cps.toList.length := by show z.cps.size = _; simp
  rw [HT.sIx_nat, HT.sIx_none, List.drop_zero, Nat.sub_zero]
  congr 2
  by_cases hh : w ≤ z.length
  · rw [Nat.min_eq_left hh]
  · rw [Nat.min_eq_right (by omega), List.take_of_length_le (by omega), List.take_of_length_le (by omega)]
theorem cutS_rest {z : Str} {w : Nat} : cutS z (some (w : Int)) none = ⟨(z.cps.toList.drop w).toArray⟩ := by
  unfold cutS
  have hz : z.length = z.cps.toList.length := by show z.cps.size = _; simp
  rw [HT.sIx_nat, HT.sIx_none]
  congr 1
  by_cases hh : w ≤ z.length
  · rw [Nat.min_eq_left hh, List.take_of_length_le (by rw [List.length_drop]; omega)]
  · rw [Nat.min_eq_right (by omega), Nat.sub_self, List.take_zero, List.drop_eq_nil_of_le (by omega)]
end Vf
namespace Vf
open PySem PySem.Spec PyProof.Rows L2 Evl
/-! ### a text cut at its last sign of a kind -/
section
variable {X : Cx}
theorem mt_rpart : MtR X "str.rpartition" (fun x xs H Q => ∃ a b : Str, x = .str a ∧ xs = [.str b] ∧ (b.length == 0) = false ∧ a.length ≤ sizeLine ∧
    ∀ p, H p = none → Q (.ref p) (upd H p (.tup [.str (Txt.rpartition a b).1, .str (Txt.rpartition a b).2.1, .str (Txt.rpartition a b).2.2]))) := by
  rintro pins s σ H x xs v us Q I rx rs ⟨a, b, rfl, rfl, hb, hz, h⟩
  obtain ⟨ta, rfl⟩ := rx
  obtain ⟨u, rfl, tb, rfl⟩ := vals1 rs
  refine call_meets PySem.F.slot_str_rpartition (typeIs_str _ _ _) PySem.F.entry_str_rpartition (PySem.F.args_str_rpartition_2 _ _) (meets_str_rpartition a b ta tb hb hz) ?_
  revert h
  unfold Txt.rpartition
  cases Builtin.Str.lastOccurrence a b 0 a.length with
  | none => exact fun h => laid_parts I h
  | some i => exact fun h => laid_parts I h
end
/-- what stands behind the last c -/
def behind (c : Nat) (l : List Nat) : List Nat := (l.reverse.takeWhile fun x => decide (x ≠ c)).reverse
theorem behind_none {c : Nat} {l : List Nat} (h : c ∉ l) : behind c l = l := by
  unfold behind
  have e : l.reverse.takeWhile (fun x => decide (x ≠ c)) = l.reverse := by
    have q := List.takeWhile_append_of_pos (p := fun x => decide (x ≠ c)) (l₁ := l.reverse) (l₂ := []) (fun x hx => decide_eq_true fun e => h (by rw [← e]; exact List.mem_reverse.mp hx))
    simpa using q
  rw [e, List.reverse_reverse]
theorem behind_app {c : Nat} {a b : List Nat} (h : c ∉ b) : behind c (a ++ c :: b) = b := by
  unfold behind
  rw [List.reverse_append, List.reverse_cons, List.append_assoc]
  have e : ((b.reverse ++ ([c] ++ a.reverse)).takeWhile fun x => decide (x ≠ c)) = b.reverse := by
    rw [List.takeWhile_append_of_pos]
    · simp
    · intro x hx
      exact decide_eq_true fun e => h (by rw [← e]; exact List.mem_reverse.mp hx)
  rw [e, List.reverse_reverse]
theorem pre1 (c : Nat) (l : List Nat) : TL.pre [c] l = true ↔ ∃ r, l = c :: r := by
  unfold TL.pre
  cases l with
  | nil => simp
  | cons x r =>
    have e : (x :: r).take [c].length = [x] := rfl
    rw [e]
    constructor
    · intro h
      have := eq_of_beq h
      cases this
      exact ⟨r, rfl⟩
    · rintro ⟨r', h⟩
      cases h
      simp
theorem rpart_behind (x : Str) (c : Nat) : (Txt.rpartition x (sg c)).2.2 = txt (behind c x.cps.toList) := by
  have hne : TL.tl (sg c) ≠ [] := fun h => nomatch (show ([c] : List Nat) = [] from h)
  unfold Txt.rpartition
  rcases StrLaws.last_spec x (sg c) with ⟨e, h⟩ | ⟨i, e, h, h2⟩
  · rw [e]
    show x = txt (behind c x.cps.toList)
    rw [behind_none, txt_of]
    intro hm
    obtain ⟨i, hi, ei⟩ := List.getElem_of_mem hm
    refine h i ((TL.at_iff hne i).mpr ((pre1 c _).mpr ⟨x.cps.toList.drop (i + 1), ?_⟩))
    show x.cps.toList.drop i = _
    rw [List.drop_eq_getElem_cons hi, ei]
  · rw [e]
    show Builtin.Str.strSub x (i + (sg c).length) x.length = _
    refine TL.ext_tl ?_
    rw [TL.tl_strSub_end]
    show x.cps.toList.drop (i + 1) = (txt (behind c x.cps.toList)).cps.toList
    rw [txt_cps]
    obtain ⟨r, er⟩ := (pre1 c _).mp ((TL.at_iff hne i).mp h)
    have er2 : x.cps.toList.drop i = c :: r := er
    have e3 : x.cps.toList.drop (i + 1) = r := by
      have : (x.cps.toList.drop i).drop 1 = r := by rw [er2]; rfl
      rw [List.drop_drop] at this
      exact this
    rw [e3]
    have hr : c ∉ r := fun hm => by
      obtain ⟨j, hj, ej⟩ := List.getElem_of_mem hm
      refine h2 (i + 1 + j) (by omega) ((TL.at_iff hne _).mpr ((pre1 c _).mpr ⟨r.drop (j + 1), ?_⟩))
      show x.cps.toList.drop (i + 1 + j) = _
      rw [← List.drop_drop, e3, List.drop_eq_getElem_cons hj, ej]
    have e4 : x.cps.toList = x.cps.toList.take i ++ c :: r := by rw [← er2, List.take_append_drop]
    rw [e4, behind_app hr]
theorem cutS_butlast (z : Str) : cutS z none (some (-1)) = txt z.cps.toList.dropLast := by
  unfold cutS
  have hz : z.length = z.cps.toList.length := (str_len z).symm
  have e : HT.sIx z.length z.length (some (-1)) = z.length - 1 := by
    show (if (-1 : Int) < 0 then ((-1 : Int) + (z.length : Int)).toNat else min (-1 : Int).toNat z.length) = _
    rw [if_pos (by decide)]
    omega
  rw [e, HT.sIx_none, List.drop_zero, Nat.sub_zero, hz, List.dropLast_eq_take]
  rfl
/-! ### places of signs -/
def ixS (z : Str) (c : Nat) : Nat := (Builtin.Str.occurrences z (sg c) 0 z.length 1).headD 0
theorem ix_cons {z : Str} {c : Nat} (h : c ∈ z.cps.toList) : ∃ r, Builtin.Str.occurrences z (sg c) 0 z.length 1 = ixS z c :: r := by
  have q := StrLaws.found_one z c
  rw [decide_eq_true h] at q
  unfold ixS
  have q2 : (!(Builtin.Str.occurrences z (sg c) 0 z.length 1).isEmpty) = true := q
  cases e : Builtin.Str.occurrences z (sg c) 0 z.length 1 with
  | nil => rw [e] at q2; cases q2
  | cons i r => exact ⟨r, rfl⟩
/-- a number's text -/
theorem num_txt (n : Nat) : (Str.ofString (toString ((n : Nat) : Int)) : Str) = txt (TL.numL n) := TL.ext_tl (by rw [TL.tl_num]; exact (txt_cps _).symm)
theorem mem_joinL {S : List Nat} : ∀ {ps : List (List Nat)} {c : Nat}, c ∈ TL.joinL S ps → c ∈ S ∨ ∃ p ∈ ps, c ∈ p
  | [], c, h => by simp [TL.joinL] at h
  | [p], c, h => by
    have h2 : c ∈ p := by simpa [TL.joinL] using h
    exact .inr ⟨p, by simp, h2⟩
  | p :: q :: r, c, h => by
    have h2 : c ∈ p ++ (S ++ TL.joinL S (q :: r)) := by simpa [TL.joinL] using h
    rcases List.mem_append.mp h2 with h2 | h2
    · exact .inr ⟨p, List.mem_cons_self, h2⟩
    · rcases List.mem_append.mp h2 with h2 | h2
      · exact .inl h2
      · rcases mem_joinL h2 with h3 | ⟨x, hx, h3⟩
        · exact .inl h3
        · exact .inr ⟨x, List.mem_cons_of_mem _ hx, h3⟩
theorem log_small {n : Nat} (h : n < 10000000) : ((n : Nat) : Int).natAbs.log2 < 1920 := by
  rw [Int.natAbs_natCast]
  by_cases h0 : n = 0
  · subst h0
    decide
  · exact Nat.lt_of_lt_of_le ((Nat.log2_lt h0).mpr (show n < 2 ^ 24 from Nat.lt_trans h (by decide))) (by decide)
end Vf
namespace Vf
open PySem PySem.Spec PyProof.Rows L2 Evl
/-! ### a text from behind -/
def tRevS (te : TE) : TE := fun σ H Q => te σ H fun x H1 => ∃ z : Str, x = .str z ∧ z.length ≤ sizeLine ∧ ∀ y : Str, y.length ≤ z.length → (∀ c ∈ y.cps.toList, c ∈ z.cps.toList) → Q (.str y) H1
theorem pick_mem {c : Array Nat} {l : List Nat} {x : Nat} (h : x ∈ l.filterMap fun i => c[i]?) : x ∈ c.toList := by
  obtain ⟨i, _, hi⟩ := List.mem_filterMap.mp h
  obtain ⟨h1, h2⟩ := Array.getElem?_eq_some_iff.mp hi
  rw [← h2]
  exact Array.mem_toList_iff.mpr (Array.getElem_mem h1)
section
variable {X : Cx}
theorem pe_revS {e : Expr} {te : TE} {k : Nat} {p1 p2 p3 pos : Pos} (he : PE X e te) : PE X (.Subscript e (.Slice none none (some (.UnaryOp .USub (.Constant (.int 1) k p1) p2)) p3) pos) (tRevS te) := by
  refine ⟨fun pins s σ H Q I h => Subscript_ (thn (he.run pins s σ H _ I h) ?_)⟩
  rintro v sa ⟨x, Ha, Ia, rx, z, rfl, hz, q⟩
  obtain ⟨t, rfl⟩ := id rx
  refine wpAny_Slice (thn (po_none.run pins sa σ Ha (fun o J => o = none ∧ J = Ha) Ia ⟨rfl, rfl⟩) ?_)
  rintro vl sb ⟨l, Hb, Ib, pl, rfl, rfl⟩
  refine thn (po_none.run pins sb σ Hb (fun o J => o = none ∧ J = Hb) Ib ⟨rfl, rfl⟩) ?_
  rintro vu sc ⟨u, Hc, Ic, pu, rfl, rfl⟩
  refine thn ((po_some (pe_un un_neg pe_int)).run pins sc σ Hc (fun o J => o = some (-1) ∧ J = Hc) Ic ⟨1, rfl, -1, rfl, rfl, rfl⟩) ?_
  rintro vs sd ⟨o, Hd, Id, ps, rfl, rfl⟩
  have Ie : Inv X pins σ Hd { sd with heap := sd.heap.push { cls := .type "slice", data := .fields #[vl, vu, vs] } } := Id.kept (t' := sd.toks) fun b ob g => Heap.get?_push_of_some _ g
  obtain ⟨l2, rfl, el⟩ := IsPart.raw pl
  obtain ⟨u2, rfl, eu⟩ := IsPart.raw pu
  obtain ⟨o2, rfl, eo⟩ := IsPart.raw ps
  have el2 : l2 = none := by cases l2 with | none => rfl | some _ => cases el
  have eu2 : u2 = none := by cases u2 with | none => rfl | some _ => cases eu
  subst el2 eu2
  show wpAny (model X.prog X.w) X.A (subscriptTail e (.Slice none none (some (.UnaryOp .USub (.Constant (.int 1) k p1) p2)) p3) (.str z t) (.ref sd.heap.objs.size)) (EP X pins σ Q) X.xe _
  refine tail_any (ops := [.ref sd.heap.objs.size, .str z t]) (typeIs_str _ _ _) PySem.F.slot_str_getitem.lookup ?_ (by with_unfolding_all rfl)
  refine wpAny_getItem_str_slice (l := none) (u := none) (st := o2) ⟨_, Heap.get?_push_size _ rfl, rfl, rfl⟩ (by rw [eo]; rfl) ?_
  have hlen : (Builtin.Str.strSliceIndices none none (-1) z.length).length = z.length := by rw [PyProof.Rows.picked_rev, List.length_map, List.length_range]
  have hpick : slicePicked z none none o2 = Builtin.Str.strSliceIndices none none (-1) z.length := by
    unfold slicePicked
    rw [eo]
    rfl
  have hm : sliceMade z t none none o2 = Made.str ⟨((Builtin.Str.strSliceIndices none none (-1) z.length).filterMap fun i => z.cps[i]?).toArray⟩ := by
    unfold sliceMade
    rw [hpick, eo]
    rfl
  rw [hm]
  have h1 : (⟨((Builtin.Str.strSliceIndices none none (-1) z.length).filterMap fun i => z.cps[i]?).toArray⟩ : Str).length ≤ z.length := by
    show (List.toArray _).size ≤ _
    rw [List.size_toArray]
    exact Nat.le_trans (List.length_filterMap_le _ _) (Nat.le_of_eq hlen)
  refine ⟨Nat.le_trans h1 hz, .str _, Hd, Ie.tok _, ⟨_, rfl⟩, q _ h1 fun c hc => ?_⟩
  have e : (⟨((Builtin.Str.strSliceIndices none none (-1) z.length).filterMap fun i => z.cps[i]?).toArray⟩ : Str).cps.toList = (Builtin.Str.strSliceIndices none none (-1) z.length).filterMap fun i => z.cps[i]? := by simp
  rw [e] at hc
  exact pick_mem hc
end
/-! ### how often a sign stands in a text; what it cuts off -/
theorem count_sg (z : Str) (c : Nat) : Txt.count z (sg c) = ((z.cps.toList.count c : Nat) : Int) := by
  have h : ∀ l : List Nat, cnt c l = ((l.count c : Nat) : Int) := fun l => by
    induction l with
    | nil => rfl
    | cons n r ih =>
      rw [cnt_cons, ih, List.count_cons]
      by_cases e : n = c
      · subst e
        simp
        omega
      · have e2 : (n == c) = false := by simpa using e
        rw [if_neg e, e2]
        simp
  rw [← h]
  exact count_cnt z c
theorem first_cut {c : Nat} {l : List Nat} (h : c ∈ l) : ∃ a r, l = a ++ c :: r ∧ c ∉ a := by
  obtain ⟨a, r, e, n⟩ := List.eq_append_cons_of_mem h
  exact ⟨a, r, e, n⟩
theorem cut2 {c : Nat} {l : List Nat} (h : l.count c = 2) : ∃ a b d, l = a ++ c :: (b ++ c :: d) ∧ c ∉ a ∧ c ∉ b ∧ c ∉ d := by
  obtain ⟨a, r, e, n⟩ := first_cut (c := c) (l := l) (List.count_pos_iff.mp (by omega))
  subst e
  rw [List.count_append, List.count_eq_zero.mpr n, List.count_cons_self] at h
  obtain ⟨b, d, e2, n2⟩ := first_cut (c := c) (l := r) (List.count_pos_iff.mp (by omega))
  subst e2
  rw [List.count_append, List.count_eq_zero.mpr n2, List.count_cons_self] at h
  exact ⟨a, b, d, rfl, n, n2, List.count_eq_zero.mp (by omega)⟩
theorem kind1 {x : Str} {c : Nat} (hc : c < 256) : ¬ Builtin.Str.strKind x < Builtin.Str.strKind (sg c) := TL.kind_ok (by
  show (#[c] : Array Nat).all (fun x => decide (x < 256)) = true
  simp [hc])
theorem split3 {c : Nat} (hc : c < 256) {a b d : List Nat} (h1 : c ∉ a) (h2 : c ∉ b) (h3 : c ∉ d) : Txt.split (txt (a ++ c :: (b ++ c :: d))) (sg c) = [txt a, txt b, txt d] := by
  refine TL.map_tl_inj ?_
  rw [TL.split_spl _ _ (fun h => nomatch (show ([c] : List Nat) = [] from h)) (kind1 hc)]
  have e : TL.tl (txt (a ++ c :: (b ++ c :: d))) = a ++ ([c] ++ (b ++ ([c] ++ d))) := (txt_cps _).trans (by simp)
  rw [e]
  show TL.spl [c] 0 [] (a ++ (c :: [] ++ (b ++ (c :: [] ++ d)))) = _
  rw [TL.spl_part1 h1, TL.spl_part1 h2, TL.spl_last1 h3]
  show [[] ++ a, [] ++ b, [] ++ d] = [(txt a).cps.toList, (txt b).cps.toList, (txt d).cps.toList]
  rw [txt_cps, txt_cps, txt_cps]
  rfl
theorem split_join_back (x : Str) (c : Nat) : Txt.join (sg c) (Txt.split x (sg c)) = x := by
  rw [TL.join_eq]
  exact StrLaws.join_split x (sg c)
/-- the parts are short and made of the text's signs -/
theorem split_parts (x : Str) (c : Nat) : (Txt.split x (sg c)).length ≤ x.length + 1 ∧ ∀ z ∈ Txt.split x (sg c), z.length ≤ x.length ∧ ∀ k ∈ z.cps.toList, k ∈ x.cps.toList := by
  have w := PyProof.Rows.split_weight x (sg c) (by show 1 ≤ 1; decide)
  have key : ∀ (ps : List Str), (ps.map (fun z => z.length)).sum + ps.length ≤ x.length + 1 → ∀ z ∈ ps, z.length ≤ x.length := fun ps h z hz => by
    have h2 : z.length ≤ (ps.map (fun z => z.length)).sum := by
      clear h
      induction ps with
      | nil => cases hz
      | cons p r ih =>
        rw [List.map_cons, List.sum_cons]
        rcases List.mem_cons.mp hz with rfl | hz
        · omega
        · have := ih hz
          omega
    have h3 : 1 ≤ ps.length := List.length_pos_of_mem hz
    omega
  refine ⟨by omega, fun z hz => ⟨key _ w z hz, fun k hk => ?_⟩⟩
  have e : x.cps.toList = TL.joinL [c] ((Txt.split x (sg c)).map TL.tl) := by
    have h := congrArg TL.tl (split_join_back x c)
    rw [TL.join_eq, TL.tl_join] at h
    exact h.symm
  rw [e]
  have gen : ∀ (ps : List (List Nat)) (p : List Nat), p ∈ ps → k ∈ p → k ∈ TL.joinL [c] ps := fun ps => by
    induction ps with
    | nil => exact fun p hp => nomatch hp
    | cons q r ih =>
      intro p hp hk
      cases r with
      | nil =>
        have : p = q := by simpa using hp
        subst this
        simpa [TL.joinL] using hk
      | cons q2 r2 =>
        have goal : TL.joinL [c] (q :: q2 :: r2) = q ++ ([c] ++ TL.joinL [c] (q2 :: r2)) := by simp [TL.joinL]
        rw [goal]
        rcases List.mem_cons.mp hp with rfl | hp
        · exact List.mem_append_left _ hk
        · exact List.mem_append_right _ (List.mem_append_right _ (ih p hp hk))
  exact gen _ (TL.tl z) (List.mem_map.mpr ⟨z, hz, rfl⟩) hk
end Vf
namespace Vf
open PySem PySem.Spec PyProof.Rows L2 Evl GxR
/-! ### all(test for a sign in a text), the test may read the module's names -/
/-- the test of the sign c, where the module's names are to be read -/
def EltM (prog : Program) (w : World) (mg : Str → Option Value) (sc : Scope) (y : Str) (tst : Expr) (f : Nat → Bool) : Prop :=
  ∀ (en : Env) (B : Around) (R : Value → Shared → Prop) (c : Nat) (t : Tok) (z : Shared) (m : Str → Option Value), en.scope = sc → en.globals = mainGlobals → z.heap.Ns mainGlobals mg → z.heap.Ns en.locals m → m y = some (.str ⟨#[c]⟩ t) →
    wpAny (model prog w) B (eval tst en) (fun v z' => v = .bool (f c) ∧ Keeps z z') R z
/-- a sign in a text of the module's -/
theorem elt_in {prog : Program} {w : World} {mg : Str → Option Value} {sc : Scope} {y g : Str} {k : Str} {p1 p2 p3 : Pos} (hk : sc.kind = .function) (hy : sc.names.lookup y = some .local) (hg : sc.names.lookup g = some .globalImplicit)
    (hm : ∃ t, mg g = some (.str k t)) (d1 : (y == ("__debug__" : Str)) = false := by decide) (d2 : (g == ("__debug__" : Str)) = false := by decide) :
    EltM prog w mg sc y (.Compare (.Name y p1) [.In] [.Name g p2] p3) (fun c => decide (c ∈ k.cps.toList)) := by
  obtain ⟨tg, hm⟩ := hm
  intro en B R c t z m es eg ng nl hv
  refine wpAny_Compare1 (wpAny_Name (wpAny_loadName_local (by rw [es]; exact hk) (show en.scope.names.lookup y = some .local by rw [es]; exact hy) nl hv ?_) d1)
  refine Calls.Name_function_global (by rw [es]; exact hk) (show en.scope.names.lookup g = some .globalImplicit by rw [es]; exact hg) (Calls.loadGlobal_global (by rw [eg]; exact ng) hm ?_) d2
  refine PyProof.Rows.in_str ⟨?_, keeps_refl _⟩
  show Value.bool (!(Builtin.Str.occurrences k ⟨#[c]⟩ 0 k.length 1).isEmpty) = Value.bool (decide (c ∈ k.cps.toList))
  rw [PySem.StrLaws.found_one k c]
section
variable {X : Cx} {pins : List (Addr × Obj)} {σ : L2.St} {H : Hp} {s : Shared}
theorem gen_text {c T : Addr} {tst src : Expr} {y : Str} {py pz : Pos} {sc : Scope} {f : Nat → Bool} {te : TE} {k : Nat} {Z : Value → Shared → Prop} {R : Str → Hp → Prop}
    (room : Room k X.A) (tab : TabB X.base X.mg c T) (cod : X.env.code = .ref c) (S : GenS X.env sc y) (he : PE X src te) (ht : EltM X.prog X.w X.mg sc y tst f)
    (fold : ∀ v, genFold src X.env v = pure v) (I : Inv X pins σ H s) (h : te σ H fun v H1 => ∃ z : Str, v = .str z ∧ TabG H1 T ∧ R z H1)
    (fin : ∀ z H1 g s', R z H1 → Ready X pins σ H1 T z f g s' → Z (.ref g) s') :
    wpAny (model X.prog X.w) X.A (eval (.GeneratorExp tst [⟨.Name y py, src, [], 0⟩] sc pz) X.env) Z X.xe s := by
  have dep : X.A.depth < recursionLimit := by
    have := room.dp
    omega
  refine wpAny_GeneratorExp_walksQ room.hd S.co (closure_ok S.free) S.cell S.dot S.loc S.kind dep (thn (he.run pins s σ H _ I h) ?_) fold
  rintro xv q ⟨v, J, IJ, rv, z, rfl, ⟨ps, atT, trip⟩, hR⟩
  obtain ⟨tz, rfl⟩ := id rv
  refine wpAny_pyIter_str fun itO St W st0 => ?_
  -- the table ahead of the code's making
  have tab1 : q.heap.get? T = some { cls := .none, data := .fields ps } := IJ.hok T _ atT
  have ltT : T < q.heap.objs.size := Heap.lt_size tab1
  have tab2 : (q.heap.push itO).get? T = some { cls := .none, data := .fields ps } := Heap.get?_push_of_some _ tab1
  have hd2 : PySem.W.CodeHd (q.heap.push itO) c T := tab.code.keeps fun b u e => Heap.get?_push_of_some _ (IJ.bk b u e)
  have noL : (q.heap.push itO).NoLimit := IJ.nolimit.push itO
  have nsM : (q.heap.push itO).Ns mainGlobals X.mg := (IJ.ok.mod.glob.keeps IJ.bk).push itO
  obtain ⟨mS, nsS, _⟩ := id IJ.nolimit
  have ltS : cStatics < q.heap.objs.size := nsS.lt
  have neS : cStatics ≠ T := fun e => by
    obtain ⟨o', es, ep, ho, hd, _⟩ := nsS
    rw [e, tab1] at ho
    cases ho
    cases hd
  have ltM : mainGlobals < q.heap.objs.size := (IJ.ok.mod.glob.keeps IJ.bk).lt
  have after : ∀ (cv : Value) (g : Heap) (n : Nat) (ps2 : Array Value), Heap.ExtBut T (q.heap.push itO) g → (q.heap.push itO).objs.size ≤ g.objs.size → g.get? T = some { cls := .none, data := .fields ps2 } → (∃ mo, ps2 = ps ++ mo) → TriplesOk ps2.toList →
      wpAny (model X.prog X.w) X.A (builtinsFor X.env.globals X.env.builtins) (fun bi r =>
        ∃ Ia fp wr n0 Pf St0 pz F, Value.ref q.heap.objs.size = .ref Ia ∧ (∀ B : Around, B.handled = none → Walks X.prog X.w B Ia fp wr n0 Pf St0) ∧ St0 0 r.heap ∧ (∀ b ∈ fp, b < r.heap.objs.size) ∧ r.heap.NoLimit ∧ cStatics ∉ wr ∧
          (∀ hr : Heap, (∀ b o, r.heap.get? b = some o → hr.get? b = some o) →
            QuietGen X.prog X.w (genEnv sc (cloFrom X.env.cells sc.names []) r.heap.objs.size cv bi X.env) y [] tst (List.range r.heap.objs.size) wr Pf pz F hr) ∧
          (∀ a h5 tk gs, gs.bare = true → r.heap.objs.size < a → h5.objs.size = a + 1 → (∀ b o, r.heap.get? b = some o → h5.get? b = some o) →
            WalksS X.prog X.w X.A.in4 a (a :: r.heap.objs.size :: List.range r.heap.objs.size) (r.heap.objs.size :: wr) (GenOnlyQ r.gens.size) (passing pz n0 0).length
              (fun j v => ∃ i, (passing pz n0 0)[j]? = some i ∧ F i v) (GenAt X.prog X.w X.A.in4 a r.gens.size r.heap.objs.size (List.range r.heap.objs.size) wr pz n0 F) →
            GenAt X.prog X.w X.A.in4 a r.gens.size r.heap.objs.size (List.range r.heap.objs.size) wr pz n0 F 0 { r with gens := r.gens.push gs, toks := tk, heap := h5 } →
            Z (.ref a) { r with gens := r.gens.push gs, toks := tk, heap := h5 })) X.xe { q with heap := g, toks := n } := by
    intro cv g n ps2 ext big tab3 more trip3
    obtain ⟨bm, ob, b1, b2, b3, b4, b5, b6, b7, b8⟩ := tab.bm
    have szP : (q.heap.push itO).objs.size = q.heap.objs.size + 1 := Heap.size_push ..
    have stays : ∀ b u, b ≠ T → q.heap.get? b = some u → g.get? b = some u := fun b u hb e => ext b u hb (Heap.get?_push_of_some _ e)
    have nsG : g.Ns mainGlobals X.mg := nsM.extBut ext tab.gP
    refine wpAny_builtinsFor (m := X.mg) (by rw [IJ.ok.glob]; exact nsG) b1 b2 (stays _ _ b4 (IJ.bk _ _ b5)) b6 b7 b8 ?_
    refine ⟨q.heap.objs.size, [q.heap.objs.size], [q.heap.objs.size], z.cps.size, SignAt z, St, fun _ => true, fun i v => ∃ cc, z.cps[i]? = some cc ∧ v = .bool (f cc), rfl, W, ?_, ?_, noL.extBut ext neS, ?_, ?_, ?_⟩
    · exact (W X.A room.hd).frame _ _ _ st0 fun b hb u e => ext b u (fun zb => Nat.ne_of_lt ltT (zb.symm.trans (List.mem_singleton.mp hb))) e
    · intro b hb
      rw [List.mem_singleton.mp hb]
      exact Nat.lt_of_lt_of_le (by omega) big
    · exact fun zb => Nat.ne_of_lt ltS (List.mem_singleton.mp zb)
    · intro hr hkeep
      refine ⟨fun B R' i v r m hB hP hn hm hk => ?_, fun B R' i v r m hB hP hp hn hm hk => ?_⟩
      · simp only [List.forIn_nil]
        exact wpAny_pure ⟨rfl, keeps_refl _⟩
      · obtain ⟨cc, u, hcc, rfl⟩ := hP
        have nsR : r.heap.Ns mainGlobals X.mg := (nsG.keeps hkeep).at fun o e => hk mainGlobals (List.mem_range.mpr (Nat.lt_of_lt_of_le (Nat.lt_trans ltM (by rw [szP]; exact Nat.lt_succ_self _)) big)) (fun zb => Nat.ne_of_lt ltM (List.mem_singleton.mp zb)) o e
        exact wpAny_mono (ht _ B R' cc u r m rfl IJ.ok.glob nsR hn hm) (fun v r' x => ⟨⟨cc, hcc, x.1⟩, x.2⟩) fun _ _ e => e
    · intro a h5 n5 gs bare lt5 sz5 keep5 W5 at5
      simp only [GxR.passing_true, List.length_range] at W5
      refine fin z J a _ hR ⟨_, _, _, _, _, W5.in4_1, at5, ?_, fun s' mv => ?_⟩
      · rintro j v sj Qj Ej ⟨i, hij, cc, hcc, rfl⟩ hQ
        obtain ⟨hj, ej⟩ := List.getElem?_eq_some_iff.mp hij
        rw [List.getElem_range] at ej
        subst ej
        have e9 : z.cps.toList[j]? = some cc := by rw [Array.getElem?_toList]; exact hcc
        have hQ2 : Qj (trF f z.cps.toList j) sj := hQ
        rw [trF_some e9] at hQ2
        exact wpAny_truthy_bool hQ2
      · obtain ⟨mo, em⟩ := more
        have off : ∀ b u, q.heap.get? b = some u → b ∉ g.objs.size :: [q.heap.objs.size] := fun b u e hb => by
          have hl : b < q.heap.objs.size := Heap.lt_size e
          rcases List.mem_cons.mp hb with zb | zb
          · have h9 : g.objs.size < q.heap.objs.size := zb ▸ hl
            exact absurd (Nat.lt_of_le_of_lt big h9) (by rw [szP]; exact Nat.not_lt.mpr (Nat.le_succ _))
          · exact Nat.ne_of_lt hl (List.mem_singleton.mp zb)
        have K := inv_tab (more := mo) (h' := s'.heap) (g' := s'.gens) (d' := s'.drawn) (t' := s'.toks) IJ atT (fun b u hb e => mv.heap b u (off b u e) (keep5 b u (stays b u hb e)))
          (by rw [← em]; exact mv.heap T _ (off T _ tab1) (keep5 T _ tab3)) (AllBare.movedS (IJ.bare.push bare) mv)
        rw [sh_eta q s' mv.os] at K
        exact ⟨upd J T (.tbl (ps ++ mo)), ⟨⟨ps ++ mo, upd_same, by rw [← em]; exact trip3⟩, fun b hb => upd_ne hb⟩, K⟩
  refine ⟨noL, ?_⟩
  cases hf : codeAmong pz ps.toList with
  | none =>
    refine wpAny_genexprCodeX cod (hd2.code tab2 trip) (hd2.tab tab2) hf fun c2 g n ext ge lt made _ made2 _ => ?_
    obtain ⟨o1, vs, f1, tf, fl, tg, inF, tx, tt, op, _, _, _, _, _, _, _, _, _, trip3, _⟩ := made
    exact after _ g n _ ext (Nat.le_trans ge (Nat.le_of_lt lt)) made2.2 ⟨_, rfl⟩ trip3
  | some cv =>
    exact wpAny_genexprCode_hit cod (hd2.code tab2 trip) hf (after cv _ q.toks ps (Heap.ExtBut.refl _ _) (Nat.le_refl _) tab2 ⟨#[], by simp⟩ trip)
theorem pe_allT {c T : Addr} {tst src : Expr} {y : Str} {py p pos pz : Pos} {sc : Scope} {f : Nat → Bool} {te : TE} {k : Nat}
    (room : Room k X.A) (hg : Gl X "all") (hm : X.mg "all" = none) (tab : TabB X.base X.mg c T) (cod : X.env.code = .ref c) (S : GenS X.env sc y) (hsrc : PE X src te) (ht : EltM X.prog X.w X.mg sc y tst f)
    (fold : ∀ v, genFold src X.env v = pure v)
    (star : starEach [.GeneratorExp tst [⟨.Name y py, src, [], 0⟩] sc pz] X.env = (false, eval (.GeneratorExp tst [⟨.Name y py, src, [], 0⟩] sc pz) X.env) :: starEach [] X.env := by rfl) :
    PE X (.Call (.Name "all" p) [.GeneratorExp tst [⟨.Name y py, src, [], 0⟩] sc pz] [] pos) (tAllS T f te) := by
  refine ⟨fun pins s σ H Q I h => wpAny_Call_Name_kw (ld_blt I hg hm boot_all (PyProof.Rows.callWith_builtin1 ?_ star (by rfl)))⟩
  rw [star]
  refine Calls.spliced_cons (gen_text (R := fun z J => ∀ J2, Tabbed T J J2 → Q (.bl (z.cps.toList.all f)) J2) room tab cod S hsrc ht fold I h ?_)
  rintro z J g s5 hR ⟨fp, wr, G, F, St, W, st0, truth, back⟩
  refine Calls.spliced_nil (call_all_walkS (W.self 0 _ _ _ st0 ⟨g, fp, wr, G, _, F, St, _, rfl, W, st0, truth, fun s' mv => ?_⟩))
  obtain ⟨J2, hT, IJ2⟩ := back s' mv
  exact ⟨.bl _, J2, IJ2, rfl, by rw [all_signs z f]; exact hR J2 hT⟩
end
theorem genS_of {env : Env} {sc : Scope} {y : Str} (h1 : sc.kind = .function) (h2 : sc.isCoroutine = false) (h3 : ∀ z ∈ sc.names, z.2 ≠ .cell) (h4 : sc.names.lookup (".0" : Str) = some NameKind.local) (h5 : sc.names.lookup y = some .local) (h6 : ∀ z ∈ sc.names, z.2 ≠ .free) : GenS env sc y :=
  ⟨h1, h2, h3, h4, h5, fun z hz e => absurd e (h6 z hz)⟩
/-! ### the table, hidden: what codes it holds is left open -/
def TabO (T : Addr) : HO := .ext fun h => ∃ ps : Array Value, TriplesOk ps.toList ∧ h.get? T = some { cls := .none, data := .fields ps }
section
variable {P : Program} {w : World} {K : PySem.W.Frag} {mg : Str → Option Value} {base : Heap} {H H' : Hp} {h h' : Heap} {T : Addr}
theorem tab_open (x : HOk P w H h) (e : H T = some (TabO T)) : ∃ ps : Array Value, TriplesOk ps.toList ∧ HOk P w (upd H T (.tbl ps)) h := by
  obtain ⟨⟨ps, tr, g⟩, _⟩ := (show ObjOk P w H h T (TabO T) from x T _ e)
  refine ⟨ps, tr, fun a o q => ?_⟩
  by_cases ha : a = T
  · subst ha
    rw [upd_same] at q
    cases q
    exact g
  · rw [upd_ne ha] at q
    exact (x a o q).stay (fun _ _ _ z => z) (fun c z => by rw [upd_ne (own_ne e z (fun _ y => by cases y))]; exact z) fun c xs z => by rw [upd_ne (own_ne e z (fun _ y => by cases y))]; exact z
theorem tab_close {ps : Array Value} (x : HOk P w H h) (e : H T = some (.tbl ps)) (tr : TriplesOk ps.toList) : HOk P w (upd H T (TabO T)) h := by
  have g := (show ObjOk P w H h T (.tbl ps) from x T _ e)
  have nt : ∀ c o, H c = some o → (∀ qs, o ≠ .tbl qs) → c ≠ T := fun c o z n y => by
    rw [y, e] at z
    exact n _ (Option.some.inj z).symm
  intro a o q
  by_cases ha : a = T
  · subst ha
    rw [upd_same] at q
    cases q
    exact ⟨⟨ps, tr, g⟩, ⟨_, g⟩, fun h1 h2 ⟨ps, tr, g⟩ k => ⟨ps, tr, k _ g⟩⟩
  · rw [upd_ne ha] at q
    exact (x a o q).stay (fun _ _ _ z => z) (fun c z => by rw [upd_ne (nt c _ z (fun _ y => by cases y))]; exact z) fun c xs z => by rw [upd_ne (nt c _ z (fun _ y => by cases y))]; exact z
end
end Vf
namespace Vf
open PySem PySem.Spec PyProof.Rows L2 Evl GxR
section
variable {P : Program} {w : World} {K : PySem.W.Frag} {mg : Str → Option Value} {base : Heap} {H H' : Hp} {h h' : Heap} {T : Addr}
/-- a def that may let the table grow and changes nothing else: with the table hidden it changes nothing -/
theorem tab_fn {k : Nat} {f : Addr} {fd : FuncData} {ps : List Str} {sp sp' : Sp} (F : FnOk P w K mg base CX0 k f fd ps sp) (hl : ∀ vs H Q E, sp' vs H Q E → vs.length = ps.length)
    (hs : ∀ vs H Q E, sp' vs H Q E → H T = some (TabO T) ∧ ∀ qs : Array Value, TriplesOk qs.toList → sp vs (upd H T (.tbl qs)) (fun v H3 => Tabbed T (upd H T (.tbl qs)) H3 ∧ Q v H) E) : FnOk P w K mg base CX0 k f fd ps sp' := by
  refine ⟨hl, fun A outer s H args us vs Q E hr e0 hb hv h => ?_⟩
  obtain ⟨hT, hq⟩ := hs vs H Q E h
  obtain ⟨qs, tr, ok⟩ := tab_open e0.hok hT
  have off : ∀ c, H c = none → c ≠ T := fun c n e => by
    rw [e, hT] at n
    cases n
  have offS : ∀ c o, H c = some o → (∀ φ, o ≠ .ext φ) → c ≠ T := fun c o q n => own_ne hT q n
  have e1 : Env0 P w K mg base A outer s (upd H T (.tbl qs)) := ⟨e0.frames, e0.mod, fun c o g => ⟨(e0.bs c o g).1, by rw [upd_ne (off c (e0.bs c o g).2)]; exact (e0.bs c o g).2⟩, e0.bsz, e0.funs, fun c g => by rw [upd_ne (off c (e0.frf c g))]; exact e0.frf c g, ok, e0.bare⟩
  refine codeAny_mono (F.run A outer s _ args us vs _ E hr e1 hb hv (hq qs tr)) fun r s' hr => ?_
  cases r with
  | error e => exact hr
  | ok fl =>
    cases fl with
    | ret u =>
      obtain ⟨v, H3, os, bare, un, hok, rv, ⟨⟨ps3, t3, tr3⟩, keep⟩, q⟩ := hr
      have back : upd H3 T (TabO T) = H := by
        funext c
        by_cases hc : c = T
        · rw [hc, upd_same, hT]
        · rw [upd_ne hc, keep c hc, upd_ne hc]
      have ok3 := tab_close hok t3 tr3
      rw [back] at ok3
      refine ⟨v, H, os, bare, ⟨fun c o g n => un.keep c o g (by rw [upd_ne (off c n)]; exact n), fun c o g n => un.slot c o g (by rw [upd_ne (off c n)]; exact n), fun c o g n _ => n, un.there, fun c xs g => g, fun c o u g => g, fun c qs g => ⟨#[], by rw [g]; simp⟩⟩, ok3, rv, q⟩
    | next => exact hr
    | brk => exact hr
    | cont => exact hr
/-- the other way round, where the table is empty at the start and known at the end -/
theorem tab_law {k : Nat} {f : Addr} {fd : FuncData} {ps : List Str} {sp sp' : Sp} (F : FnOk P w K mg base CX0 k f fd ps sp) (hl : ∀ vs H Q E, sp' vs H Q E → vs.length = ps.length)
    (hs : ∀ vs H Q E, sp' vs H Q E → H T = some (.tbl #[]) ∧ sp vs (upd H T (TabO T)) (fun v H3 => H3 T = some (TabO T) ∧ ∀ H4, Q v H4) E) : FnOk P w K mg base CX0 k f fd ps sp' := by
  refine ⟨hl, fun A outer s H args us vs Q E hr e0 hb hv h => ?_⟩
  obtain ⟨hT, hq⟩ := hs vs H Q E h
  have ok : HOk P w (upd H T (TabO T)) s.heap := tab_close e0.hok hT (show TriplesOk [] from True.intro)
  have off : ∀ c, H c = none → c ≠ T := fun c n e => by
    rw [e, hT] at n
    cases n
  have offS : ∀ c o, H c = some o → (∀ qs, o ≠ .tbl qs) → c ≠ T := fun c o q n e => by
    rw [e, hT] at q
    exact n _ (Option.some.inj q).symm
  have e1 : Env0 P w K mg base A outer s (upd H T (TabO T)) := ⟨e0.frames, e0.mod, fun c o g => ⟨(e0.bs c o g).1, by rw [upd_ne (off c (e0.bs c o g).2)]; exact (e0.bs c o g).2⟩, e0.bsz, e0.funs, fun c g => by rw [upd_ne (off c (e0.frf c g))]; exact e0.frf c g, ok, e0.bare⟩
  refine codeAny_mono (F.run A outer s _ args us vs _ E hr e1 hb hv hq) fun r s' hr => ?_
  cases r with
  | error e => exact hr
  | ok fl =>
    cases fl with
    | ret u =>
      obtain ⟨v, H3, os, bare, un, hok, rv, hT3, q⟩ := hr
      obtain ⟨qs, tr, ok3⟩ := tab_open hok hT3
      refine ⟨v, upd H3 T (.tbl qs), os, bare, ⟨fun c o g n => un.keep c o g (by rw [upd_ne (off c n)]; exact n), fun c o g n => un.slot c o g (by rw [upd_ne (off c n)]; exact n), fun c o g n hx => ?_, un.there, fun c xs g => ?_, fun c o u g => ?_, fun c qs2 g => ?_⟩, ok3, rv, q _⟩
      · rw [upd_ne (off c n)]
        exact un.free c o g (by rw [upd_ne (off c n)]; exact n) hx
      · have d := offS c _ g (fun _ z => by cases z)
        rw [upd_ne d]
        exact un.tups c xs (by rw [upd_ne d]; exact g)
      · have d := offS c _ g (fun _ z => by cases z)
        rw [upd_ne d]
        exact un.frzs c o u (by rw [upd_ne d]; exact g)
      · by_cases hc : c = T
        · subst hc
          rw [hT] at g
          cases g
          exact ⟨qs, by rw [upd_same]; simp⟩
        · rw [upd_ne hc]
          exact un.tbls c qs2 (by rw [upd_ne hc]; exact g)
    | next => exact hr
    | brk => exact hr
    | cont => exact hr
end
theorem tabIn_of {K : PySem.W.Frag} {x : Str} {f c T : Addr} {oc e1 : Value} {od e2 : Option Addr} {sl e3 : Array (Option Value)} {fd : FuncData} {vs : Array Value} (a : PySem.W.nsIn K mainGlobals x = some (some (.ref f))) (l : K.lookup f = some ⟨oc, od, .func fd, sl⟩)
    (hc : fd.code = .ref c) (lc : K.lookup c = some ⟨e1, e2, .fields vs, e3⟩) (v : vs[11]? = some (.ref T)) : PySem.W.tabIn K x = some (c, T) := by
  unfold PySem.W.tabIn
  rw [a]
  simp only [l, hc, lc, v]
/-- the law's own end, where one def's table of codes is told -/
theorem walk_tab {l : PySem.W.OpenLaw} {n k : Nat} {q : Program} {loose : List Str} {XP : (Str → Option Value) → Heap → Prop} {YP : World → Heap → Prop} {d dy : DefRec} {K : Params → PySem.W.Frag} {x y : Str} {sp : Addr → PySem.W.Frag → Sp}
    (hn : l.most = some n) (hn2 : n ≤ sizeLine) (hdf : d.params.defaults = []) (room : Room k callerA) (hrec : (recsOf q).find? (fun e => e.name == y) = some dy)
    (hY : ∀ (w : World) (h : Heap), YP w h → (K w.params).In h)
    (F : ∀ (w : World) (mg : Str → Option Value) (fa : Addr) (h : Heap), (K w.params).In h → h.Ns mainGlobals mg → mg d.name = some (.ref fa) → ∃ (c T : Addr) (fd : FuncData), PySem.W.tabIn (K w.params) y = some (c, T) ∧ (K w.params).lookup T = none ∧
      (∀ (s : Shared) (u : Value), BindsTo s fd ⟨[u], []⟩ [(x, u)]) ∧ ∀ base : Heap, (K w.params).In base → base.Ns mainGlobals mg → TabB base mg c T → FnOk l.prog w (K w.params) mg base CX0 k fa fd [x] (sp T (K w.params)))
    (hsp : ∀ (T : Addr) (K : PySem.W.Frag) (H : Hp) (a : Addr) (ns : List Int), ns.length ≤ n → H T = some (.tbl #[]) → SqL K H a (ns.map V.int) → sp T K [.ref a] H (fun v _ => v = .bl true) fun _ _ _ => False) :
    PySem.W.WalkO q loose XP YP l.row.toRowW d [] (fun f vs => PySem.call f vs) := by
  refine Att.attach_callB hn hdf fun w s0 s1 mg mb fa o pm cd doc a vs ns top inY eo ed ec em ea areI short bits gens => ?_
  have inK := hY w _ inY
  obtain ⟨c, T, fd, tabk, noT, binds, hF⟩ := F w mg fa _ inK top.T.g em
  obtain ⟨hd, emp⟩ := PySem.W.tab_of top.T inK hrec tabk
  exact LamX.law_callTs (cs := [(c, T)]) inK top.T.g top.T.b top.T.builtins top.T.nolimit gens (fun p hp => by rw [List.mem_singleton.mp hp]; exact emp) (fun p hp => by rw [List.mem_singleton.mp hp]; exact noT) (fun p hp => by rw [List.mem_singleton.mp hp]; exact hd)
    top.T.bmain ea areI (Nat.le_trans short hn2) room (fun base h1 h2 h3 => hF base h1 h2 (let z := h3 (c, T) (List.mem_singleton.mpr rfl); ⟨z.code, z.bm, z.gP⟩)) binds (fun H hH hS => hsp T _ H a ns short (hH (c, T) (List.mem_singleton.mpr rfl)) hS) fun H e s' z => z
end Vf
namespace Vf
open PySem PySem.Spec PyProof.Rows L2
/-! ### the text by places -/
def topS (i : Nat) : Stmt := PySem.Challenge.pw_attachhall_k06_texts_that_are_no_letter.main.body.getD i (.Pass ⟨0, 0, 0, 0⟩)
end Vf
namespace Vf
open PySem PySem.Spec PyProof.Rows L2 Evl
/-! ### the box of numbers -/
abbrev sBeg : Stmt := topS 14
theorem scBeg : FnScope ["_law_script", "_law_stirred", "_law_cell"] ["_law_script"] (defScope sBeg) := ⟨rfl, rfl, rfl, by decide +kernel, rfl, by decide +kernel, by decide +kernel⟩
structure TBeg (mg : Str → Option Value) : Prop where
  z_list : mg "list" = none
  z_int : mg "int" = none
  z_len : mg "len" = none
section
variable {P : Program} {w : World} {K : PySem.W.Frag} {mg : Str → Option Value} {base : Heap}
def spBegO (K : PySem.W.Frag) : Sp := fun vs H Q _ => ∃ (a : Addr) (ns : List Int), vs = [.ref a] ∧ SqL K H a (ns.map V.int) ∧ ns.length ≤ 63 ∧
  ∀ (b l : Addr) (z : Int) (ns' : List Int) (H' : Hp), b ≠ l → Ex H H' → H b = none → H l = none → H' b = some (.lst [.ref l, .int z]) → H' l = some (.lst (ns'.map V.int)) → Q (.ref b) H'
def spBeg (K : PySem.W.Frag) : Sp := fun vs H Q _ => ∃ (a : Addr) (ns : List Int), vs = [.ref a] ∧ SqL K H a (ns.map V.int) ∧ ns.length ≤ 63 ∧
  ∀ (b l : Addr) (H' : Hp), Ex H H' → Box H' b l → Q (.ref b) H'
theorem ok_begun0 {f : Addr} {fd : FuncData} (F : Fun K "_law_begun" "_law_begun" sBeg f fd) (T : TBeg mg) : FnOk P w K mg base CX0 1 f fd ["_law_script"] (spBegO K) := by
  refine F.ok scBeg (fun vs H Q E h => ?_) (fun cdv A outer s H vs Q E hr h => ?_)
  · obtain ⟨a, ns, rfl, _⟩ := h
    rfl
  · obtain ⟨a, ns, rfl, hS, hlen, q⟩ := h
    refine ⟨_, (pss_cons (ps_set (i := 1) scBeg.nd rfl (Or.inl rfl) pe_int)
      (pss_cons (ps_for PassesOwn.never rfl (pi_list (pv 0)) (pg_name (i := 2) scBeg.nd rfl (Or.inl rfl)) (pss_one (ps_set (i := 1) scBeg.nd rfl (Or.inl rfl) (pe_op op_mod (pe_op op_add (pe_op op_add (pe_op op_mul (pv 1) pe_int) (pe_op op_mul (pv 2) pe_int)) pe_int) pe_int))))
      (pss_one (ps_ret (pe_lst (pa_cons (pe_callTy call_list_of (by rfl) T.z_list boot_list (pa_cons (pv 0) pa_nil)) (pa_cons (pe_op op_mul (pv 1) (pe_callTy call_int1 (by rfl) T.z_int boot_int (pa_cons (pe_cmpR op_gt (pe_callB call_len_seq (by rfl) T.z_len PySem.boot_len (pa_cons (pv 0) pa_nil)) pe_int (nomark _)) pa_nil))) pa_nil))))))), ?_⟩
    refine ⟨.ref a, rfl, a, rfl, ⟨_, hS⟩, for_list (K := K) (a := a) (xs := ns.map V.int) (fun i σ H' => ∃ (z : Int) (c : Option V), σ = [some (.ref a), some (.int z), c] ∧ -(2 ^ 64) < z ∧ z < 2 ^ 64 ∧ H' = H)
      ⟨0, none, rfl, by decide, by decide, rfl⟩ (fun i σ H' _ ⟨_, _, _, _, _, e⟩ => by rw [e]; exact hS) ?_ ?_⟩
    · rintro i y σ H' hi ⟨z, c, rfl, h1, h2, rfl⟩
      obtain ⟨u, rfl⟩ : ∃ u, y = V.int u := by
        rw [List.getElem?_map] at hi
        cases e : ns[i]? with
        | none =>
          rw [e] at hi
          cases hi
        | some u =>
          rw [e] at hi
          exact ⟨u, (Option.some.inj hi).symm⟩
      refine ⟨_, rfl, z, 48271, rfl, rfl, .inl ⟨h1, h2⟩, _, rfl, u, 69621, rfl, rfl, .inr (by decide), _, _, rfl, rfl, _, _, rfl, rfl, _, _, rfl, rfl, (by show (0 : Int) < 2147483647; decide), ?_⟩
      refine ⟨_, _, rfl, ?_, ?_, rfl⟩
      · exact Int.lt_of_lt_of_le (by decide) (Int.emod_nonneg _ (by decide))
      · exact Int.lt_of_lt_of_le (Int.emod_lt_of_pos _ (by decide)) (by decide)
    · rintro σ H' ⟨z, c, rfl, h1, h2, rfl⟩
      refine ⟨.ref a, rfl, a, _, rfl, .inl hS, fun l nl => ?_⟩
      have kl : Ex H' (upd H' l (.lst (ns.map V.int))) := Ex.new nl
      have hl : upd H' l (.lst (ns.map V.int)) l = some (.lst (ns.map V.int)) := upd_same
      generalize upd H' l (.lst (ns.map V.int)) = H1 at kl hl ⊢
      have fin : ∀ (k : Bool) (Q' : VK), Q' = Q → (rI CMul fun i j => .int (i * j)) (.int z) (.int (if k then 1 else 0)) H1 fun x H2 => (fun xs H3 => xs.length ≤ sizeLine ∧ ∀ p, H3 p = none → Q' (.ref p) (upd H3 p (.lst xs))) [.ref l, x] H2 := fun k Q' e => by
        subst e
        refine ⟨_, _, rfl, rfl, .inl ⟨h1, h2⟩, (by show 2 ≤ sizeLine; decide), fun b nb => ?_⟩
        have hbl : b ≠ l := (ne_of_none hl nb).symm
        exact q b l _ ns _ hbl (kl.trans (Ex.new nb)) (by
          cases e : H' b with
          | none => rfl
          | some o => rw [kl _ _ e] at nb; cases nb) nl upd_same (by rw [upd_ne hbl.symm]; exact hl)
      refine ⟨.int z, rfl, .ref a, rfl, a, _, rfl, .inl (ex_l kl hS), _, _, rfl, rfl, .inr ⟨_, rfl, ?_⟩⟩
      exact fin _ _ rfl
theorem ok_begun {f : Addr} {fd : FuncData} (F : Fun K "_law_begun" "_law_begun" sBeg f fd) (T : TBeg mg) : FnOk P w K mg base CX0 1 f fd ["_law_script"] (spBeg K) := by
  have G : FnOk P w K mg base CX0 1 f fd ["_law_script"] (spBegO K) := ok_begun0 F T
  refine ⟨fun vs H Q E h => ?_, fun A outer s H args us vs Q E hr e0 hb hv h => ?_⟩
  · obtain ⟨a, ns, rfl, _⟩ := h
    rfl
  · obtain ⟨a, ns, rfl, hS, hlen, q⟩ := h
    refine codeAny_mono (G.run A outer s H args us [.ref a] (fun v H2 => ∃ b l z ns, v = .ref b ∧ b ≠ l ∧ Ex H H2 ∧ H b = none ∧ H l = none ∧ H2 b = some (.lst [.ref l, .int z]) ∧ H2 l = some (.lst (ns.map V.int))) E hr e0 hb hv
      ⟨a, ns, rfl, hS, hlen, fun b l z ns' H' h1 h2 h3 h4 h5 h6 => ⟨b, l, z, ns', rfl, h1, h2, h3, h4, h5, h6⟩⟩) fun r s' hq => ?_
    cases r with
    | error e => exact hq
    | ok fl =>
      cases fl with
      | ret u =>
        obtain ⟨v, H2, os, bare, un, hok, rv, b, l, z, ns2, rfl, hne, ex, n1, n2, hb2, hl2⟩ := hq
        exact ⟨.ref b, closed H2 b l, os, bare, un_new un n1 n2 hb2 hl2, hok_close hok hb2 hl2, rv, q b l _ (ex_new2 ex n1 n2) ⟨hne, upd_same, by unfold closed; rw [upd_ne (Ne.symm hne), upd_same]⟩⟩
      | next => exact hq
      | brk => exact hq
      | cont => exact hq
end
end Vf
namespace Vf
open PySem PySem.Spec PyProof.Rows L2 Evl
/-! ### a draw -/
abbrev sTak : Stmt := topS 15
theorem scTak : FnScope ["_law_box", "_law_many", "_law_number"] ["_law_box", "_law_many"] (defScope sTak) := ⟨rfl, rfl, rfl, by decide +kernel, rfl, by decide +kernel, by decide +kernel⟩
section
variable {P : Program} {w : World} {K : PySem.W.Frag} {mg : Str → Option Value} {base : Heap}
theorem ok_take {f : Addr} {fd : FuncData} (F : Fun K "_law_take" "_law_take" sTak f fd) (m : Int) (h0 : 0 < m) (h1 : m < 1073741824) :
    FnOk P w K mg base CX0 1 f fd ["_law_box", "_law_many"] (spOpen (fun v => ∃ i, v = V.int i ∧ 0 ≤ i ∧ i < m) (fun r => r = [V.int m])) := by
  refine F.ok scTak (fun vs H Q E h => ?_) (fun cdv A outer s H vs Q E hr h => ?_)
  · obtain ⟨b, l, z, ns, rest, rfl, rfl, _⟩ := h
    rfl
  · obtain ⟨b, l, z, ns, rest, rfl, rfl, hne, hb, hl, q⟩ := h
    refine ⟨_, (pss_cons (ps_if (pt_cmpR (op_eqD hr.units) (pe_ix ix_list (pv 0) pe_int (fun _ _ => rfl)) (pe_lst pa_nil) (nomark _)) (pss_cons (ps_asg (pe_op op_mod (pe_op op_mul (pe_ix ix_list (pv 0) pe_int (fun _ _ => rfl)) pe_int) pe_int) (pg_sub (pv 0) pe_int set_list))
      (pss_one (ps_ret (pe_op op_mod (pe_op op_fdivN (pe_ix ix_list (pv 0) pe_int (fun _ _ => rfl)) pe_int) (pv 1))))) pss_nil)
      (pss_cons (ps_set (i := 2) scTak.nd rfl (Or.inl rfl) (pe_ix ix_list (pe_ix ix_list (pv 0) pe_int (fun _ _ => rfl)) pe_int (fun _ _ => rfl)))
      (pss_cons (ps_asg (pe_op op_fdivN (pv 2) (pv 1)) (pg_sub (pe_ix ix_list (pv 0) pe_int (fun _ _ => rfl)) pe_int set_list))
      (pss_cons (ps_if (PW.pt (pw_or (pt_cmpR op_eq (pe_ix ix_list (pe_ix ix_list (pv 0) pe_int (fun _ _ => rfl)) pe_int (fun _ _ => rfl)) pe_int (nomark _)) (pw_or1 (pt_cmpR op_eq (pe_ix ix_list (pe_ix ix_list (pv 0) pe_int (fun _ _ => rfl)) pe_int (fun _ _ => rfl)) (pe_un un_neg pe_int) (nomark _))))) (pss_one (ps_expr (pe_bm PySem.F.plainAttrs_list PySem.F.slot_list_pop PySem.F.type_list_pop mt_popAt (pe_ix ix_list (pv 0) pe_int (fun _ _ => rfl)) (pa_cons pe_int pa_nil)))) pss_nil)
      (pss_one (ps_ret (pe_op op_mod (pv 2) (pv 1)))))))), ?_⟩
    have hmod : ∀ i : Int, ∃ j, V.int (i % m) = V.int j ∧ 0 ≤ j ∧ j < m := fun i => ⟨i % m, rfl, Int.emod_nonneg _ (by omega), Int.emod_lt_of_pos _ h0⟩
    refine ⟨.ref b, rfl, b, _, 0, .ref l, rfl, rfl, SqL.of hb, atI_nat (j := 0) rfl, Nat.zero_le _, fun p np => ?_⟩
    have kp : ∀ c o, H c = some o → (upd H p (.lst [])) c = some o := fun c o e => by rw [upd_ne (ne_of_none e np)]; exact e
    have hb1 := kp _ _ hb
    have hl1 := kp _ _ hl
    have pp : (upd H p (.lst [])) p = some (.lst []) := upd_same
    generalize upd H p (HO.lst []) = H1 at kp hb1 hl1 pp ⊢
    refine ⟨.list (ns.map PyData.int), .list [], .lst (SqL.of hl1) (dp_ints ns), .lst (SqL.of pp) .nil, sh_ints ns, rfl, _, rfl, ?_⟩
    rw [eqv_nil]
    refine ite2 (fun e => ?_) (fun e => ?_)
    · have e0 : ns = [] := of_decide_eq_true e
      subst e0
      -- the second number turned on
      refine ⟨.ref b, rfl, b, _, 1, .int z, rfl, rfl, SqL.of hb1, atI_nat (j := 1) rfl, _, _, rfl, rfl, .inr (by decide), _, _, rfl, rfl, (by show (0 : Int) < 2147483647; decide), .ref b, rfl, b, _, 1, 1, rfl, rfl, hb1, rfl, ?_⟩
      refine ⟨.ref b, rfl, b, _, 1, .int (z * 48271 % 2147483647), rfl, rfl, SqL.of upd_same, atI_nat (j := 1) rfl, _, _, rfl, rfl, ⟨by decide, by decide⟩, _, rfl, _, _, rfl, rfl, h0, ?_⟩
      refine q _ _ (z * 48271 % 2147483647) [] (hmod _) (fun c o h2 h3 e => by rw [upd_ne h2]; exact kp c o e) upd_same (by rw [upd_ne (Ne.symm hne)]; exact hl1)
    · have e0 : ns ≠ [] := fun z => e (decide_eq_true z)
      obtain ⟨n, r, rfl⟩ : ∃ n r, ns = n :: r := by
        cases ns with
        | nil => exact absurd rfl e0
        | cons n r => exact ⟨n, r, rfl⟩
      refine ⟨.ref b, rfl, b, _, 0, .ref l, rfl, rfl, SqL.of hb1, atI_nat (j := 0) rfl, l, _, 0, .int n, rfl, rfl, SqL.of hl1, atI_nat (j := 0) rfl, ?_⟩
      refine ⟨.int n, rfl, .int m, rfl, _, _, rfl, rfl, ⟨by omega, by omega⟩, .ref b, rfl, b, _, 0, .ref l, rfl, rfl, SqL.of hb1, atI_nat (j := 0) rfl, l, _, 0, 0, rfl, rfl, hl1, ixN_nat (j := 0) (by simp), ?_⟩
      have hb2 : upd H1 l (.lst (((n :: r).map V.int).set 0 (.int (n.fdiv m)))) b = some (.lst [.ref l, .int z]) := by rw [upd_ne hne]; exact hb1
      have hl2 : upd H1 l (.lst (((n :: r).map V.int).set 0 (.int (n.fdiv m)))) l = some (.lst ((n.fdiv m :: r).map V.int)) := upd_same
      have kp2 : ∀ c o, c ≠ l → H c = some o → upd H1 l (.lst (((n :: r).map V.int).set 0 (.int (n.fdiv m)))) c = some o := fun c o h e => by rw [upd_ne h]; exact kp c o e
      generalize upd H1 l (.lst (((n :: r).map V.int).set 0 (.int (n.fdiv m)))) = H2 at hb2 hl2 kp2 ⊢
      have fin : ∀ (H' : Hp) (ns' : List Int), (∀ c o, c ≠ b → c ≠ l → H c = some o → H' c = some o) → H' b = some (.lst [.ref l, .int z]) → H' l = some (.lst (ns'.map V.int)) → Q (.int (n % m)) H' := fun H' ns' h2 h3 h4 => q _ _ z ns' (hmod _) h2 h3 h4
      have fin2 : ∀ (H' : Hp) (ns' : List Int), (∀ c o, c ≠ b → c ≠ l → H c = some o → H' c = some o) → H' b = some (.lst [.ref l, .int z]) → H' l = some (.lst (ns'.map V.int)) →
          tRet (tOp (rI (fun _ j => 0 < j) fun i j => .int (i % j)) (tVar 2) (tVar 1)) { nx := fun _ H' => Q .non H', rt := Q } [some (V.ref b), some (V.int m), some (V.int n)] H' :=
        fun H' ns' h2 h3 h4 => ⟨.int n, rfl, .int m, rfl, _, _, rfl, rfl, h0, fin H' ns' h2 h3 h4⟩
      have pop : tDrop (tBM K "list" rPopAt (tOp (rIxL K) (tVar 0) (tC (.int 0))) (tCons (tC (.int 0)) tNil)) { nx := fun σ H => tRet (tOp (rI (fun _ j => 0 < j) fun i j => .int (i % j)) (tVar 2) (tVar 1)) { nx := fun _ H' => Q .non H', rt := Q } σ H, rt := Q } [some (V.ref b), some (V.int m), some (V.int n)] H2 := by
        refine ⟨.ref b, rfl, b, _, 0, .ref l, rfl, rfl, SqL.of hb2, atI_nat (j := 0) rfl, .inl ⟨rfl, _, SqL.of hl2⟩, l, _, 0, 0, .int (n.fdiv m), rfl, rfl, hl2, by decide, by decide, seq0 _ _, rfl, ?_⟩
        exact fin2 _ r (fun c o _ h3 e => by rw [upd_ne h3]; exact kp2 c o h3 e) (by rw [upd_ne hne]; exact hb2) upd_same
      refine ⟨.ref b, rfl, b, _, 0, .ref l, rfl, rfl, SqL.of hb2, atI_nat (j := 0) rfl, l, _, 0, .int (n.fdiv m), rfl, rfl, SqL.of hl2, atI_nat (j := 0) rfl, rfl, _, rfl, ?_⟩
      refine ite2 (fun _ => iteT pop) (fun _ => ?_)
      refine ⟨.ref b, rfl, b, _, 0, .ref l, rfl, rfl, SqL.of hb2, atI_nat (j := 0) rfl, l, _, 0, .int (n.fdiv m), rfl, rfl, SqL.of hl2, atI_nat (j := 0) rfl, 1, rfl, rfl, _, rfl, ?_⟩
      exact ite2 (fun _ => pop) (fun _ => fin2 H2 _ (fun c o _ h3 e => kp2 c o h3 e) hb2 hl2)
def spTak : Sp := fun vs H Q _ => ∃ (b l : Addr) (m : Int), vs = [.ref b, .int m] ∧ Box H b l ∧ 0 < m ∧ m < 1073741824 ∧ ∀ (i : Int) (H' : Hp), Ex H H' → 0 ≤ i → i < m → Q (.int i) H'
theorem ok_take2 {f : Addr} {fd : FuncData} (F : Fun K "_law_take" "_law_take" sTak f fd) : FnOk P w K mg base CX0 1 f fd ["_law_box", "_law_many"] spTak := by
  have G := hide_fn (P := P) (w := w) (K := K) (mg := mg) (base := base) (k := 1) (f := f) (fd := fd) (ps := ["_law_box", "_law_many"]) (R := fun r v => ∃ m i, r = [V.int m] ∧ v = V.int i ∧ 0 ≤ i ∧ i < m) (pre := fun r => ∃ m, r = [V.int m] ∧ 0 < m ∧ m < 1073741824)
    (fun r0 ⟨m, e, h0, h1⟩ => (ok_take F m h0 h1).imp fun vs H Q E ⟨b, l, z, ns, rest, e1, e2, e3, e4, e5, q⟩ => ⟨b, l, z, ns, rest, e1, e2.trans e, e3, e4, e5, fun v H' z' ns' ⟨i, x1, x2, x3⟩ => q v H' z' ns' ⟨m, i, e, x1, x2, x3⟩⟩)
    (fun r ⟨m, e, _⟩ => by rw [e]; rfl)
  refine G.imp fun vs H Q E ⟨b, l, m, e, B, h0, h1, q⟩ => ⟨b, l, [.int m], e, ⟨m, rfl, h0, h1⟩, B, fun v H' ⟨m', i, x1, x2, x3, x4⟩ ex => ?_⟩
  have em : m = m' := V.int.inj (List.cons.inj x1).1
  subst em
  subst x2
  exact q i H' ex x3 x4
end
structure CTak (P : Program) (w : World) (K : PySem.W.Frag) (mg : Str → Option Value) (base : Heap) : Prop where
  law_take : Cal P w K mg base "_law_take" 1 ["_law_box", "_law_many"] spTak
end Vf
namespace Vf
open PySem PySem.Spec PyProof.Rows L2 Evl
/-! ### the same data -/
abbrev sAli : Stmt := topS 16
theorem scAli : FnScope ["_law_found", "_law_due", "_law_k"] ["_law_found", "_law_due"] (defScope sAli) := ⟨rfl, rfl, rfl, by decide +kernel, rfl, by decide +kernel, by decide +kernel⟩
structure TAli (mg : Str → Option Value) : Prop where
  z_bool : mg "bool" = none
  z_int : mg "int" = none
  z_str : mg "str" = none
  z_list : mg "list" = none
  z_tuple : mg "tuple" = none
  z_isinstance : mg "isinstance" = none
  z_len : mg "len" = none
  z_range : mg "range" = none
def spAli (K : PySem.W.Frag) (n : Nat) : Sp := fun vs H Q _ => ∃ (x y : V) (d : PyData), vs = [x, y] ∧ Dp K H x d ∧ Dp K H y d ∧ good n d = true ∧ n ≤ 60 ∧ Q (.bl true) H
theorem isi_of {K : PySem.W.Frag} {H : Hp} {x : V} {t u : String} {b : Bool} {Q : VK} (ty : TyX K H x (.type t)) (h : kitB t u = some b) (q : Q (.bl b) H) : rIsi K [x, .ty u] H Q := ⟨x, .ty u, _, _, b, rfl, .ty u, ty, kit_ty h, q⟩
theorem sh_of {d : PyData} {n : Nat} (h : PyData.canLay0 d = true) (hd : PyData.depth d ≤ n) (hn : n ≤ 60) : SeqAt.shaped d = true := by
  show (PyData.canLay0 d && decide (PyData.depth d ≤ 64)) = true
  rw [h, decide_eq_true (by omega)]
  rfl
theorem dpall_get {K : PySem.W.Frag} {H : Hp} : ∀ {xs : List V} {ds : List PyData} {i : Nat} {d : PyData}, DpAll K H xs ds → ds[i]? = some d → ∃ x, xs[i]? = some x ∧ Dp K H x d
  | _, _, _, _, .nil, e => by simp at e
  | _, _, 0, _, .cons h _, e => by
    simp at e
    subst e
    exact ⟨_, rfl, h⟩
  | _, _, i + 1, _, .cons _ t, e => by
    obtain ⟨x, h1, h2⟩ := dpall_get (i := i) t (by simpa using e)
    exact ⟨x, by simpa using h1, h2⟩
theorem dpall_len {K : PySem.W.Frag} {H : Hp} : ∀ {xs : List V} {ds : List PyData}, DpAll K H xs ds → xs.length = ds.length
  | _, _, .nil => rfl
  | _, _, .cons _ t => by rw [List.length_cons, List.length_cons, dpall_len t]
theorem depth_get : ∀ {ds : List PyData} {i : Nat} {d : PyData}, ds[i]? = some d → PyData.depth d ≤ PyData.depthAll ds
  | [], _, _, e => by simp at e
  | x :: r, 0, d, e => by
    simp at e
    subst e
    exact Nat.le_max_left _ _
  | x :: r, i + 1, d, e => Nat.le_trans (depth_get (ds := r) (i := i) (by simpa using e)) (Nat.le_max_right _ _)
theorem lay_get : ∀ {ds : List PyData} {i : Nat} {d : PyData}, PyData.canLayAll0 ds = true → ds[i]? = some d → PyData.canLay0 d = true
  | [], _, _, _, e => by simp at e
  | x :: r, 0, d, h, e => by
    simp at e
    subst e
    exact (Bool.and_eq_true_iff.mp (show (PyData.canLay0 x && PyData.canLayAll0 r) = true from h)).1
  | x :: r, i + 1, d, h, e => lay_get (ds := r) (i := i) (Bool.and_eq_true_iff.mp (show (PyData.canLay0 x && PyData.canLayAll0 r) = true from h)).2 (by simpa using e)
theorem ty_list {K : PySem.W.Frag} {H : Hp} {a : Addr} {xs : List V} (h : SqL K H a xs) : TyX K H (.ref a) (.type "list") := by
  rcases h with (h | ⟨o, h⟩) | h
  · exact .base (.lst h)
  · exact .base (.frz h)
  · obtain ⟨_, _, _, h, c, _⟩ := h
    exact .kList h c
theorem ty_tup {K : PySem.W.Frag} {H : Hp} {a : Addr} {xs : List V} (h : SqT K H a xs) : TyX K H (.ref a) (.type "tuple") := by
  rcases h with (h | ⟨o, h⟩) | h
  · exact .base (.tup h)
  · exact .fTuple h
  · obtain ⟨_, _, _, h, c, _⟩ := h
    exact .kTuple h c
section
variable {P : Program} {w : World} {K : PySem.W.Frag} {mg : Str → Option Value} {base : Heap}
structure CAli (P : Program) (w : World) (K : PySem.W.Frag) (mg : Str → Option Value) (base : Heap) (k : Nat) (sp : Sp) : Prop where
  law_alike : Cal P w K mg base "_law_alike" k ["_law_found", "_law_due"] sp
theorem ok_alike1 {f : Addr} {fd : FuncData} {k n : Nat} {sp : Sp} (F : Fun K "_law_alike" "_law_alike" sAli f fd) (T : TAli mg) (C : CAli P w K mg base k sp)
    (hC : ∀ (x y : V) (d : PyData) (H : Hp) (Q : VK) (E : XK), Dp K H x d → Dp K H y d → (∃ m, n = m + 1 ∧ good m d = true) → n ≤ 60 → Q (.bl true) H → sp [x, y] H Q E) : FnOk P w K mg base CX0 (k + 1) f fd ["_law_found", "_law_due"] (spAli K n) := by
  refine F.ok scAli (fun vs H Q E h => ?_) (fun cdv A outer s H vs Q E hr h => ?_)
  · obtain ⟨x, y, d, rfl, _⟩ := h
    rfl
  · obtain ⟨x, y, d, rfl, hx, hy, hg, hn, q⟩ := h
    obtain ⟨hl, hd⟩ := good_lay n d hg
    refine ⟨_, (pss_cons (ps_if (pt_cmpR op_isN (pv 1) pe_non (nomark _)) (pss_one (ps_ret (pe_cmpR op_isN (pv 0) pe_non (nomark _)))) pss_nil)
      (pss_cons (ps_if (pt_val (pe_callB call_isi (by rfl) T.z_isinstance boot_isinstance (pa_cons (pv 1) (pa_cons (pe_bltn (v := .ty "bool") (by rfl) T.z_bool boot_bool rfl) pa_nil)))) (pss_one (ps_ret (pe_and (pe_callB call_isi (by rfl) T.z_isinstance boot_isinstance (pa_cons (pv 0) (pa_cons (pe_bltn (v := .ty "bool") (by rfl) T.z_bool boot_bool rfl) pa_nil))) (pe_one (pe_cmpR (op_eqD hr.units) (pv 0) (pv 1) (nomark _)))))) pss_nil)
      (pss_cons (ps_if (pt_val (pe_callB call_isi (by rfl) T.z_isinstance boot_isinstance (pa_cons (pv 1) (pa_cons (pe_bltn (v := .ty "int") (by rfl) T.z_int boot_int rfl) pa_nil)))) (pss_one (ps_ret (pe_and (pe_callB call_isi (by rfl) T.z_isinstance boot_isinstance (pa_cons (pv 0) (pa_cons (pe_bltn (v := .ty "int") (by rfl) T.z_int boot_int rfl) pa_nil))) (pe_and (pe_not (pe_callB call_isi (by rfl) T.z_isinstance boot_isinstance (pa_cons (pv 0) (pa_cons (pe_bltn (v := .ty "bool") (by rfl) T.z_bool boot_bool rfl) pa_nil)))) (pe_one (pe_cmpR (op_eqD hr.units) (pv 0) (pv 1) (nomark _))))))) pss_nil)
      (pss_cons (ps_if (pt_val (pe_callB call_isi (by rfl) T.z_isinstance boot_isinstance (pa_cons (pv 1) (pa_cons (pe_bltn (v := .ty "str") (by rfl) T.z_str boot_str rfl) pa_nil)))) (pss_one (ps_ret (pe_and (pe_callB call_isi (by rfl) T.z_isinstance boot_isinstance (pa_cons (pv 0) (pa_cons (pe_bltn (v := .ty "str") (by rfl) T.z_str boot_str rfl) pa_nil))) (pe_one (pe_cmpR (op_eqD hr.units) (pv 0) (pv 1) (nomark _)))))) pss_nil)
      (pss_cons (ps_if (PW.pt (pw_or (pt_cmpR op_ne (pe_callB call_isi (by rfl) T.z_isinstance boot_isinstance (pa_cons (pv 1) (pa_cons (pe_bltn (v := .ty "tuple") (by rfl) T.z_tuple boot_tuple rfl) pa_nil))) (pe_callB call_isi (by rfl) T.z_isinstance boot_isinstance (pa_cons (pv 0) (pa_cons (pe_bltn (v := .ty "tuple") (by rfl) T.z_tuple boot_tuple rfl) pa_nil))) (nomark _)) (pw_or1 (pt_cmpR op_ne (pe_callB call_isi (by rfl) T.z_isinstance boot_isinstance (pa_cons (pv 1) (pa_cons (pe_bltn (v := .ty "list") (by rfl) T.z_list boot_list rfl) pa_nil))) (pe_callB call_isi (by rfl) T.z_isinstance boot_isinstance (pa_cons (pv 0) (pa_cons (pe_bltn (v := .ty "list") (by rfl) T.z_list boot_list rfl) pa_nil))) (nomark _))))) (pss_one (ps_ret pe_bl)) pss_nil)
      (pss_cons (ps_if (pt_cmpR op_ne (pe_callB call_len_seq (by rfl) T.z_len PySem.boot_len (pa_cons (pv 0) pa_nil)) (pe_callB call_len_seq (by rfl) T.z_len PySem.boot_len (pa_cons (pv 1) pa_nil)) (nomark _)) (pss_one (ps_ret pe_bl)) pss_nil)
      (pss_cons (ps_for PassesOwn.never rfl (pi_range1 rfl T.z_range (pa_cons (pe_callB call_len_seq (by rfl) T.z_len PySem.boot_len (pa_cons (pv 1) pa_nil)) pa_nil)) (pg_name (i := 2) scAli.nd rfl (Or.inl rfl)) (pss_one (ps_if (pt_not (pt_val (pcall C.law_alike (hr.mono (by first | decide | omega)) (pa_cons (pe_ix ix_seq (pv 0) (pv 2) (fun _ _ => rfl)) (pa_cons (pe_ix ix_seq (pv 1) (pv 2) (fun _ _ => rfl)) pa_nil))))) (pss_one (ps_ret pe_bl)) pss_nil)))
      (pss_one (ps_ret pe_bl))))))))), ?_⟩
    refine ⟨y, rfl, rfl, _, rfl, ?_⟩
    cases d with
    | none =>
      cases hx
      cases hy
      rw [decide_eq_true rfl]
      refine iteT ?_
      exact ⟨.non, rfl, rfl, q⟩
    | bool b =>
      cases hx
      cases hy
      refine iteF ?_
      refine ⟨.bl b, rfl, ?_⟩
      refine ⟨_, .ty "bool", _, _, true, rfl, .ty "bool", (.base (.bl b)), kit_ty (show kitB "bool" "bool" = some true by decide +kernel), ?_⟩
      refine ⟨_, rfl, iteT ?_⟩
      refine ⟨.bl b, rfl, ?_⟩
      refine ⟨_, .ty "bool", _, _, true, rfl, .ty "bool", (.base (.bl b)), kit_ty (show kitB "bool" "bool" = some true by decide +kernel), ?_⟩
      refine ⟨_, rfl, iteT ?_⟩
      refine ⟨.bl b, rfl, .bl b, rfl, .bool b, .bool b, .bl b, .bl b, rfl, rfl, ?_⟩
      rw [SeqAt.eqv_refl _ rfl]
      exact q
    | int i =>
      cases hx
      cases hy
      refine iteF ?_
      refine ⟨.int i, rfl, ?_⟩
      refine ⟨_, .ty "bool", _, _, false, rfl, .ty "bool", (.base (.int i)), kit_ty (show kitB "int" "bool" = some false by decide +kernel), ?_⟩
      refine ⟨_, rfl, iteF ?_⟩
      refine ⟨.int i, rfl, ?_⟩
      refine ⟨_, .ty "int", _, _, true, rfl, .ty "int", (.base (.int i)), kit_ty (show kitB "int" "int" = some true by decide +kernel), ?_⟩
      refine ⟨_, rfl, iteT ?_⟩
      refine ⟨.int i, rfl, ?_⟩
      refine ⟨_, .ty "int", _, _, true, rfl, .ty "int", (.base (.int i)), kit_ty (show kitB "int" "int" = some true by decide +kernel), ?_⟩
      refine ⟨_, rfl, iteT ?_⟩
      refine ⟨.int i, rfl, ?_⟩
      refine ⟨_, .ty "bool", _, _, false, rfl, .ty "bool", (.base (.int i)), kit_ty (show kitB "int" "bool" = some false by decide +kernel), ?_⟩
      refine ⟨_, rfl, _, rfl, iteT ?_⟩
      refine ⟨.int i, rfl, .int i, rfl, .int i, .int i, .int i, .int i, rfl, rfl, ?_⟩
      rw [SeqAt.eqv_refl _ rfl]
      exact q
    | str z =>
      cases hx
      cases hy
      have hs := sh_of hl hd hn
      refine iteF ?_
      refine ⟨.str z, rfl, ?_⟩
      refine ⟨_, .ty "bool", _, _, false, rfl, .ty "bool", (.base (.str z)), kit_ty (show kitB "str" "bool" = some false by decide +kernel), ?_⟩
      refine ⟨_, rfl, iteF ?_⟩
      refine ⟨.str z, rfl, ?_⟩
      refine ⟨_, .ty "int", _, _, false, rfl, .ty "int", (.base (.str z)), kit_ty (show kitB "str" "int" = some false by decide +kernel), ?_⟩
      refine ⟨_, rfl, iteF ?_⟩
      refine ⟨.str z, rfl, ?_⟩
      refine ⟨_, .ty "str", _, _, true, rfl, .ty "str", (.base (.str z)), kit_ty (show kitB "str" "str" = some true by decide +kernel), ?_⟩
      refine ⟨_, rfl, iteT ?_⟩
      refine ⟨.str z, rfl, ?_⟩
      refine ⟨_, .ty "str", _, _, true, rfl, .ty "str", (.base (.str z)), kit_ty (show kitB "str" "str" = some true by decide +kernel), ?_⟩
      refine ⟨_, rfl, iteT ?_⟩
      refine ⟨.str z, rfl, .str z, rfl, .str z, .str z, .str z, .str z, hs, hs, ?_⟩
      rw [SeqAt.eqv_refl _ hl]
      exact q
    | dict _ => cases hx
    | list ds =>
      cases hx with
      | @lst a xs _ ha hA =>
      cases hy with
      | @lst b ys _ hb hB =>
      have ta := ty_list ha
      have tb := ty_list hb
      refine iteF ?_
      refine ⟨.ref b, rfl, ?_⟩
      refine ⟨_, .ty "bool", _, _, false, rfl, .ty "bool", tb, kit_ty (show kitB "list" "bool" = some false by decide +kernel), ?_⟩
      refine ⟨_, rfl, iteF ?_⟩
      refine ⟨.ref b, rfl, ?_⟩
      refine ⟨_, .ty "int", _, _, false, rfl, .ty "int", tb, kit_ty (show kitB "list" "int" = some false by decide +kernel), ?_⟩
      refine ⟨_, rfl, iteF ?_⟩
      refine ⟨.ref b, rfl, ?_⟩
      refine ⟨_, .ty "str", _, _, false, rfl, .ty "str", tb, kit_ty (show kitB "list" "str" = some false by decide +kernel), ?_⟩
      refine ⟨_, rfl, iteF ?_⟩
      refine ⟨.ref b, rfl, ?_⟩
      refine ⟨_, .ty "tuple", _, _, false, rfl, .ty "tuple", tb, kit_ty (show kitB "list" "tuple" = some false by decide +kernel), ?_⟩
      refine ⟨.ref a, rfl, ?_⟩
      refine ⟨_, .ty "tuple", _, _, false, rfl, .ty "tuple", ta, kit_ty (show kitB "list" "tuple" = some false by decide +kernel), ?_⟩
      refine ⟨rfl, _, rfl, iteF ?_⟩
      refine ⟨.ref b, rfl, ?_⟩
      refine ⟨_, .ty "list", _, _, true, rfl, .ty "list", tb, kit_ty (show kitB "list" "list" = some true by decide +kernel), ?_⟩
      refine ⟨.ref a, rfl, ?_⟩
      refine ⟨_, .ty "list", _, _, true, rfl, .ty "list", ta, kit_ty (show kitB "list" "list" = some true by decide +kernel), ?_⟩
      refine ⟨rfl, _, rfl, iteF ?_⟩
      have el : xs.length = ys.length := (dpall_len hA).trans (dpall_len hB).symm
      refine ⟨.ref a, rfl, a, xs, rfl, .inl ha, .ref b, rfl, b, ys, rfl, .inl hb, rfl, _, rfl, ?_⟩
      rw [el]
      refine iteNS rfl ?_
      cases n with
      | zero => cases hg
      | succ m =>
      have hg2 : (decide (ds.length ≤ 16777216) && ds.all (good m)) = true := hg
      have hlen : ys.length ≤ 16777216 := by
        rw [dpall_len hB]
        exact good_len hg2
      refine ⟨.ref b, rfl, b, ys, rfl, .inl hb, _, rfl, by omega, by omega, ?_⟩
      refine for_range (lo := 0) (n := ((ys.length : Nat) : Int).toNat) (fun i σ H' => ∃ c, σ = [some (.ref a), some (.ref b), c] ∧ H' = H) ⟨none, rfl, rfl⟩ ?_ ?_
      · rintro i σ H' hi ⟨c, rfl, rfl⟩
        have hi2 : i < ds.length := by rw [← dpall_len hB]; omega
        obtain ⟨x, gx, dx⟩ := dpall_get hA (List.getElem?_eq_getElem hi2)
        obtain ⟨y, gy, dy⟩ := dpall_get hB (List.getElem?_eq_getElem hi2)
        refine ⟨.ref a, rfl, _, rfl, .inl ⟨a, xs, _, x, rfl, rfl, ha, at_of (by omega) gx, .ref b, rfl, _, rfl, .inl ⟨b, ys, _, y, rfl, rfl, hb, at_of (by omega) gy, ?_⟩⟩⟩
        exact hC x y _ _ _ _ dx dy ⟨m, rfl, good_get hg2 (List.getElem?_eq_getElem hi2)⟩ hn ⟨_, rfl, iteF ⟨_, rfl, rfl⟩⟩
      · rintro σ H' ⟨c, rfl, rfl⟩
        exact q
    | tuple ds =>
      cases hx with
      | @tup a xs _ ha hA =>
      cases hy with
      | @tup b ys _ hb hB =>
      have ta := ty_tup ha
      have tb := ty_tup hb
      refine iteF ?_
      refine ⟨.ref b, rfl, ?_⟩
      refine ⟨_, .ty "bool", _, _, false, rfl, .ty "bool", tb, kit_ty (show kitB "tuple" "bool" = some false by decide +kernel), ?_⟩
      refine ⟨_, rfl, iteF ?_⟩
      refine ⟨.ref b, rfl, ?_⟩
      refine ⟨_, .ty "int", _, _, false, rfl, .ty "int", tb, kit_ty (show kitB "tuple" "int" = some false by decide +kernel), ?_⟩
      refine ⟨_, rfl, iteF ?_⟩
      refine ⟨.ref b, rfl, ?_⟩
      refine ⟨_, .ty "str", _, _, false, rfl, .ty "str", tb, kit_ty (show kitB "tuple" "str" = some false by decide +kernel), ?_⟩
      refine ⟨_, rfl, iteF ?_⟩
      refine ⟨.ref b, rfl, ?_⟩
      refine ⟨_, .ty "tuple", _, _, true, rfl, .ty "tuple", tb, kit_ty (show kitB "tuple" "tuple" = some true by decide +kernel), ?_⟩
      refine ⟨.ref a, rfl, ?_⟩
      refine ⟨_, .ty "tuple", _, _, true, rfl, .ty "tuple", ta, kit_ty (show kitB "tuple" "tuple" = some true by decide +kernel), ?_⟩
      refine ⟨rfl, _, rfl, iteF ?_⟩
      refine ⟨.ref b, rfl, ?_⟩
      refine ⟨_, .ty "list", _, _, false, rfl, .ty "list", tb, kit_ty (show kitB "tuple" "list" = some false by decide +kernel), ?_⟩
      refine ⟨.ref a, rfl, ?_⟩
      refine ⟨_, .ty "list", _, _, false, rfl, .ty "list", ta, kit_ty (show kitB "tuple" "list" = some false by decide +kernel), ?_⟩
      refine ⟨rfl, _, rfl, iteF ?_⟩
      have el : xs.length = ys.length := (dpall_len hA).trans (dpall_len hB).symm
      refine ⟨.ref a, rfl, a, xs, rfl, .inr ha, .ref b, rfl, b, ys, rfl, .inr hb, rfl, _, rfl, ?_⟩
      rw [el]
      refine iteNS rfl ?_
      cases n with
      | zero => cases hg
      | succ m =>
      have hg2 : (decide (ds.length ≤ 16777216) && ds.all (good m)) = true := hg
      have hlen : ys.length ≤ 16777216 := by
        rw [dpall_len hB]
        exact good_len hg2
      refine ⟨.ref b, rfl, b, ys, rfl, .inr hb, _, rfl, by omega, by omega, ?_⟩
      refine for_range (lo := 0) (n := ((ys.length : Nat) : Int).toNat) (fun i σ H' => ∃ c, σ = [some (.ref a), some (.ref b), c] ∧ H' = H) ⟨none, rfl, rfl⟩ ?_ ?_
      · rintro i σ H' hi ⟨c, rfl, rfl⟩
        have hi2 : i < ds.length := by rw [← dpall_len hB]; omega
        obtain ⟨x, gx, dx⟩ := dpall_get hA (List.getElem?_eq_getElem hi2)
        obtain ⟨y, gy, dy⟩ := dpall_get hB (List.getElem?_eq_getElem hi2)
        refine ⟨.ref a, rfl, _, rfl, .inr (.inl ⟨a, xs, _, x, rfl, rfl, ha, at_of (by omega) gx, .ref b, rfl, _, rfl, .inr (.inl ⟨b, ys, _, y, rfl, rfl, hb, at_of (by omega) gy, ?_⟩)⟩)⟩
        exact hC x y _ _ _ _ dx dy ⟨m, rfl, good_get hg2 (List.getElem?_eq_getElem hi2)⟩ hn ⟨_, rfl, iteF ⟨_, rfl, rfl⟩⟩
      · rintro σ H' ⟨c, rfl, rfl⟩
        exact q
theorem ok_alike {f : Addr} {fd : FuncData} (F : Fun K "_law_alike" "_law_alike" sAli f fd) (T : TAli mg) (hm : mg "_law_alike" = some (.ref f)) (hb : Binds K fd ["_law_found", "_law_due"] []) : ∀ n : Nat, FnOk P w K mg base CX0 (n + 1) f fd ["_law_found", "_law_due"] (spAli K n)
  | 0 => ok_alike1 (sp := fun _ _ _ _ => False) F T ⟨⟨f, fd, ⟨fun _ _ _ _ h => h.elim, fun _ _ _ _ _ _ _ _ _ _ _ _ _ h => h.elim⟩, hm, F.kp, hb⟩⟩ fun _ _ _ _ _ _ _ _ h => by
      obtain ⟨m, h, _⟩ := h
      exact absurd h (by omega)
  | n + 1 => ok_alike1 F T ⟨⟨f, fd, ok_alike F T hm hb n, hm, F.kp, hb⟩⟩ fun x y d H Q E hx hy h hn q => by
      obtain ⟨m, h, hg⟩ := h
      obtain rfl : m = n := by omega
      exact ⟨x, y, d, rfl, hx, hy, hg, by omega, q⟩
end
end Vf
namespace Vf
open PySem PySem.Spec PyProof.Rows L2 Evl GxR
/-! ### letters: the mathematics -/
abbrev sSum : Stmt := topS 8
theorem scSum : FnScope ["body", "total", "sign"] ["body"] (defScope sSum) := ⟨rfl, rfl, rfl, by decide +kernel, rfl, by decide +kernel, by decide +kernel⟩
abbrev sLet : Stmt := topS 9
theorem scLet : FnScope ["body"] ["body"] (defScope sLet) := ⟨rfl, rfl, rfl, by decide +kernel, rfl, by decide +kernel, by decide +kernel⟩
abbrev sHas : Stmt := topS 10
theorem scHas : FnScope ["body"] ["body"] (defScope sHas) := ⟨rfl, rfl, rfl, by decide +kernel, rfl, by decide +kernel, by decide +kernel⟩
abbrev sPac : Stmt := topS 11
theorem scPac : FnScope ["fields", "field"] ["fields"] (defScope sPac) := ⟨rfl, rfl, rfl, by decide +kernel, rfl, by decide +kernel, by decide +kernel⟩
abbrev sUnp : Stmt := topS 12
theorem scUnp : FnScope ["text", "body"] ["text"] (defScope sUnp) := ⟨rfl, rfl, rfl, by decide +kernel, rfl, by decide +kernel, by decide +kernel⟩
def SGN : Str := litOf (topS 5)
def isS (c : Nat) : Bool := decide (c ∈ SGN.cps.toList)
theorem sgn_facts : isS 46 = false ∧ isS 33 = false ∧ isS 124 = true ∧ SGN.cps.toList.all (fun c => decide (c < 128)) = true := by decide +kernel
theorem isS_low {c : Nat} (h : isS c = true) : c < 128 := of_decide_eq_true (List.all_eq_true.mp sgn_facts.2.2.2 c (of_decide_eq_true h))
def sumN (l : List Nat) : Nat := l.foldl (fun t c => (t * 61 + ixS SGN c + 1) % 9973) 0
theorem sumN_lt : ∀ l : List Nat, sumN l < 9973 := by
  have h : ∀ (l : List Nat) (a : Nat), a < 9973 → l.foldl (fun t c => (t * 61 + ixS SGN c + 1) % 9973) a < 9973 := fun l => by
    induction l with
    | nil => exact fun a h => h
    | cons c r ih => exact fun a _ => ih _ (Nat.mod_lt _ (by decide))
  exact fun l => h l 0 (by decide)
theorem sumN_snoc (l : List Nat) (c : Nat) : sumN (l ++ [c]) = (sumN l * 61 + ixS SGN c + 1) % 9973 := by
  unfold sumN
  rw [List.foldl_append]
  rfl
def lett (l : List Nat) : List Nat := TL.numL l.length ++ (46 :: (TL.numL (sumN l) ++ (46 :: (l ++ [33]))))
theorem num_len {n : Nat} (h : n < 10000000) : (TL.numL n).length ≤ 7 := TL.numL_len (by decide) h
theorem behind_lett {l : List Nat} (h : ∀ c ∈ l, isS c = true) : (behind 46 (lett l)).dropLast = l := by
  have e : lett l = (TL.numL l.length ++ (46 :: TL.numL (sumN l))) ++ 46 :: (l ++ [33]) := by
    unfold lett
    simp
  rw [e, behind_app]
  · simp
  · intro hm
    rcases List.mem_append.mp hm with hm | hm
    · have := h 46 hm
      rw [sgn_facts.1] at this
      cases this
    · have := List.mem_singleton.mp hm
      omega
def bodyOf (fs : List Str) : List Nat := (Txt.join (sg 124) fs).cps.toList
theorem txt_body (fs : List Str) : Txt.join (sg 124) fs = txt (bodyOf fs) := (txt_of _).symm
theorem body_isS {fs : List Str} (h : ∀ z ∈ fs, ∀ c ∈ z.cps.toList, isS c = true) : ∀ c ∈ bodyOf fs, isS c = true := by
  intro c hc
  have e : bodyOf fs = TL.joinL [124] (fs.map TL.tl) := by
    show TL.tl (Txt.join (sg 124) fs) = _
    rw [TL.join_eq, TL.tl_join]
    rfl
  rw [e] at hc
  rcases mem_joinL hc with h2 | ⟨p, hp, h2⟩
  · rw [List.mem_singleton.mp h2]
    exact sgn_facts.2.2.1
  · obtain ⟨z, hz, rfl⟩ := List.mem_map.mp hp
    exact h z hz c h2
theorem sum_le {m : Nat} : ∀ fs : List Str, (∀ z ∈ fs, z.length ≤ m) → (fs.map (fun z => z.length)).sum ≤ fs.length * m
  | [], _ => by simp
  | z :: r, h => by
    rw [List.map_cons, List.sum_cons, List.length_cons, Nat.add_mul, Nat.one_mul]
    have h1 := h z List.mem_cons_self
    have h2 := sum_le r fun y hy => h y (List.mem_cons_of_mem _ hy)
    omega
theorem body_len {fs : List Str} {m : Nat} (h : ∀ z ∈ fs, z.length ≤ m) : (bodyOf fs).length ≤ fs.length * m + fs.length := by
  show (TL.tl (Txt.join (sg 124) fs)).length ≤ _
  rw [← TL.len_tl, TL.join_eq]
  cases fs with
  | nil => simp [Str.join, Str.empty, Str.length]
  | cons a r =>
    rw [PyProof.Rows.len_join_cons]
    have h1 := sum_le (a :: r) h
    have e : r.length * (sg 124).length = r.length := by
      show r.length * 1 = _
      omega
    rw [e]
    rw [List.length_cons] at h1 ⊢
    omega
theorem body_len2 (fs : List Str) : (bodyOf fs).length ≤ (fs.map (fun z => z.length)).sum + fs.length := by
  show (TL.tl (Txt.join (sg 124) fs)).length ≤ _
  rw [← TL.len_tl, TL.join_eq]
  cases fs with
  | nil => simp [Str.join, Str.empty, Str.length]
  | cons a r =>
    rw [PyProof.Rows.len_join_cons]
    have e : r.length * (sg 124).length = r.length := by
      show r.length * 1 = _
      omega
    rw [e, List.length_cons]
    omega
theorem split_body {fs : List Str} (hne : fs ≠ []) (h : ∀ z ∈ fs, 124 ∉ z.cps.toList) : Txt.split (txt (bodyOf fs)) (sg 124) = fs := by
  rw [← txt_body]
  exact TL.split_join (s := 124) (S := []) rfl (by decide +kernel) hne h
def unpL (l : List Nat) : Option (List Str) := if (((behind 46 l).dropLast).all isS && decide (lett (behind 46 l).dropLast = l)) = true then some (Txt.split (txt (behind 46 l).dropLast) (sg 124)) else none
theorem unp_lett {fs : List Str} (hne : fs ≠ []) (h : ∀ z ∈ fs, 124 ∉ z.cps.toList) (hs : ∀ z ∈ fs, ∀ c ∈ z.cps.toList, isS c = true) : unpL (lett (bodyOf fs)) = some fs := by
  unfold unpL
  rw [behind_lett (body_isS hs), if_pos, split_body hne h]
  rw [decide_eq_true rfl, Bool.and_true, List.all_eq_true]
  exact body_isS hs
theorem nstr (n : Nat) : ((toString ((n : Nat) : Int) : String) : Str) = txt (TL.numL n) := num_txt n
theorem nstr_len {n : Nat} (h : n < 10000000) : ((toString ((n : Nat) : Int) : String) : Str).length ≤ 7 := by
  rw [nstr, txt_len]
  exact num_len h
/-! ### the program's own letters -/
structure TLet (mg : Str → Option Value) : Prop where
  z_len : mg "len" = none
  z_all : mg "all" = none
  mg_SIGNS : ∃ t, mg "SIGNS" = some (.str SGN t)
  mg_BETWEEN : ∃ t, mg "BETWEEN" = some (.str "|" t)
  mg_SUM_TIMES : ∃ t, mg "SUM_TIMES" = some (.int 61 t)
  mg_SUM_REST : ∃ t, mg "SUM_REST" = some (.int 9973 t)
def spSum : Sp := fun vs H Q _ => ∃ z : Str, vs = [.str z] ∧ (∀ c ∈ z.cps.toList, isS c = true) ∧ Q (.int (sumN z.cps.toList : Nat)) H
def spLet : Sp := fun vs H Q _ => ∃ z : Str, vs = [.str z] ∧ (∀ c ∈ z.cps.toList, isS c = true) ∧ z.length ≤ 1000000 ∧ Q (.str (txt (lett z.cps.toList))) H
def spHas (T : Addr) : Sp := fun vs H Q _ => ∃ z : Str, vs = [.str z] ∧ H T = some (TabO T) ∧ Q (.bl (z.cps.toList.all isS)) H
def Fields (fs : List Str) : Prop := fs ≠ [] ∧ fs.length ≤ 500 ∧ ∀ z ∈ fs, z.length ≤ 1000 ∧ 124 ∉ z.cps.toList ∧ ∀ c ∈ z.cps.toList, isS c = true
def FieldsL (fs : List Str) : Prop := (fs.map (fun z => z.length)).sum + fs.length ≤ 1000000 ∧ ∀ z ∈ fs, ∀ c ∈ z.cps.toList, isS c = true
theorem Fields.toL {fs : List Str} (h : Fields fs) : FieldsL fs := by
  obtain ⟨_, h2, h3⟩ := h
  have := sum_le (m := 1000) fs fun z hz => (h3 z hz).1
  exact ⟨by omega, fun z hz => (h3 z hz).2.2⟩
def spPac (T : Addr) (K : PySem.W.Frag) : Sp := fun vs H Q _ => ∃ (a : Addr) (fs : List Str), vs = [.ref a] ∧ SqL K H a (fs.map V.str) ∧ Fields fs ∧ H T = some (TabO T) ∧ Q (.str (txt (lett (bodyOf fs)))) H
def spUnp (T : Addr) : Sp := fun vs H Q _ => ∃ z : Str, vs = [.str z] ∧ z.length ≤ 1000000 ∧ H T = some (TabO T) ∧ (unpL z.cps.toList = none → ∀ H', Ex H H' → Q .non H') ∧
  ∀ fs, unpL z.cps.toList = some fs → ∀ p H', Ex H H' → H p = none → H' p = some (.lst (fs.map V.str)) → Q (.ref p) H'
section
variable {P : Program} {w : World} {K : PySem.W.Frag} {mg : Str → Option Value} {base : Heap}
theorem ok_sum {f : Addr} {fd : FuncData} (F : Fun K "sum_of" "sum_of" sSum f fd) (T : TLet mg) : FnOk P w K mg base CX0 1 f fd ["body"] spSum := by
  refine F.ok scSum (fun vs H Q E h => ?_) (fun cdv A outer s H vs Q E hr h => ?_)
  · obtain ⟨z, rfl, _⟩ := h
    rfl
  · obtain ⟨z, rfl, hs, q⟩ := h
    refine ⟨_, (pss_cons (ps_set (i := 1) scSum.nd rfl (Or.inl rfl) pe_int)
      (pss_cons (ps_for PassesOwn.never rfl (pi_str (pv 0)) (pg_name (i := 2) scSum.nd rfl (Or.inl rfl)) (pss_one (ps_set (i := 1) scSum.nd rfl (Or.inl rfl) (pe_op op_mod (pe_op op_add (pe_op op_add (pe_op op_mul (pv 1) (pgI T.mg_SUM_TIMES)) (pe_m1 PySem.F.slot_str_index PySem.F.type_str_index mt_sindex (pgS T.mg_SIGNS) (pv 2))) pe_int) (pgI T.mg_SUM_REST)))))
      (pss_one (ps_ret (pv 1))))), ?_⟩
    refine ⟨_, rfl, z, rfl, for_it walk_str (fun i σ H' => ∃ c, σ = [some (.str z), some (.int (sumN (z.cps.toList.take i) : Nat)), c] ∧ H' = H) ⟨_, rfl, rfl⟩ (fun _ _ _ _ _ => trivial) ?_ ?_⟩
    · rintro i x σ H1 H2 hi ⟨c, rfl, rfl⟩ ⟨rfl, cc, hcc, rfl⟩
      have hc : z.cps.toList[i]? = some cc := by rw [Array.getElem?_toList]; exact hcc
      obtain ⟨r, hr⟩ := ix_cons (z := SGN) (of_decide_eq_true (hs cc (List.mem_of_getElem? hc)))
      have hlt := sumN_lt (z.cps.toList.take i)
      refine ⟨_, rfl, _, _, rfl, rfl, .inl ⟨by omega, by omega⟩, ⟨_, rfl⟩, _, rfl, SGN, sg cc, _, r, rfl, rfl, hr, _, _, rfl, rfl, _, _, rfl, rfl, _, _, rfl, rfl, (by show (0 : Int) < 9973; decide), some (.str (sg cc)), ?_, rfl⟩
      rw [List.take_add_one, hc]
      show _ = [some (V.str z), some (V.int (sumN (z.cps.toList.take i ++ [cc]) : Nat)), some (V.str (sg cc))]
      rw [sumN_snoc]
      have e : (((sumN (z.cps.toList.take i) : Nat) : Int) * 61 + (ixS SGN cc : Nat) + 1) % 9973 = (((sumN (z.cps.toList.take i) * 61 + ixS SGN cc + 1) % 9973 : Nat) : Int) := by omega
      rw [← e]
      rfl
    · rintro σ H1 ⟨c, rfl, rfl⟩
      have e : z.cps.toList.take z.cps.size = z.cps.toList := List.take_of_length_le (by simp)
      rw [e]
      exact ⟨_, rfl, q⟩
structure CLet1 (P : Program) (w : World) (K : PySem.W.Frag) (mg : Str → Option Value) (base : Heap) : Prop where
  sum_of : Cal P w K mg base "sum_of" 1 ["body"] spSum
theorem ok_let {f : Addr} {fd : FuncData} (F : Fun K "letter_of" "letter_of" sLet f fd) (T : TLet mg) (C : CLet1 P w K mg base) : FnOk P w K mg base CX0 2 f fd ["body"] spLet := by
  refine F.ok scLet (fun vs H Q E h => ?_) (fun cdv A outer s H vs Q E hr h => ?_)
  · obtain ⟨z, rfl, _⟩ := h
    rfl
  · obtain ⟨z, rfl, hs, hz, q⟩ := h
    refine ⟨_, (pss_one (ps_ret (pe_joined (PJ.cons (pe_fmt (pe_callB call_len_str (by rfl) T.z_len PySem.boot_len (pa_cons (pv 0) pa_nil))) (PJ.cons pe_str (PJ.cons (pe_fmt (pcall C.sum_of (hr.mono (by first | decide | omega)) (pa_cons (pv 0) pa_nil))) (PJ.cons pe_str (PJ.cons (pe_fmt (pv 0)) (PJ.cons pe_str PJ.nil))))))))), ?_⟩
    have n1 := nstr_len (n := z.length) (by omega)
    have n2 := nstr_len (n := sumN z.cps.toList) (Nat.lt_trans (sumN_lt _) (by decide))
    have big : ∀ x : Str, x.length ≤ 2000000 → x.length ≤ sizeLine := fun x h => Nat.le_trans h (by decide)
    have fin : ∀ x : Str, x = txt (lett z.cps.toList) → Q (.str x) H := fun x e => by rw [e]; exact q
    have d1 : (Str.ofString ".").length = 1 := rfl
    have d2 : (Str.ofString "!").length = 1 := rfl
    have d0 : Str.empty.length = 0 := rfl
    refine ⟨_, rfl, z, rfl, big z (by omega), .inr ⟨_, rfl, log_small (n := z.length) (by omega), _, rfl, big _ (by rw [Str.length_append]; omega), _, rfl, big _ (by rw [Str.length_append, Str.length_append]; omega), ?_⟩⟩
    refine ⟨_, rfl, z, rfl, hs, .inr ⟨_, rfl, log_small (n := sumN z.cps.toList) (Nat.lt_trans (sumN_lt _) (by decide)), _, rfl, big _ (by simp only [Str.length_append]; omega), _, rfl, big _ (by simp only [Str.length_append]; omega), ?_⟩⟩
    refine ⟨_, rfl, .inl ⟨z, rfl, big z (by omega), _, rfl, big _ (by simp only [Str.length_append]; omega), _, rfl, big _ (by simp only [Str.length_append]; omega), fin _ ?_⟩⟩
    refine TL.ext_tl ?_
    simp only [TL.tl_append]
    rw [TL.tl_num, TL.tl_num]
    show [] ++ TL.numL z.length ++ [46] ++ TL.numL (sumN z.cps.toList) ++ [46] ++ z.cps.toList ++ [33] = (txt (lett z.cps.toList)).cps.toList
    rw [txt_cps]
    unfold lett
    rw [str_len]
    simp
theorem ok_has0 {f c T0 : Addr} {oc : Value} {od an : Option Addr} {osl : Array (Option Value)} {kV doc pm ct : Value} (lk : K.lookup f = some ⟨oc, od, .func (PySem.W.fnOf "has_only_signs" "has_only_signs" (defArgs sHas) (defBody sHas) (defScope sHas) .none kV doc pm an (.ref c) ct), osl⟩)
    (hcd : PySem.W.codeIn K (.ref c) "has_only_signs" = true) (tab : TabB base mg c T0) (T : TLet mg) :
    FnOk P w K mg base CX0 1 f (PySem.W.fnOf "has_only_signs" "has_only_signs" (defArgs sHas) (defBody sHas) (defScope sHas) .none kV doc pm an (.ref c) ct) ["body"]
      (fun vs H Q _ => ∃ z : Str, vs = [.str z] ∧ TabG H T0 ∧ ∀ H', Tabbed T0 H H' → Q (.bl (z.cps.toList.all isS)) H') := by
  refine fn_of lk hcd scHas (fun vs H Q E h => ?_) fun A outer s H vs Q E hr h => ?_
  · obtain ⟨z, rfl, _⟩ := h
    rfl
  · obtain ⟨z, rfl, ht, q⟩ := h
    refine ⟨_, PSs.nox (pss_one (ps_ret (pe_allT hr rfl T.z_all tab rfl (genS_of rfl rfl (by decide +kernel) rfl rfl (by decide +kernel)) (pv 0) (elt_in rfl rfl rfl T.mg_SIGNS) (fun _ => rfl)))), ?_⟩
    exact ⟨_, rfl, z, rfl, ht, q⟩
end
end Vf
namespace Vf
open PySem PySem.Spec PyProof.Rows L2 Evl GxR
section
variable {P : Program} {w : World} {K : PySem.W.Frag} {mg : Str → Option Value} {base : Heap}
theorem ok_has {f c T0 : Addr} {oc : Value} {od an : Option Addr} {osl : Array (Option Value)} {kV doc pm ct : Value} (lk : K.lookup f = some ⟨oc, od, .func (PySem.W.fnOf "has_only_signs" "has_only_signs" (defArgs sHas) (defBody sHas) (defScope sHas) .none kV doc pm an (.ref c) ct), osl⟩)
    (hcd : PySem.W.codeIn K (.ref c) "has_only_signs" = true) (tab : TabB base mg c T0) (T : TLet mg) :
    FnOk P w K mg base CX0 1 f (PySem.W.fnOf "has_only_signs" "has_only_signs" (defArgs sHas) (defBody sHas) (defScope sHas) .none kV doc pm an (.ref c) ct) ["body"] (spHas T0) := by
  refine tab_fn (T := T0) (ok_has0 lk hcd tab T) (fun vs H Q E h => ?_) fun vs H Q E h => ?_
  · obtain ⟨z, rfl, _⟩ := h
    rfl
  · obtain ⟨z, rfl, hT, q⟩ := h
    exact ⟨hT, fun qs tr => ⟨z, rfl, ⟨qs, upd_same, tr⟩, fun H' ht => ⟨ht, q⟩⟩⟩
structure CLet2 (P : Program) (w : World) (K : PySem.W.Frag) (mg : Str → Option Value) (base : Heap) (T0 : Addr) : Prop where
  letter_of : Cal P w K mg base "letter_of" 2 ["body"] spLet
  has_only_signs : Cal P w K mg base "has_only_signs" 1 ["body"] (spHas T0)
theorem fields_sum {fs : List Str} (h : Fields fs) : (fs.map (fun z => z.length)).sum + fs.length * 1 ≤ 16777216 := by
  obtain ⟨_, h2, h3⟩ := h
  have := sum_le (m := 1000) fs fun z hz => (h3 z hz).1
  omega
theorem fields_body {fs : List Str} (h : Fields fs) : (bodyOf fs).length ≤ 500500 := by
  obtain ⟨_, h2, h3⟩ := h
  have := body_len (m := 1000) fun z hz => (h3 z hz).1
  omega
theorem ok_pac {f T0 : Addr} {fd : FuncData} (F : Fun K "packed" "packed" sPac f fd) (T : TLet mg) (C : CLet2 P w K mg base T0) : FnOk P w K mg base CX0 3 f fd ["fields"] (spPac T0 K) := by
  refine F.ok scPac (fun vs H Q E h => ?_) (fun cdv A outer s H vs Q E hr h => ?_)
  · obtain ⟨a, fs, rfl, _⟩ := h
    rfl
  · obtain ⟨a, fs, rfl, hS, hF, hT, q⟩ := h
    obtain ⟨hne, hl, hz⟩ := id hF
    refine ⟨_, (pss_cons (ps_if (pt_cmpR op_eq (pe_callB call_len_seq (by rfl) T.z_len PySem.boot_len (pa_cons (pv 0) pa_nil)) pe_int (nomark _)) pss_never pss_nil)
      (pss_cons (ps_for PassesOwn.never rfl (pi_list (pv 0)) (pg_name (i := 1) scPac.nd rfl (Or.inl rfl)) (pss_one (ps_if (PW.pt (pw_or (pt_cmpR op_in_sign (pgS T.mg_BETWEEN) (pv 1) rfl) (pw_or1 (pt_not (pt_val (pcall C.has_only_signs (hr.mono (by first | decide | omega)) (pa_cons (pv 1) pa_nil))))))) pss_never pss_nil)))
      (pss_one (ps_ret (pcall C.letter_of (hr.mono (by first | decide | omega)) (pa_cons (pe_join (pgS T.mg_BETWEEN) (pv 0)) pa_nil)))))), ?_⟩
    refine ⟨_, rfl, a, _, rfl, .inl hS, rfl, _, rfl, ?_⟩
    have h0 : decide (V.int ((fs.map V.str).length : Nat) = V.int 0) = false := decide_eq_false fun e => by
      have e2 := V.int.inj e
      rw [List.length_map] at e2
      exact hne (List.length_eq_zero_iff.mp (by omega))
    rw [h0]
    refine iteF ?_
    refine ⟨_, rfl, a, rfl, ⟨_, hS⟩, for_list (K := K) (a := a) (xs := fs.map V.str) (fun i σ H' => ∃ c, σ = [some (.ref a), c] ∧ H' = H) ⟨_, rfl, rfl⟩ (fun i σ H' _ ⟨_, _, e⟩ => by rw [e]; exact hS) ?_ ?_⟩
    · rintro i y σ H1 hi ⟨c, rfl, rfl⟩
      obtain ⟨z, hm, rfl⟩ := List.mem_map.mp (List.mem_of_getElem? hi)
      obtain ⟨z1, z2, z3⟩ := hz z hm
      refine ⟨_, rfl, 124, z, rfl, rfl, _, rfl, ?_⟩
      rw [decide_eq_false z2]
      refine iteF ⟨_, rfl, z, rfl, hT, _, rfl, ?_⟩
      rw [List.all_eq_true.mpr z3]
      exact iteF ⟨_, rfl, rfl⟩
    · rintro σ H1 ⟨c, rfl, rfl⟩
      refine ⟨⟨_, rfl⟩, _, rfl, sg 124, a, fs, rfl, rfl, .inl hS, fields_sum hF, Txt.join (sg 124) fs, rfl, body_isS fun z hm => (hz z hm).2.2, ?_, q⟩
      have := fields_body hF
      rw [txt_body, txt_len]
      omega
theorem ok_unp {f T0 : Addr} {fd : FuncData} (F : Fun K "unpacked" "unpacked" sUnp f fd) (T : TLet mg) (C : CLet2 P w K mg base T0) : FnOk P w K mg base CX0 3 f fd ["text"] (spUnp T0) := by
  refine F.ok scUnp (fun vs H Q E h => ?_) (fun cdv A outer s H vs Q E hr h => ?_)
  · obtain ⟨z, rfl, _⟩ := h
    rfl
  · obtain ⟨z, rfl, hz, hT, qn, qs⟩ := h
    refine ⟨_, (pss_cons (ps_set (i := 1) scUnp.nd rfl (Or.inl rfl) (pe_slice sl_str (pe_ix ix_tup (pe_m1 PySem.F.slot_str_rpartition PySem.F.type_str_rpartition mt_rpart (pv 0) pe_str) pe_int (fun _ _ => rfl)) po_none (po_some (pe_un un_neg pe_int))))
      (pss_cons (ps_if (PW.pt (pw_or (pt_not (pt_val (pcall C.has_only_signs (hr.mono (by first | decide | omega)) (pa_cons (pv 1) pa_nil)))) (pw_or1 (pt_cmpR op_ne (pcall C.letter_of (hr.mono (by first | decide | omega)) (pa_cons (pv 1) pa_nil)) (pv 0) (nomark _))))) (pss_one (ps_ret pe_non)) pss_nil)
      (pss_one (ps_ret (pe_split (pv 1) (pgS T.mg_BETWEEN)))))), ?_⟩
    have big : ∀ n : Nat, n ≤ 1000002 → n ≤ sizeLine := fun n h => Nat.le_trans h (by decide)
    refine ⟨_, rfl, ⟨_, rfl⟩, z, sg 46, rfl, rfl, rfl, big _ (by omega), fun p np => ?_⟩
    have e1 : Ex H (upd H p (.tup [.str (Txt.rpartition z (sg 46)).1, .str (Txt.rpartition z (sg 46)).2.1, .str (Txt.rpartition z (sg 46)).2.2])) := Ex.new np
    have hp : upd H p (.tup [.str (Txt.rpartition z (sg 46)).1, .str (Txt.rpartition z (sg 46)).2.1, .str (Txt.rpartition z (sg 46)).2.2]) p = some (.tup [.str (Txt.rpartition z (sg 46)).1, .str (Txt.rpartition z (sg 46)).2.1, .str (Txt.rpartition z (sg 46)).2.2]) := upd_same
    generalize upd H p (.tup [.str (Txt.rpartition z (sg 46)).1, .str (Txt.rpartition z (sg 46)).2.1, .str (Txt.rpartition z (sg 46)).2.2]) = H1 at e1 hp ⊢
    have hlen : (txt (behind 46 z.cps.toList)).length ≤ z.length := by
      rw [txt_len, ← str_len]
      unfold behind
      rw [List.length_reverse]
      exact Nat.le_trans (List.takeWhile_sublist _).length_le (by rw [List.length_reverse]; exact Nat.le_refl _)
    refine ⟨p, _, 2, .str (txt (behind 46 z.cps.toList)), rfl, rfl, SqT.of hp, ?_, _, rfl, _, rfl, _, rfl, big _ (by omega), ?_⟩
    · rw [← rpart_behind]
      exact atI_nat (j := 2) rfl
    · rw [cutS_butlast, txt_cps]
      have hbl : ((behind 46 z.cps.toList).dropLast).length ≤ z.length := by
        rw [txt_len] at hlen
        rw [List.length_dropLast]
        omega
      have hun : unpL z.cps.toList = if (((behind 46 z.cps.toList).dropLast).all isS && decide (lett (behind 46 z.cps.toList).dropLast = z.cps.toList)) = true then some (Txt.split (txt (behind 46 z.cps.toList).dropLast) (sg 124)) else none := rfl
      generalize (behind 46 z.cps.toList).dropLast = b at hbl hun ⊢
      refine ⟨_, rfl, txt b, rfl, e1 _ _ hT, _, rfl, ?_⟩
      rw [txt_cps]
      by_cases hall : b.all isS = true
      · rw [hall]
        refine iteF ⟨_, rfl, txt b, rfl, by rw [txt_cps]; exact List.all_eq_true.mp hall, by rw [txt_len]; omega, ?_⟩
        rw [txt_cps]
        refine ⟨_, rfl, rfl, _, rfl, ?_⟩
        rw [hall, Bool.true_and] at hun
        by_cases he : lett b = z.cps.toList
        · rw [decide_eq_true he, if_pos rfl] at hun
          have e9 : decide (V.str (txt (lett b)) = V.str z) = true := decide_eq_true (by rw [he, txt_of])
          rw [e9]
          refine iteF ⟨_, rfl, ⟨_, rfl⟩, txt b, sg 124, rfl, rfl, rfl, big _ (by rw [txt_len]; omega), fun p2 n2 => ?_⟩
          exact qs _ hun p2 _ (e1.trans (Ex.new n2)) (fresh_back e1 n2) upd_same
        · rw [decide_eq_false he] at hun
          have e9 : decide (V.str (txt (lett b)) = V.str z) = false := decide_eq_false fun e => he (by rw [← V.str.inj e, txt_cps])
          rw [e9]
          exact iteT (qn hun _ e1)
      · have hf : b.all isS = false := by
          cases q : b.all isS with
          | true => exact absurd q hall
          | false => rfl
        rw [hf, Bool.false_and] at hun
        rw [hf]
        exact iteT (iteT (qn hun _ e1))
end
end Vf
namespace Vf
open PySem PySem.Spec PyProof.Rows L2 Evl GxR
/-! ### the law's own letters -/
abbrev sLpk : Stmt := topS 17
theorem scLpk : FnScope ["_law_fields", "_law_every", "_law_body", "_law_found", "_law_sign"] ["_law_fields"] (defScope sLpk) := ⟨rfl, rfl, rfl, by decide +kernel, rfl, by decide +kernel, by decide +kernel⟩
structure TLpk (mg : Str → Option Value) : Prop where
  z_len : mg "len" = none
  z_str : mg "str" = none
def spLpk (K : PySem.W.Frag) : Sp := fun vs H Q _ => ∃ (a : Addr) (fs : List Str), vs = [.ref a] ∧ SqL K H a (fs.map V.str) ∧ FieldsL fs ∧ Q (.str (txt (lett (bodyOf fs)))) H
section
variable {P : Program} {w : World} {K : PySem.W.Frag} {mg : Str → Option Value} {base : Heap}
theorem ok_lpk {f : Addr} {fd : FuncData} (F : Fun K "_law_packed" "_law_packed" sLpk f fd) (T : TLpk mg) : FnOk P w K mg base CX0 1 f fd ["_law_fields"] (spLpk K) := by
  refine F.ok scLpk (fun vs H Q E h => ?_) (fun cdv A outer s H vs Q E hr h => ?_)
  · obtain ⟨a, fs, rfl, _⟩ := h
    rfl
  · obtain ⟨a, fs, rfl, hS, hF, q⟩ := h
    obtain ⟨hl, hz⟩ := id hF
    refine ⟨_, (pss_cons (ps_set (i := 1) scLpk.nd rfl (Or.inl rfl) pe_str)
      (pss_cons (ps_set (i := 2) scLpk.nd rfl (Or.inl rfl) (pe_join pe_str (pv 0)))
      (pss_cons (ps_set (i := 3) scLpk.nd rfl (Or.inl rfl) pe_int)
      (pss_cons (ps_for PassesOwn.never rfl (pi_str (pv 2)) (pg_name (i := 4) scLpk.nd rfl (Or.inl rfl)) (pss_one (ps_set (i := 3) scLpk.nd rfl (Or.inl rfl) (pe_op op_mod (pe_op op_add (pe_op op_add (pe_op op_mul (pv 3) pe_int) (pe_m1 PySem.F.slot_str_index PySem.F.type_str_index mt_sindex (pv 1) (pv 4))) pe_int) pe_int))))
      (pss_one (ps_ret (pe_op op_add_str (pe_op op_add_str (pe_op op_add_str (pe_op op_add_str (pe_op op_add_str (pe_callTy call_str_int (by rfl) T.z_str boot_str (pa_cons (pe_callB call_len_str (by rfl) T.z_len PySem.boot_len (pa_cons (pv 2) pa_nil)) pa_nil)) pe_str) (pe_callTy call_str_int (by rfl) T.z_str boot_str (pa_cons (pv 3) pa_nil))) pe_str) (pv 2)) pe_str))))))), ?_⟩
    refine ⟨⟨_, rfl⟩, _, rfl, sg 124, a, fs, rfl, rfl, .inl hS, (by show _ + fs.length * 1 ≤ _; omega), ?_⟩
    have hs := body_isS hz
    have hb : (bodyOf fs).length ≤ 1000000 := Nat.le_trans (body_len2 fs) hl
    rw [txt_body]
    generalize bodyOf fs = b at hs hb q ⊢
    refine ⟨_, rfl, txt b, rfl, for_it walk_str (fun i σ H' => ∃ c, σ = [some (.ref a), some (.str SGN), some (.str (txt b)), some (.int (sumN (b.take i) : Nat)), c] ∧ H' = H) ⟨_, rfl, rfl⟩ (fun _ _ _ _ _ => trivial) ?_ ?_⟩
    · rintro i x σ H1 H2 hi ⟨c, rfl, rfl⟩ ⟨rfl, cc, hcc, rfl⟩
      have hc : b[i]? = some cc := by
        have e : (txt b).cps.toList[i]? = some cc := by rw [Array.getElem?_toList]; exact hcc
        rw [txt_cps] at e
        exact e
      obtain ⟨r, hr⟩ := ix_cons (z := SGN) (of_decide_eq_true (hs cc (List.mem_of_getElem? hc)))
      have hlt := sumN_lt (b.take i)
      refine ⟨_, rfl, _, _, rfl, rfl, .inl ⟨by omega, by omega⟩, _, rfl, ⟨_, rfl⟩, _, rfl, SGN, sg cc, _, r, rfl, rfl, hr, _, _, rfl, rfl, _, _, rfl, rfl, _, _, rfl, rfl, (by show (0 : Int) < 9973; decide), some (.str (sg cc)), ?_, rfl⟩
      rw [List.take_add_one, hc]
      show _ = [some (V.ref a), some (V.str SGN), some (V.str (txt b)), some (V.int (sumN (b.take i ++ [cc]) : Nat)), some (V.str (sg cc))]
      rw [sumN_snoc]
      have e : (((sumN (b.take i) : Nat) : Int) * 61 + (ixS SGN cc : Nat) + 1) % 9973 = (((sumN (b.take i) * 61 + ixS SGN cc + 1) % 9973 : Nat) : Int) := by omega
      rw [← e]
      rfl
    · rintro σ H1 ⟨c, rfl, rfl⟩
      have e : b.take (txt b).cps.size = b := List.take_of_length_le (by show b.length ≤ b.toArray.size; simp)
      rw [e]
      have n1 := nstr_len (n := (txt b).length) (by rw [txt_len]; omega)
      have n2 := nstr_len (n := sumN b) (Nat.lt_trans (sumN_lt _) (by decide))
      have n3 : (txt b).length ≤ 1000000 := by rw [txt_len]; omega
      have big : ∀ n : Nat, n ≤ 2000000 → n ≤ sizeLine := fun n h => Nat.le_trans h (by decide)
      have d1 : (Str.ofString ".").length = 1 := rfl
      have d2 : (Str.ofString "!").length = 1 := rfl
      have fin : ∀ x : Str, x = txt (lett b) → Q (.str x) H1 := fun x e => by rw [e]; exact q
      refine ⟨_, rfl, txt b, rfl, big _ (by omega), _, rfl, log_small (n := (txt b).length) (by omega), _, _, rfl, rfl, big _ (by omega), _, rfl, _, rfl, log_small (n := sumN b) (Nat.lt_trans (sumN_lt _) (by decide)), _, _, rfl, rfl, big _ (by simp only [Str.length_append]; omega), _, _, rfl, rfl, big _ (by simp only [Str.length_append]; omega), _, rfl, _, _, rfl, rfl, big _ (by simp only [Str.length_append]; omega), _, _, rfl, rfl, big _ (by simp only [Str.length_append]; omega), fin _ ?_⟩
      refine TL.ext_tl ?_
      simp only [TL.tl_append]
      rw [TL.tl_num, TL.tl_num]
      show TL.numL (txt b).length ++ [46] ++ TL.numL (sumN b) ++ [46] ++ (txt b).cps.toList ++ [33] = (txt (lett b)).cps.toList
      rw [txt_cps, txt_cps, txt_len]
      unfold lett
      simp
end
end Vf
namespace Vf
open PySem PySem.Spec PyProof.Rows L2 Evl GxR
/-! ### the law's own reader -/
abbrev sLun : Stmt := topS 18
theorem scLun : FnScope ["_law_text", "_law_every", "_law_body", "_law_fields", "_law_sign"] ["_law_text"] (defScope sLun) := ⟨rfl, rfl, rfl, by decide +kernel, rfl, by decide +kernel, by decide +kernel⟩
theorem free46 {n : Nat} : 46 ∉ TL.numL n := TL.numL_free (.inl (by decide))
theorem free33 {n : Nat} : 33 ∉ TL.numL n := TL.numL_free (.inl (by decide))
theorem isS_free {l : List Nat} {c : Nat} (h : ∀ x ∈ l, isS x = true) (hc : isS c = false) : c ∉ l := fun hm => by
  have := h c hm
  rw [hc] at this
  cases this
theorem lett_count {l : List Nat} (h : ∀ x ∈ l, isS x = true) : (lett l).count 46 = 2 := by
  unfold lett
  rw [List.count_append, List.count_cons_self, List.count_append, List.count_cons_self, List.count_append, List.count_eq_zero.mpr free46, List.count_eq_zero.mpr free46, List.count_eq_zero.mpr (isS_free h sgn_facts.1)]
  rfl
theorem lett_end (l : List Nat) : ∃ x, lett l = x ++ [33] := ⟨TL.numL l.length ++ (46 :: (TL.numL (sumN l) ++ (46 :: l))), by unfold lett; simp⟩
theorem unp_some {l : List Nat} {fs : List Str} (h : unpL l = some fs) : ∃ b, (∀ x ∈ b, isS x = true) ∧ lett b = l ∧ fs = Txt.split (txt b) (sg 124) := by
  unfold unpL at h
  by_cases c : (((behind 46 l).dropLast).all isS && decide (lett (behind 46 l).dropLast = l)) = true
  · rw [if_pos c] at h
    rw [Bool.and_eq_true] at c
    exact ⟨_, List.all_eq_true.mp c.1, of_decide_eq_true c.2, (Option.some.inj h).symm⟩
  · rw [if_neg c] at h
    cases h
theorem unp_none {l : List Nat} (h : l.count 46 ≠ 2 ∨ ∀ x, l ≠ x ++ [33]) : unpL l = none := by
  cases e : unpL l with
  | none => rfl
  | some fs =>
    obtain ⟨b, hb, rfl, _⟩ := unp_some e
    rcases h with h | h
    · exact absurd (lett_count hb) h
    · obtain ⟨x, hx⟩ := lett_end b
      exact absurd hx (h x)
/-- no beginning of a letter is a letter -/
theorem unp_take {b : List Nat} (hb : ∀ x ∈ b, isS x = true) {n : Nat} (hn : n < (lett b).length) : unpL ((lett b).take n) = none := by
  refine unp_none (.inr fun x hx => ?_)
  have e : lett b = (TL.numL b.length ++ (46 :: (TL.numL (sumN b) ++ (46 :: b)))) ++ [33] := by unfold lett; simp
  have hm : 33 ∈ (lett b).take n := by rw [hx]; simp
  rw [e] at hm hn
  rw [List.length_append, List.length_singleton] at hn
  rw [List.take_append_of_le_length (by omega)] at hm
  have hm2 := List.mem_of_mem_take hm
  rcases List.mem_append.mp hm2 with h | h
  · exact free33 h
  rcases List.mem_cons.mp h with h | h
  · omega
  rcases List.mem_append.mp h with h | h
  · exact free33 h
  rcases List.mem_cons.mp h with h | h
  · omega
  · exact isS_free hb sgn_facts.2.1 h
theorem cutS_lastone (d : List Nat) (x : Nat) : cutS (txt (d ++ [x])) (some (-1)) none = txt [x] := by
  unfold cutS
  have hz : (txt (d ++ [x])).length = d.length + 1 := by rw [txt_len, List.length_append]; rfl
  have e : HT.sIx (d.length + 1) 0 (some (-1)) = d.length := by
    show (if (-1 : Int) < 0 then ((-1 : Int) + ((d.length + 1 : Nat) : Int)).toNat else min (-1 : Int).toNat (d.length + 1)) = _
    rw [if_pos (by decide)]
    omega
  rw [hz, e, HT.sIx_none, txt_cps, List.drop_append_of_le_length (Nat.le_refl _), List.drop_length]
  show (⟨(([x] : List Nat).take (d.length + 1 - d.length)).toArray⟩ : Str) = _
  rw [Nat.add_sub_cancel_left]
  rfl
theorem cutS_lastnone : cutS (txt []) (some (-1)) none = txt [] := rfl
structure TLun (mg : Str → Option Value) : Prop where
  z_len : mg "len" = none
structure CLun (P : Program) (w : World) (K : PySem.W.Frag) (mg : Str → Option Value) (base : Heap) : Prop where
  law_packed : Cal P w K mg base "_law_packed" 1 ["_law_fields"] (spLpk K)
def spLun : Sp := fun vs H Q _ => ∃ z : Str, vs = [.str z] ∧ z.length ≤ 100000 ∧ (∀ c ∈ z.cps.toList, c < 128) ∧ (unpL z.cps.toList = none → ∀ H', Ex H H' → Q .non H') ∧
  ∀ fs, unpL z.cps.toList = some fs → ∀ p H', Ex H H' → H p = none → H' p = some (.lst (fs.map V.str)) → Q (.ref p) H'
theorem eqv_strs_nil (ss : List Str) : PyData.eqv (.list (ss.map PyData.str)) (.list []) = decide (ss = []) := by
  cases ss with
  | nil => rfl
  | cons n r => rfl
section
variable {P : Program} {w : World} {K : PySem.W.Frag} {mg : Str → Option Value} {base : Heap}
theorem ok_lun {f : Addr} {fd : FuncData} (F : Fun K "_law_unpacked" "_law_unpacked" sLun f fd) (C : CLun P w K mg base) : FnOk P w K mg base CX0 2 f fd ["_law_text"] spLun := by
  refine F.ok scLun (fun vs H Q E h => ?_) (fun cdv A outer s H vs Q E hr h => ?_)
  · obtain ⟨z, rfl, _⟩ := h
    rfl
  · obtain ⟨z, rfl, hz, hlow, qn, qs⟩ := h
    refine ⟨_, (pss_cons (ps_set (i := 1) scLun.nd rfl (Or.inr rfl) pe_str)
      (pss_cons (ps_if (PW.pt (pw_or (pt_cmpR op_ne (pe_m1 PySem.F.slot_str_count PySem.F.type_str_count mt_count (pv 0) pe_str) pe_int (nomark _)) (pw_or1 (pt_cmpR op_ne (pe_slice sl_str (pv 0) (po_some (pe_un un_neg pe_int)) po_none) pe_str (nomark _))))) (pss_one (ps_ret pe_non)) pss_nil)
      (pss_cons (ps_set (i := 2) scLun.nd rfl (Or.inl rfl) (pe_ix ix_list (pe_split (pe_slice sl_str (pv 0) po_none (po_some (pe_un un_neg pe_int))) pe_str) pe_int (fun _ _ => rfl)))
      (pss_cons (ps_if (pt_cmpR (op_neD hr.units) (pe_lc (own := [("_law_sign", 4)]) (g := gName 4) rfl scLun.nd (pi_str (pv 2)) (blkOk_by (own := [("_law_sign", 4)]) (N := ["_law_text", "_law_every", "_law_body", "_law_fields", "_law_sign"]) (sc := defScope sLun) (by decide +kernel)) (fun _ _ _ _ _ => pg_name (i := 4) scLun.nd rfl (Or.inl rfl)) (fun _ _ _ _ _ => pts_one (pt_cmpR op_notIn_sign (pv 4) (pv 1) rfl)) (fun _ _ _ _ _ => (pv 4))) (pe_lst pa_nil) (nomark _)) (pss_one (ps_ret pe_non)) pss_nil)
      (pss_cons (ps_set (i := 3) scLun.nd rfl (Or.inl rfl) (pe_split (pv 2) pe_str))
      (pss_one (ps_ret (pe_ifExp (pt_cmpR op_eq (pv 0) (pcall C.law_packed (hr.mono (by first | decide | omega)) (pa_cons (pv 3) pa_nil)) (nomark _)) (pv 3) pe_non)))))))), ?_⟩
    have big : ∀ n : Nat, n ≤ 2000000 → n ≤ sizeLine := fun n h => Nat.le_trans h (by decide)
    refine ⟨_, rfl, ⟨_, rfl⟩, z, sg 46, rfl, rfl, rfl, _, rfl, ?_⟩
    rw [count_sg]
    by_cases h2 : z.cps.toList.count 46 = 2
    · have e2 : decide (V.int ((z.cps.toList.count 46 : Nat) : Int) = V.int 2) = true := decide_eq_true (by rw [h2]; rfl)
      rw [e2]
      refine iteF ⟨_, rfl, _, rfl, _, rfl, z, rfl, big _ (by omega), rfl, _, rfl, ?_⟩
      by_cases h3 : ∃ x, z.cps.toList = x ++ [33]
      · obtain ⟨x, hx⟩ := h3
        have ez : z = txt (x ++ [33]) := by rw [← hx, txt_of]
        have e3 : decide (V.str (cutS z (some (-1)) none) = V.str "!") = true := decide_eq_true (by rw [ez, cutS_lastone]; rfl)
        rw [e3]
        refine iteF ?_
        -- the third part
        have hcx : x.count 46 = 2 := by
          rw [hx, List.count_append] at h2
          have : ([33] : List Nat).count 46 = 0 := by decide
          omega
        obtain ⟨a, b, d, rfl, na, nb, nd⟩ := cut2 hcx
        have hbeh : (behind 46 z.cps.toList).dropLast = d := by
          have e : z.cps.toList = (a ++ 46 :: b) ++ 46 :: (d ++ [33]) := by rw [hx]; simp
          rw [e, behind_app]
          · simp
          · intro hm
            rcases List.mem_append.mp hm with hm | hm
            · exact nd hm
            · have := List.mem_singleton.mp hm
              omega
        have hun : unpL z.cps.toList = if (d.all isS && decide (lett d = z.cps.toList)) = true then some (Txt.split (txt d) (sg 124)) else none := by
          rw [← hbeh]
          rfl
        have hdl : d.length ≤ z.length := by
          rw [← str_len, hx]
          simp only [List.length_append, List.length_cons]
          omega
        have hdlow : ∀ c ∈ d, c < 128 := fun c hc => hlow c (by rw [hx]; simp [hc])
        refine ⟨_, rfl, _, rfl, _, rfl, z, rfl, big _ (by omega), ⟨_, rfl⟩, cutS z none (some (-1)), sg 46, rfl, rfl, rfl, ?_, fun p np => ?_⟩
        · have := cutS_length z none (some (-1))
          exact big _ (by omega)
        have esp : Txt.split (cutS z none (some (-1))) (sg 46) = [txt a, txt b, txt d] := by
          rw [cutS_butlast, hx, List.dropLast_concat]
          exact split3 (by decide) na nb nd
        rw [esp]
        have e1 : Ex H (upd H p (.lst ([txt a, txt b, txt d].map V.str))) := Ex.new np
        refine ⟨p, _, 2, .str (txt d), rfl, rfl, SqL.of upd_same, atI_nat (j := 2) rfl, ?_⟩
        generalize upd H p (.lst ([txt a, txt b, txt d].map V.str)) = H1 at e1 ⊢
        -- signs that there must not be
        refine ⟨_, rfl, txt d, rfl, fun D hD => ?_⟩
        refine lc_it walk_str (fun i H' => Ex H1 H' ∧ H' D = some (.lst ((((d.take i).filter fun c => !isS c).map sg).map V.str))) ⟨Ex.new hD, upd_same⟩ (fun _ _ _ _ => trivial) ?_ ?_
        · rintro i v Ho Hn hi ⟨e, hp⟩ ⟨rfl, cc, hcc, rfl⟩
          have hc : d[i]? = some cc := by
            have e : (txt d).cps.toList[i]? = some cc := by rw [Array.getElem?_toList]; exact hcc
            rw [txt_cps] at e
            exact e
          refine ⟨rfl, _, rfl, _, rfl, cc, SGN, rfl, rfl, _, rfl, ?_⟩
          refine ite2 (fun hy => ?_) (fun hn => ?_)
          · refine ⟨_, rfl, _, hp, ?_, ex_set e hD, ?_⟩
            · rw [List.length_map, List.length_map]
              refine Nat.lt_of_le_of_lt (List.length_filter_le _ _) ?_
              rw [List.length_take]
              exact Nat.lt_of_le_of_lt (Nat.le_trans (Nat.min_le_right _ _) (Nat.le_trans hdl hz)) (by decide)
            · rw [upd_same, List.take_add_one, hc, List.filter_append]
              have e9 : (Option.toList (some cc)).filter (fun c => !isS c) = [cc] := by
                show ([cc] : List Nat).filter _ = _
                rw [List.filter_cons_of_pos (p := fun c => !isS c) (a := cc) (l := []) hy]
                rfl
              rw [e9, List.map_append, List.map_append]
              rfl
          · refine ⟨e, ?_⟩
            rw [hp, List.take_add_one, hc, List.filter_append]
            have e9 : (Option.toList (some cc)).filter (fun c => !isS c) = [] := by
              show ([cc] : List Nat).filter _ = _
              rw [List.filter_cons_of_neg (p := fun c => !isS c) (a := cc) (l := []) hn]
              rfl
            rw [e9, List.append_nil]
        · rintro H2 ⟨e, hp⟩
          have et : d.take (txt d).cps.size = d := List.take_of_length_le (by show d.length ≤ d.toArray.size; simp)
          rw [et] at hp
          refine ⟨Nat.zero_le _, fun p2 n2 => ?_⟩
          have e3 : Ex H2 (upd H2 p2 (.lst [])) := Ex.new n2
          have hp3 := e3 _ _ hp
          have hq3 : upd H2 p2 (.lst []) p2 = some (.lst []) := upd_same
          generalize upd H2 p2 (.lst []) = H3 at e3 hp3 hq3 ⊢
          have hg : good 1 (.list (((d.filter fun c => !isS c).map sg).map PyData.str)) = true := by
            show (decide ((((d.filter fun c => !isS c).map sg).map PyData.str).length ≤ 16777216) && (((d.filter fun c => !isS c).map sg).map PyData.str).all (good 0)) = true
            rw [List.length_map, List.length_map, decide_eq_true (Nat.le_trans (List.length_filter_le _ _) (Nat.le_trans (Nat.le_trans hdl hz) (by decide))), Bool.true_and, List.all_eq_true]
            intro y hy
            obtain ⟨y2, hy2, rfl⟩ := List.mem_map.mp hy
            obtain ⟨c, hc, rfl⟩ := List.mem_map.mp hy2
            refine lay_str fun k hk => ?_
            have : k = c := by simpa [sg] using hk
            rw [this]
            exact hdlow c (List.mem_filter.mp hc).1
          have e03 : Ex H H3 := (e1.trans e).trans e3
          refine ⟨.list (((d.filter fun c => !isS c).map sg).map PyData.str), .list [], .lst (SqL.of hp3) (dp_strs _), .lst (SqL.of hq3) .nil, sh_of' hg (by decide), rfl, _, rfl, ?_⟩
          rw [eqv_strs_nil]
          by_cases hall : d.all isS = true
          · have ef : (d.filter fun c => !isS c).map sg = [] := by
              rw [List.map_eq_nil_iff, List.filter_eq_nil_iff]
              intro c hc
              rw [List.all_eq_true.mp hall c hc]
              decide
            rw [decide_eq_true ef]
            refine iteF ⟨_, rfl, ⟨_, rfl⟩, txt d, sg 124, rfl, rfl, rfl, big _ (by rw [txt_len]; omega), fun p4 n4 => ?_⟩
            have e4 : Ex H (upd H3 p4 (.lst ((Txt.split (txt d) (sg 124)).map V.str))) := e03.trans (Ex.new n4)
            have hp4 : upd H3 p4 (.lst ((Txt.split (txt d) (sg 124)).map V.str)) p4 = some (.lst ((Txt.split (txt d) (sg 124)).map V.str)) := upd_same
            generalize upd H3 p4 (.lst ((Txt.split (txt d) (sg 124)).map V.str)) = H4 at e4 hp4 ⊢
            have hFL : FieldsL (Txt.split (txt d) (sg 124)) := by
              have wt := PyProof.Rows.split_weight (txt d) (sg 124) (by show 1 ≤ 1; decide)
              rw [txt_len] at wt
              refine ⟨by omega, fun y hy c hc => ?_⟩
              have h5 := (split_parts (txt d) 124).2 y hy
              have h6 := h5.2 c hc
              rw [txt_cps] at h6
              exact List.all_eq_true.mp hall c h6
            refine ⟨_, rfl, _, rfl, p4, _, rfl, SqL.of hp4, hFL, rfl, _, rfl, ?_⟩
            have eb : bodyOf (Txt.split (txt d) (sg 124)) = d := by
              show (Txt.join (sg 124) (Txt.split (txt d) (sg 124))).cps.toList = d
              rw [split_join_back, txt_cps]
            rw [eb]
            rw [hall, Bool.true_and] at hun
            by_cases he : lett d = z.cps.toList
            · have e9 : decide (V.str z = V.str (txt (lett d))) = true := decide_eq_true (by rw [he, txt_of])
              rw [e9]
              rw [decide_eq_true he, if_pos rfl] at hun
              exact iteT ⟨_, rfl, qs _ hun p4 _ e4 (fresh_back e03 n4) hp4⟩
            · have e9 : decide (V.str z = V.str (txt (lett d))) = false := decide_eq_false fun e => he (by rw [V.str.inj e, txt_cps])
              rw [e9]
              rw [decide_eq_false he] at hun
              exact iteF (qn hun _ e4)
          · have ef : ¬ (d.filter fun c => !isS c).map sg = [] := fun e9 => hall (by
              rw [List.map_eq_nil_iff, List.filter_eq_nil_iff] at e9
              rw [List.all_eq_true]
              intro c hc
              have := e9 c hc
              cases q : isS c with
              | true => rfl
              | false => rw [q] at this; exact absurd rfl this)
            rw [decide_eq_false ef]
            have hf : d.all isS = false := by
              cases q : d.all isS with
              | true => exact absurd q hall
              | false => rfl
            rw [hf, Bool.false_and] at hun
            exact iteT (qn hun _ e03)
      · have hn : unpL z.cps.toList = none := unp_none (.inr fun x hx => h3 ⟨x, hx⟩)
        have e3 : decide (V.str (cutS z (some (-1)) none) = V.str "!") = false := decide_eq_false fun e => by
          have e4 := V.str.inj e
          rcases List.eq_nil_or_concat z.cps.toList with h0 | ⟨d, x, hx⟩
          · have ez : z = txt [] := by rw [← h0, txt_of]
            rw [ez] at e4
            exact absurd (congrArg Str.length e4) (by decide)
          · have ez : z = txt (d ++ [x]) := by rw [← txt_of z, hx]; simp
            rw [ez, cutS_lastone] at e4
            have e5 : x = 33 := by
              have := congrArg (fun y : Str => y.cps.toList) e4
              rw [show (txt [x]).cps.toList = [x] from txt_cps _] at this
              have h6 : ([x] : List Nat) = [33] := this
              exact (List.cons.inj h6).1
            subst e5
            exact h3 ⟨d, by rw [hx]; simp⟩
        rw [e3]
        exact iteT (qn hn _ (Ex.refl _))
    · have hn : unpL z.cps.toList = none := unp_none (.inl h2)
      have e2 : decide (V.int ((z.cps.toList.count 46 : Nat) : Int) = V.int 2) = false := decide_eq_false fun e => h2 (by have := V.int.inj e; omega)
      rw [e2]
      exact iteT (iteT (qn hn _ (Ex.refl _)))
end
end Vf
namespace Vf
open PySem PySem.Spec PyProof.Rows L2 Evl GxR
/-! ### a text told otherwise: some text -/
abbrev sOth : Stmt := topS 19
theorem scOth : FnScope ["_law_box", "_law_text", "_law_every", "_law_place", "_law_way", "_law_sign", "_law_end"] ["_law_box", "_law_text"] (defScope sOth) := ⟨rfl, rfl, rfl, by decide +kernel, rfl, by decide +kernel, by decide +kernel⟩
structure TOth (mg : Str → Option Value) : Prop where
  z_len : mg "len" = none
  z_int : mg "int" = none
def Lo (z : Str) : Prop := ∀ c ∈ z.cps.toList, c < 128
theorem lo_app {x y : Str} (h1 : Lo x) (h2 : Lo y) : Lo (x ++ y) := fun c hc => by
  have e : (x ++ y).cps.toList = x.cps.toList ++ y.cps.toList := by
    show (x.cps ++ y.cps).toList = _
    simp
  rw [e] at hc
  rcases List.mem_append.mp hc with hc | hc
  · exact h1 c hc
  · exact h2 c hc
theorem lo_cut {z : Str} {a b : Option Int} (h : Lo z) : Lo (cutS z a b) := fun c hc => by
  unfold cutS at hc
  have hc2 : c ∈ (z.cps.toList.drop (HT.sIx z.length 0 a)).take (HT.sIx z.length z.length b - HT.sIx z.length 0 a) := by simpa using hc
  exact h c (List.mem_of_mem_drop (List.mem_of_mem_take hc2))
theorem lo_sg {c : Nat} (h : c < 128) : Lo (sg c) := fun k hk => by
  have : k = c := by simpa [sg] using hk
  rw [this]
  exact h
theorem lo_mul {z : Str} {n : Nat} (h : Lo z) : Lo (Txt.mul z (n : Int)) := fun c hc => by
  rw [mul_cps] at hc
  obtain ⟨l, hl, hcl⟩ := List.mem_flatten.mp hc
  rw [(List.mem_replicate.mp hl).2] at hcl
  exact h c hcl
def evo : Str := litOf ((defBody sOth).getD 0 (.Pass ⟨0, 0, 0, 0⟩))
theorem evo_len : evo.cps.toList.length = 54 := by decide +kernel
theorem evo_ok : ∀ c ∈ evo.cps.toList, c < 128 := by decide +kernel
def spOth : Sp := fun vs H Q _ => ∃ (b l : Addr) (z : Str), vs = [.ref b, .str z] ∧ Box H b l ∧ z.length ≤ 10000 ∧ Lo z ∧ ∀ (y : Str) (H' : Hp), Ex H H' → y.length ≤ 3 * z.length + 10 → Lo y → Q (.str y) H'
section
variable {P : Program} {w : World} {K : PySem.W.Frag} {mg : Str → Option Value} {base : Heap}
theorem ok_oth {f : Addr} {fd : FuncData} (F : Fun K "_law_otherwise" "_law_otherwise" sOth f fd) (T : TOth mg) (C : CTak P w K mg base) : FnOk P w K mg base CX0 2 f fd ["_law_box", "_law_text"] spOth := by
  refine F.ok scOth (fun vs H Q E h => ?_) (fun cdv A outer s H vs Q E hr h => ?_)
  · obtain ⟨b, l, z, rfl, _⟩ := h
    rfl
  · obtain ⟨b, l, z, rfl, B, hz, hlo, q⟩ := h
    refine ⟨_, (pss_cons (ps_set (i := 2) scOth.nd rfl (Or.inl rfl) pe_str)
      (pss_cons (ps_par (i := 3) (j := 4) (by rfl) scOth.nd rfl rfl (by decide) rfl rfl (pa_cons (pcall C.law_take (hr.mono (by first | decide | omega)) (pa_cons (pv 0) (pa_cons (pe_op op_add (pe_callB call_len_str (by rfl) T.z_len PySem.boot_len (pa_cons (pv 1) pa_nil)) pe_int) pa_nil))) (pa_cons (pcall C.law_take (hr.mono (by first | decide | omega)) (pa_cons (pv 0) (pa_cons pe_int pa_nil))) pa_nil)) (by rfl))
      (pss_cons (ps_set (i := 5) scOth.nd rfl (Or.inl rfl) (pe_ix ix_str (pv 2) (pcall C.law_take (hr.mono (by first | decide | omega)) (pa_cons (pv 0) (pa_cons pe_int pa_nil))) (fun _ _ => rfl)))
      (pss_cut (ps_if (pt_cmpR op_eq (pv 4) pe_int (nomark _)) (pss_one (ps_set (i := 5) scOth.nd rfl (Or.inl rfl) pe_str)) pss_nil)
      (pss_cons (ps_if (pt_cmpR op_lt (pv 4) pe_int (nomark _)) (pss_one (ps_ret (pe_op op_add_str (pe_op op_add_str (pe_slice sl_str (pv 1) po_none (po_some (pv 3))) (pv 5)) (pe_slice sl_str (pv 1) (po_some (pe_op op_add (pv 3) (pe_callTy call_int1 (by rfl) T.z_int boot_int (pa_cons (pe_cmpR op_gt (pv 4) pe_int (nomark _)) pa_nil)))) po_none)))) pss_nil)
      (pss_cons (ps_set (i := 6) scOth.nd rfl (Or.inl rfl) (pe_op op_add (pv 3) (pcall C.law_take (hr.mono (by first | decide | omega)) (pa_cons (pv 0) (pa_cons pe_int pa_nil)))))
      (pss_cons (ps_if (pt_cmpR op_eq (pv 4) pe_int (nomark _)) (pss_one (ps_ret (pe_op op_add_str (pe_slice sl_str (pv 1) po_none (po_some (pv 6))) (pe_slice sl_str (pv 1) (po_some (pv 3)) po_none)))) pss_nil)
      (pss_cons (ps_if (pt_cmpR op_eq (pv 4) pe_int (nomark _)) (pss_one (ps_ret (pe_op op_add_str (pe_op op_mulS pe_str (pe_op op_add pe_int (pcall C.law_take (hr.mono (by first | decide | omega)) (pa_cons (pv 0) (pa_cons pe_int pa_nil))))) (pv 1)))) pss_nil)
      (pss_one (ps_ret (pe_op op_add_str (pe_op op_add_str (pe_slice sl_str (pv 1) po_none (po_some (pv 3))) (pe_revS (pe_slice sl_str (pv 1) (po_some (pv 3)) (po_some (pe_op op_add (pv 3) pe_int))))) (pe_slice sl_str (pv 1) (po_some (pe_op op_add (pv 3) pe_int)) po_none)))))))))))), ?_⟩
    have big : ∀ n : Nat, n ≤ 1000000 → n ≤ sizeLine := fun n h => Nat.le_trans h (by decide)
    have cl : ∀ a c : Option Int, (cutS z a c).length ≤ z.length := fun a c => cutS_length z a c
    refine ⟨_, rfl, _, rfl, z, rfl, big _ (by omega), _, _, rfl, rfl, b, l, _, rfl, B, by omega, by omega, fun place H1 e1 p0 p1 => ?_⟩
    refine ⟨_, rfl, b, l, 6, rfl, B.ex e1, by decide, by decide, fun way H2 e2 w0 w1 => ⟨_, _, rfl, ?_⟩⟩
    refine ⟨_, rfl, _, rfl, b, l, 54, rfl, (B.ex e1).ex e2, by decide, by decide, fun k H3 e3 k0 k1 => ?_⟩
    have hk : k.toNat < evo.cps.toList.length := by rw [evo_len]; omega
    refine ⟨evo, k, evo.cps.toList[k.toNat], rfl, rfl, by decide +kernel, at_ix (z := k) (j := k.toNat) (by omega) (List.getElem?_eq_getElem hk), ?_⟩
    have e03 : Ex H H3 := (e1.trans e2).trans e3
    refine ⟨fun σ' H' => ∃ y : Str, σ' = [some (.ref b), some (.str z), some (.str evo), some (.int place), some (.int way), some (.str y), none] ∧ H' = H3 ∧ y.length ≤ 1 ∧ Lo y, ?_, ?_⟩
    · refine ⟨_, rfl, rfl, _, rfl, ite2 (fun _ => ?_) (fun _ => ?_)⟩
      · exact ⟨_, rfl, rfl, Nat.zero_le _, fun _ h => nomatch h⟩
      · exact ⟨sg evo.cps.toList[k.toNat], rfl, rfl, Nat.le_refl 1, lo_sg (evo_ok _ (List.getElem_mem hk))⟩
    · rintro σ' H' ⟨y, rfl, rfl, hy, ly⟩
      refine ⟨_, rfl, _, _, rfl, rfl, _, rfl, ite2 (fun _ => ?_) (fun _ => ?_)⟩
      · refine ⟨_, rfl, _, rfl, _, rfl, z, rfl, big _ (by omega), _, rfl, _, _, rfl, rfl, big _ (by have := cl none (some place); omega), ?_⟩
        refine ⟨_, rfl, _, rfl, _, rfl, _, _, rfl, rfl, .inr ⟨_, rfl, _, _, rfl, rfl, _, rfl, z, rfl, big _ (by omega), _, _, rfl, rfl, ?_, ?_⟩⟩
        · rw [Str.length_append]
          have h1 := cl none (some place)
          exact big _ (Nat.le_trans (Nat.add_le_add (Nat.add_le_add h1 hy) (cl _ none)) (by omega))
        · refine q _ _ e03 ?_ (lo_app (lo_app (lo_cut hlo) ly) (lo_cut hlo))
          rw [Str.length_append, Str.length_append]
          exact Nat.le_trans (Nat.add_le_add (Nat.add_le_add (cl none (some place)) hy) (cl _ none)) (by omega)
      · refine ⟨_, rfl, _, rfl, b, l, 9, rfl, B.ex e03, by decide, by decide, fun k2 H4 e4 k20 k21 => ⟨_, _, rfl, rfl, ?_⟩⟩
        have e04 := e03.trans e4
        refine ⟨_, rfl, rfl, _, rfl, ite2 (fun _ => ?_) (fun _ => ?_)⟩
        · refine ⟨_, rfl, _, rfl, _, rfl, z, rfl, big _ (by omega), _, rfl, _, rfl, _, rfl, z, rfl, big _ (by omega), _, _, rfl, rfl, big _ (Nat.le_trans (Nat.add_le_add (cl _ _) (cl _ _)) (by omega)), ?_⟩
          refine q _ _ e04 ?_ (lo_app (lo_cut hlo) (lo_cut hlo))
          rw [Str.length_append]
          exact Nat.le_trans (Nat.add_le_add (cl _ _) (cl _ _)) (by omega)
        · refine ⟨_, rfl, rfl, _, rfl, ite2 (fun _ => ?_) (fun _ => ?_)⟩
          · refine ⟨_, rfl, b, l, 2, rfl, B.ex e04, by decide, by decide, fun k3 H5 e5 k30 k31 => ?_⟩
            obtain ⟨kn, rfl⟩ : ∃ kn : Nat, k3 = (kn : Int) := ⟨k3.toNat, by omega⟩
            have ek : (1 : Int) + (kn : Int) = ((1 + kn : Nat) : Int) := by omega
            refine ⟨1, (kn : Int), rfl, rfl, sg 48, 1 + (kn : Int), rfl, rfl, (by show 1 ≤ 1000; decide), by omega, by omega, _, rfl, _, _, rfl, rfl, ?_, ?_⟩
            · rw [ek, mul_sg, txt_len, List.length_replicate]
              exact big _ (by omega)
            · rw [ek]
              refine q _ _ (e04.trans e5) ?_ (lo_app (lo_mul (lo_sg (by decide))) hlo)
              rw [Str.length_append, mul_sg, txt_len, List.length_replicate]
              omega
          · refine ⟨_, rfl, _, rfl, _, rfl, z, rfl, big _ (by omega), _, rfl, _, rfl, _, rfl, _, rfl, _, _, rfl, rfl, _, rfl, z, rfl, big _ (by omega), _, rfl, big _ (Nat.le_trans (cl _ _) (by omega)), fun u hu1 hu2 => ?_⟩
            have hu3 : u.length ≤ z.length := Nat.le_trans hu1 (cl _ _)
            refine ⟨_, _, rfl, rfl, big _ (Nat.le_trans (Nat.add_le_add (cl _ _) hu3) (by omega)), _, rfl, _, rfl, _, _, rfl, rfl, _, rfl, z, rfl, big _ (by omega), _, _, rfl, rfl, ?_, ?_⟩
            · rw [Str.length_append]
              exact big _ (Nat.le_trans (Nat.add_le_add (Nat.add_le_add (cl _ _) hu3) (cl _ _)) (by omega))
            · refine q _ _ e04 ?_ (lo_app (lo_app (lo_cut hlo) fun c hc => lo_cut hlo c (hu2 c hc)) (lo_cut hlo))
              rw [Str.length_append, Str.length_append]
              exact Nat.le_trans (Nat.add_le_add (Nat.add_le_add (cl _ _) hu3) (cl _ _)) (by omega)
end
end Vf
namespace Vf
open PySem PySem.Spec PyProof.Rows L2 Evl GxR
/-! ### the law -/
abbrev sL06 : Stmt := topS 20
theorem scL06 : FnScope ["_law_script", "_law_box", "_law_every", "_law_turn", "_law_fields", "_law_k", "_law_text", "_law_end", "_law_again", "_law_odd", "_law_change", "_law_some", "_law_j"] ["_law_script"] (defScope sL06) := ⟨rfl, rfl, rfl, by decide +kernel, rfl, by decide +kernel, by decide +kernel⟩
structure TLaw (mg : Str → Option Value) : Prop where
  z_range : mg "range" = none
  z_len : mg "len" = none
structure CLaw (P : Program) (w : World) (K : PySem.W.Frag) (mg : Str → Option Value) (base : Heap) (T0 : Addr) : Prop where
  law_begun : Cal P w K mg base "_law_begun" 1 ["_law_script"] (spBeg K)
  law_take : Cal P w K mg base "_law_take" 1 ["_law_box", "_law_many"] spTak
  law_alike : Cal P w K mg base "_law_alike" 2 ["_law_found", "_law_due"] (spAli K 1)
  law_unpacked : Cal P w K mg base "_law_unpacked" 2 ["_law_text"] spLun
  law_otherwise : Cal P w K mg base "_law_otherwise" 2 ["_law_box", "_law_text"] spOth
  packed : Cal P w K mg base "packed" 3 ["fields"] (spPac T0 K)
  unpacked : Cal P w K mg base "unpacked" 3 ["text"] (spUnp T0)
def spLawH (T0 : Addr) (K : PySem.W.Frag) : Sp := fun vs H Q _ => ∃ (a : Addr) (ns : List Int), vs = [.ref a] ∧ SqL K H a (ns.map V.int) ∧ ns.length ≤ 63 ∧ H T0 = some (TabO T0) ∧ ∀ H', H' T0 = some (TabO T0) → Q (.bl true) H'
def spLaw (T0 : Addr) (K : PySem.W.Frag) : Sp := fun vs H Q _ => ∃ (a : Addr) (ns : List Int), vs = [.ref a] ∧ SqL K H a (ns.map V.int) ∧ ns.length ≤ 63 ∧ H T0 = some (.tbl #[]) ∧ ∀ H', Q (.bl true) H'
def evl : Str := litOf ((defBody sL06).getD 1 (.Pass ⟨0, 0, 0, 0⟩))
theorem evl_len : evl.cps.toList.length = 41 := by decide +kernel
theorem evl_ok : ∀ c ∈ evl.cps.toList, isS c = true ∧ c ≠ 124 := by decide +kernel
/-- the texts of a written list -/
def strsOf : Stmt → List V
  | .Assign _ (.List es _) _ => es.map fun e => match e with
    | .Constant (.str x) _ _ => V.str x
    | _ => V.non
  | _ => []
def somes : List V := strsOf ((defBody sL06).getD 3 (.Pass ⟨0, 0, 0, 0⟩))
def okV : V → Bool
  | .str z => decide (z.length ≤ 100) && z.cps.toList.all fun c => decide (c < 128)
  | _ => false
theorem somes_ok : somes.all okV = true ∧ somes.length = 12 := by decide +kernel
theorem okV_of {v : V} (h : okV v = true) : ∃ z : Str, v = .str z ∧ z.length ≤ 100 ∧ Lo z := by
  cases v with
  | str z =>
    have h2 : (decide (z.length ≤ 100) && z.cps.toList.all fun c => decide (c < 128)) = true := h
    rw [Bool.and_eq_true] at h2
    exact ⟨z, rfl, of_decide_eq_true h2.1, fun c hc => of_decide_eq_true (List.all_eq_true.mp h2.2 c hc)⟩
  | _ => cases h
theorem good_strs {ss : List Str} (hl : ss.length ≤ 16777216) (h : ∀ z ∈ ss, ∀ c ∈ z.cps.toList, c < 128) : good 1 (.list (ss.map PyData.str)) = true := by
  show (decide ((ss.map PyData.str).length ≤ 16777216) && (ss.map PyData.str).all (good 0)) = true
  rw [List.length_map, decide_eq_true hl, Bool.true_and, List.all_eq_true]
  intro d hd
  obtain ⟨z, hz, rfl⟩ := List.mem_map.mp hd
  exact lay_str (h z hz)
theorem lett_low {l : List Nat} (h : ∀ c ∈ l, isS c = true) : Lo (txt (lett l)) := by
  unfold Lo
  rw [txt_cps]
  have dig : ∀ n c, c ∈ TL.numL n → c < 128 := fun n c hc => by
    by_cases h1 : 57 < c
    · exact absurd hc (TL.numL_free (.inr h1))
    · omega
  intro c hc
  unfold lett at hc
  rcases List.mem_append.mp hc with hc | hc
  · exact dig _ _ hc
  rcases List.mem_cons.mp hc with rfl | hc
  · decide
  rcases List.mem_append.mp hc with hc | hc
  · exact dig _ _ hc
  rcases List.mem_cons.mp hc with rfl | hc
  · decide
  rcases List.mem_append.mp hc with hc | hc
  · exact isS_low (h c hc)
  · rw [List.mem_singleton.mp hc]
    decide
theorem lett_len {l : List Nat} (h : l.length ≤ 600) : (lett l).length ≤ 700 := by
  have h1 := num_len (n := l.length) (by omega)
  have h2 := num_len (n := sumN l) (Nat.lt_trans (sumN_lt _) (by decide))
  unfold lett
  simp only [List.length_append, List.length_cons, List.length_nil]
  omega
section
variable {P : Program} {w : World} {K : PySem.W.Frag} {mg : Str → Option Value} {base : Heap}
/-- both readers tell the same -/
theorem check {T0 : Addr} {σ : L2.St} {H : Hp} {D : Ends} {z : Str} (h9 : σ[9]? = some (some (.str z))) (hz : z.length ≤ 100000) (lo : Lo z) (hT : H T0 = some (TabO T0)) (k : ∀ H', Ex H H' → D.nx σ H') :
    tIfS (tNot (tB (tCall (spAli K 1) [] E0 (tCons (tCall (spUnp T0) [] E0 (tCons (tVar 9) tNil)) (tCons (tCall spLun [] E0 (tCons (tVar 9) tNil)) tNil))))) (tRet (tC (.bl false))) tNext D σ H := by
  cases hu : unpL z.cps.toList with
  | none =>
    refine ⟨_, h9, z, rfl, by omega, hT, fun _ H1 e1 => ?_, fun fs hs => (by rw [hu] at hs; cases hs)⟩
    refine ⟨_, h9, z, rfl, hz, lo, fun _ H2 e2 => ?_, fun fs hs => (by rw [hu] at hs; cases hs)⟩
    exact ⟨_, _, .none, rfl, .non, .non, rfl, by decide, _, rfl, iteF (k _ (e1.trans e2))⟩
  | some fs =>
    refine ⟨_, h9, z, rfl, by omega, hT, fun hn => (by rw [hu] at hn; cases hn), fun fs2 hs p H1 e1 np hp => ?_⟩
    rw [hu] at hs
    cases hs
    refine ⟨_, h9, z, rfl, hz, lo, fun hn => (by rw [hu] at hn; cases hn), fun fs2 hs p2 H2 e2 np2 hp2 => ?_⟩
    rw [hu] at hs
    cases hs
    obtain ⟨b, hb, eb, rfl⟩ := unp_some hu
    have hp3 := split_parts (txt b) 124
    have hbl : b.length ≤ z.length := by
      rw [← str_len, ← eb]
      unfold lett
      simp only [List.length_append, List.length_cons]
      omega
    have g : good 1 (.list ((Txt.split (txt b) (sg 124)).map PyData.str)) = true := good_strs (by have := hp3.1; rw [txt_len] at this; omega) fun y hy c hc => by
      have := (hp3.2 y hy).2 c hc
      rw [txt_cps] at this
      exact isS_low (hb c this)
    exact ⟨_, _, _, rfl, .lst (SqL.of (e2 _ _ hp)) (dp_strs _), .lst (SqL.of hp2) (dp_strs _), g, by decide, _, rfl, iteF (k _ (e1.trans e2))⟩
theorem ok_law0 {f T0 : Addr} {fd : FuncData} (F : Fun K "law" "law" sL06 f fd) (T : TLaw mg) (C : CLaw P w K mg base T0) : FnOk P w K mg base CX0 4 f fd ["_law_script"] (spLawH T0 K) := by
  refine F.ok scL06 (fun vs H Q E h => ?_) (fun cdv A outer s H vs Q E hr h => ?_)
  · obtain ⟨a, ns, rfl, _⟩ := h
    rfl
  · obtain ⟨a, ns, rfl, hS, hlen, hT, q⟩ := h
    refine ⟨_, (pss_cons (ps_set (i := 1) scL06.nd rfl (Or.inr rfl) (pcall C.law_begun (hr.mono (by first | decide | omega)) (pa_cons (pv 0) pa_nil)))
      (pss_cons (ps_set (i := 2) scL06.nd rfl (Or.inr rfl) pe_str)
      (pss_cons (ps_for PassesOwn.never rfl (pi_range1 rfl T.z_range (pa_cons pe_int pa_nil)) (pg_name (i := 3) scL06.nd rfl (Or.inl rfl)) (pss_cons (ps_set (i := 4) scL06.nd rfl (Or.inl rfl) (pe_lst pa_nil))
      (pss_cons (ps_for PassesOwn.never rfl (pi_range1 rfl T.z_range (pa_cons (pe_op op_add pe_int (pcall C.law_take (hr.mono (by first | decide | omega)) (pa_cons (pv 1) (pa_cons pe_int pa_nil)))) pa_nil)) (pg_name (i := 5) scL06.nd rfl (Or.inl rfl)) (pss_one (ps_expr (pe_bm PySem.F.plainAttrs_list PySem.F.slot_list_append PySem.F.type_list_append mt_append (pv 4) (pa_cons (pe_join pe_str (pe_lc (own := [("_law_j", 12)]) (g := gName 12) (tt := tYes) rfl scL06.nd (pi_range1 rfl T.z_range (pa_cons (pcall C.law_take (hr.mono (by first | decide | omega)) (pa_cons (pv 1) (pa_cons pe_int pa_nil))) pa_nil)) (blkOk_by (own := [("_law_j", 12)]) (N := ["_law_script", "_law_box", "_law_every", "_law_turn", "_law_fields", "_law_k", "_law_text", "_law_end", "_law_again", "_law_odd", "_law_change", "_law_some", "_law_j"]) (sc := defScope sL06) (by decide +kernel)) (fun _ _ _ _ _ => pg_name (i := 12) scL06.nd rfl (Or.inl rfl)) (fun _ _ _ _ _ => pts_nil) (fun _ _ _ _ _ => (pe_ix ix_str (pv 2) (pcall C.law_take (hr.mono (by first | decide | omega)) (pa_cons (pv 1) (pa_cons pe_int pa_nil))) (fun _ _ => rfl))))) pa_nil)))))
      (pss_cons (ps_set (i := 6) scL06.nd rfl (Or.inl rfl) (pcall C.packed (hr.mono (by first | decide | omega)) (pa_cons (pv 4) pa_nil)))
      (pss_cons (ps_for PassesOwn.never rfl (pi_range1 rfl T.z_range (pa_cons (pe_callB call_len_str (by rfl) T.z_len PySem.boot_len (pa_cons (pv 6) pa_nil)) pa_nil)) (pg_name (i := 7) scL06.nd rfl (Or.inl rfl)) (pss_one (ps_if (pt_cmpR op_notN (pcall C.unpacked (hr.mono (by first | decide | omega)) (pa_cons (pe_slice sl_str (pv 6) po_none (po_some (pv 7))) pa_nil)) pe_non (nomark _)) (pss_one (ps_ret pe_bl)) pss_nil)))
      (pss_one (ps_for PassesOwn.never rfl (pi_range1 rfl T.z_range (pa_cons pe_int pa_nil)) (pg_name (i := 8) scL06.nd rfl (Or.inl rfl)) (pss_cons (ps_set (i := 9) scL06.nd rfl (Or.inl rfl) (pv 6))
      (pss_cons (ps_for PassesOwn.never rfl (pi_range1 rfl T.z_range (pa_cons (pe_op op_add pe_int (pcall C.law_take (hr.mono (by first | decide | omega)) (pa_cons (pv 1) (pa_cons pe_int pa_nil)))) pa_nil)) (pg_name (i := 10) scL06.nd rfl (Or.inl rfl)) (pss_one (ps_set (i := 9) scL06.nd rfl (Or.inl rfl) (pcall C.law_otherwise (hr.mono (by first | decide | omega)) (pa_cons (pv 1) (pa_cons (pv 9) pa_nil))))))
      (pss_one (ps_if (pt_not (pt_val (pcall C.law_alike (hr.mono (by first | decide | omega)) (pa_cons (pcall C.unpacked (hr.mono (by first | decide | omega)) (pa_cons (pv 9) pa_nil)) (pa_cons (pcall C.law_unpacked (hr.mono (by first | decide | omega)) (pa_cons (pv 9) pa_nil)) pa_nil))))) (pss_one (ps_ret pe_bl)) pss_nil)))))))))))
      (pss_cons (ps_set (i := 11) scL06.nd rfl (Or.inl rfl) (pe_lst (pa_cons pe_str (pa_cons pe_str (pa_cons pe_str (pa_cons pe_str (pa_cons pe_str (pa_cons pe_str (pa_cons pe_str (pa_cons pe_str (pa_cons pe_str (pa_cons pe_str (pa_cons pe_str (pa_cons pe_str pa_nil))))))))))))))
      (pss_cons (ps_for PassesOwn.never rfl (pi_list (pv 11)) (pg_name (i := 9) scL06.nd rfl (Or.inl rfl)) (pss_one (ps_if (pt_not (pt_val (pcall C.law_alike (hr.mono (by first | decide | omega)) (pa_cons (pcall C.unpacked (hr.mono (by first | decide | omega)) (pa_cons (pv 9) pa_nil)) (pa_cons (pcall C.law_unpacked (hr.mono (by first | decide | omega)) (pa_cons (pv 9) pa_nil)) pa_nil))))) (pss_one (ps_ret pe_bl)) pss_nil)))
      (pss_one (ps_ret pe_bl))))))), ?_⟩
    refine ⟨_, rfl, a, ns, rfl, hS, hlen, fun b l H0 e0 B0 => ?_⟩
    refine ⟨3, rfl, by decide, by decide, ?_⟩
    refine for_it walk_range (fun i σ H' => ∃ c3 c4 c5 c6 c7 c8 c9 c10 c11 c12, σ = [some (.ref a), some (.ref b), some (.str evl), c3, c4, c5, c6, c7, c8, c9, c10, c11, c12] ∧ Box H' b l ∧ H' T0 = some (TabO T0)) ⟨_, _, _, _, _, _, _, _, _, _, rfl, B0, e0 _ _ hT⟩ (fun _ _ _ _ _ => trivial) ?_ ?_
    · rintro i x σ H1o H1 hi ⟨c3, c4, c5, c6, c7, c8, c9, c10, c11, c12, rfl, B1, t1⟩ ⟨rfl, rfl⟩
      -- the fields
      refine ⟨Nat.zero_le _, fun r nr => ?_⟩
      have er : Ex H1 (upd H1 r (.lst [])) := Ex.new nr
      have Br := B1.ex er
      have hr0 : upd H1 r (.lst []) r = some (.lst ([] : List V)) := upd_same
      generalize upd H1 r (.lst []) = H2 at er Br hr0 ⊢
      refine ⟨_, rfl, b, l, _, rfl, Br, by decide, by decide, fun n H5 e5 n0 n1 => ?_⟩
      obtain ⟨nn, rfl⟩ : ∃ nn : Nat, n = (nn : Int) := ⟨n.toNat, by omega⟩
      refine ⟨1, (nn : Int), rfl, rfl, 1 + (nn : Int), rfl, by omega, by omega, ?_⟩
      have h5 := e5 _ _ hr0
      have x1 : Ex H1 H5 := er.trans e5
      clear e5 hr0 Br er
      refine for_it walk_range (fun j σ H' => ∃ c5 fs, σ = [some (.ref a), some (.ref b), some (.str evl), some (.int (0 + (i : Nat))), some (.ref r), c5, c6, c7, c8, c9, c10, c11, c12] ∧ Ex H1 H' ∧ H' r = some (.lst (List.map V.str fs)) ∧ fs.length = j ∧ ∀ z ∈ fs, z.length ≤ 8 ∧ 124 ∉ z.cps.toList ∧ ∀ c ∈ z.cps.toList, isS c = true)
        ⟨_, [], rfl, x1, h5, rfl, fun _ h => nomatch h⟩ (fun _ _ _ _ _ => trivial) ?_ ?_
      · rintro j x σ H6o H6 hj ⟨c5, fs, rfl, e6, hr6, hl, hz⟩ ⟨rfl, rfl⟩
        have B6 := B1.ex e6
        refine ⟨_, rfl, .inl ⟨rfl, _, SqL.of hr6⟩, ⟨_, rfl⟩, _, rfl, b, l, 9, rfl, B6, by decide, by decide, fun n H8 e8 n0 n1 => ?_⟩
        refine ⟨n, rfl, by omega, by omega, fun D hD => ?_⟩
        refine lc_it walk_range (fun i H' => Ex H6 H' ∧ ∃ cs : List Nat, cs.length = i ∧ (∀ c ∈ cs, isS c = true ∧ c ≠ 124) ∧ H' D = some (.lst ((cs.map sg).map V.str))) ⟨e8.trans (Ex.new hD), [], rfl, (fun _ h => nomatch h), upd_same⟩ (fun _ _ _ _ => trivial) ?_ ?_
        · rintro i2 x H9o H9 hi2 ⟨e9, cs, hcl, hcs, hp⟩ ⟨rfl, rfl⟩
          refine ⟨rfl, yes_lc ?_⟩
          refine ⟨.str evl, rfl, _, rfl, b, l, 41, rfl, B6.ex e9, by decide, by decide, fun k H10 e10 k0 k1 => ?_⟩
          have hk : k.toNat < evl.cps.toList.length := by rw [evl_len]; omega
          refine ⟨evl, k, evl.cps.toList[k.toNat], rfl, rfl, by decide +kernel, at_ix (z := k) (j := k.toNat) (by omega) (List.getElem?_eq_getElem hk), _, e10 _ _ hp, ?_, ex_set (e9.trans e10) (fresh_back e8 hD), cs ++ [evl.cps.toList[k.toNat]], ?_, fun c hm => ?_, ?_⟩
          · rw [List.length_map, List.length_map, hcl]
            exact Nat.lt_of_lt_of_le hi2 (Nat.le_trans (m := 2000) (by omega) (by decide))
          · rw [List.length_append, hcl]
            rfl
          · rcases List.mem_append.mp hm with hm | hm
            · exact hcs c hm
            · rw [List.mem_singleton.mp hm]
              exact evl_ok _ (List.getElem_mem hk)
          · rw [upd_same, List.map_append, List.map_append]
            rfl
        · rintro H9 ⟨e9, cs, hcl, hcs, hp⟩
          refine ⟨_, D, cs.map sg, rfl, rfl, .inl (SqL.of hp), ?_, ?_⟩
          · rw [sg_sum, List.length_map]
            show cs.length + cs.length * 0 ≤ _
            omega
          · have ej : Txt.join (Str.ofString "") (cs.map sg) = txt cs := join0 cs
            rw [ej]
            refine ⟨r, _, _, rfl, rfl, e9 _ _ hr6, ?_, ?_⟩
            · rw [List.length_map, hl]
              exact Nat.lt_of_lt_of_le hj (Nat.le_trans (m := 100) (by omega) (by decide))
            · refine ⟨_, fs ++ [txt cs], rfl, ex_set (e6.trans e9) nr, ?_, by rw [List.length_append, hl]; rfl, fun y hy => ?_⟩
              · rw [upd_same, List.map_append]
                rfl
              · rcases List.mem_append.mp hy with hy | hy
                · exact hz y hy
                · rw [List.mem_singleton.mp hy]
                  refine ⟨by rw [txt_len]; omega, ?_, ?_⟩
                  · rw [txt_cps]
                    exact fun hm => (hcs 124 hm).2 rfl
                  · rw [txt_cps]
                    exact fun c hm => (hcs c hm).1
      · rintro σ H6 ⟨c5, fs, rfl, e6, hr6, hl, hz⟩
        have hfl : fs.length ≤ 7 ∧ 1 ≤ fs.length := by omega
        have hF : Fields fs := ⟨fun e => by rw [e] at hfl; simp at hfl, by omega, fun z hm => ⟨by have := (hz z hm).1; omega, (hz z hm).2⟩⟩
        have hbS := body_isS fun z hm => (hz z hm).2.2
        have hbl : (bodyOf fs).length ≤ 100 := by
          have := body_len (m := 8) fun z hm => (hz z hm).1
          omega
        have hll := lett_len (l := bodyOf fs) (by omega)
        have hlo := lett_low hbS
        have t6 := e6 _ _ t1
        have B6 := B1.ex e6
        refine ⟨_, rfl, r, fs, rfl, SqL.of hr6, hF, t6, ?_⟩
        generalize bodyOf fs = body at hbS hbl hll hlo ⊢
        -- its beginnings
        refine ⟨_, rfl, txt (lett body), rfl, Nat.le_trans (by rw [txt_len]; exact hll) (by decide), _, rfl, by omega, by rw [txt_len]; omega, ?_⟩
        refine for_it walk_range (fun j σ H' => ∃ c7, σ = [some (.ref a), some (.ref b), some (.str evl), some (.int (0 + (i : Nat))), some (.ref r), c5, some (.str (txt (lett body))), c7, c8, c9, c10, c11, c12] ∧ Ex H6 H') ⟨_, rfl, Ex.refl _⟩ (fun _ _ _ _ _ => trivial) ?_ ?_
        · rintro j x σ Ho Hn hj ⟨c7, rfl, e⟩ ⟨rfl, rfl⟩
          have hj2 : j < (lett body).length := by rw [txt_len] at hj; omega
          have ec : cutS (txt (lett body)) none (some (0 + (j : Nat) : Int)) = txt ((lett body).take j) := by
            rw [Int.zero_add, cutS_first, txt_cps]
            rfl
          refine ⟨_, rfl, _, rfl, _, rfl, txt (lett body), rfl, Nat.le_trans (by rw [txt_len]; exact hll) (by decide), ?_⟩
          rw [ec]
          have hun : unpL (txt ((lett body).take j)).cps.toList = none := by rw [txt_cps]; exact unp_take hbS hj2
          refine ⟨txt ((lett body).take j), rfl, by rw [txt_len, List.length_take]; omega, e _ _ t6, fun _ H7 e7 => ?_, fun fs2 hs => (by rw [hun] at hs; cases hs)⟩
          exact ⟨rfl, _, rfl, iteF ⟨_, rfl, e.trans e7⟩⟩
        · rintro σ H7 ⟨c7, rfl, e7⟩
          have t7 := e7 _ _ t6
          have B7 := B6.ex e7
          refine ⟨6, rfl, by decide, by decide, ?_⟩
          refine for_it walk_range (fun j σ H' => ∃ c8 c9 c10, σ = [some (.ref a), some (.ref b), some (.str evl), some (.int (0 + (i : Nat))), some (.ref r), c5, some (.str (txt (lett body))), c7, c8, c9, c10, c11, c12] ∧ Ex H7 H') ⟨_, _, _, rfl, Ex.refl _⟩ (fun _ _ _ _ _ => trivial) ?_ ?_
          · rintro j x σ Ho H8 hj ⟨c8, c9, c10, rfl, e8⟩ ⟨rfl, rfl⟩
            refine ⟨_, rfl, ?_⟩
            refine ⟨_, rfl, b, l, 2, rfl, B7.ex e8, by decide, by decide, fun n H9 e9 n0 n1 => ?_⟩
            obtain ⟨nn, rfl⟩ : ∃ nn : Nat, n = (nn : Int) := ⟨n.toNat, by omega⟩
            refine ⟨1, (nn : Int), rfl, rfl, 1 + (nn : Int), rfl, by omega, by omega, ?_⟩
            refine for_it walk_range (fun k σ H' => ∃ c10 z, σ = [some (.ref a), some (.ref b), some (.str evl), some (.int (0 + (i : Nat))), some (.ref r), c5, some (.str (txt (lett body))), c7, some (.int (0 + (j : Nat))), some (.str z), c10, c11, c12] ∧ Ex H7 H' ∧ z.length + 5 ≤ 1005 * 3 ^ k ∧ Lo z)
              ⟨_, txt (lett body), rfl, e8.trans e9, by rw [txt_len]; omega, hlo⟩ (fun _ _ _ _ _ => trivial) ?_ ?_
            · rintro k x σ Ho H10 hk ⟨c10, z, rfl, e10, hzl, hzo⟩ ⟨rfl, rfl⟩
              have hk2 : k ≤ 1 := by omega
              have hz9 : z.length ≤ 10000 := by
                have : 3 ^ k ≤ 3 ^ 1 := Nat.pow_le_pow_right (by decide) hk2
                omega
              refine ⟨_, rfl, _, rfl, b, l, z, rfl, B7.ex e10, hz9, hzo, fun y H11 e11 hy hyo => ?_⟩
              refine ⟨_, y, rfl, e10.trans e11, ?_, hyo⟩
              rw [Nat.pow_succ]
              omega
            · rintro σ H10 ⟨c10, z, rfl, e10, hzl, hzo⟩
              have hz9 : z.length ≤ 100000 := by
                have h3 : 3 ^ (1 + (nn : Int)).toNat ≤ 3 ^ 2 := Nat.pow_le_pow_right (by decide) (by omega)
                omega
              exact check rfl hz9 hzo (e10 _ _ t7) fun H' e => ⟨_, _, _, rfl, e10.trans e⟩
          · rintro σ H8 ⟨c8, c9, c10, rfl, e8⟩
            exact ⟨_, _, _, _, _, _, _, _, _, _, rfl, B7.ex e8, e8 _ _ t7⟩
    · rintro σ H1 ⟨c3, c4, c5, c6, c7, c8, c9, c10, c11, c12, rfl, B1, t1⟩
      refine ⟨(by show 12 ≤ sizeLine; decide), fun p np => ?_⟩
      have e1 : Ex H1 (upd H1 p (.lst somes)) := Ex.new np
      have hp : upd H1 p (.lst somes) p = some (.lst somes) := upd_same
      refine ⟨_, rfl, p, rfl, ⟨somes, SqL.of hp⟩, for_list (K := K) (a := p) (xs := somes) (fun i σ H' => ∃ c9, σ = [some (.ref a), some (.ref b), some (.str evl), c3, c4, c5, c6, c7, c8, c9, c10, some (.ref p), c12] ∧ Ex (upd H1 p (.lst somes)) H') ⟨_, rfl, Ex.refl _⟩ (fun i σ H' _ ⟨_, _, e⟩ => SqL.of (e _ _ hp)) ?_ ?_⟩
      · rintro i v σ H2 hi ⟨c9, rfl, e2⟩
        obtain ⟨z, rfl, hz, lo⟩ := okV_of (List.all_eq_true.mp somes_ok.1 v (List.mem_of_getElem? hi))
        exact check rfl (by omega) lo (e2 _ _ (e1 _ _ t1)) fun H' e => ⟨_, rfl, e2.trans e⟩
      · rintro σ H2 ⟨c9, rfl, e2⟩
        exact q _ (e2 _ _ (e1 _ _ t1))
theorem ok_law {f T0 : Addr} {fd : FuncData} (F : Fun K "law" "law" sL06 f fd) (T : TLaw mg) (C : CLaw P w K mg base T0) : FnOk P w K mg base CX0 4 f fd ["_law_script"] (spLaw T0 K) := by
  refine tab_law (T := T0) (ok_law0 F T C) (fun vs H Q E h => ?_) fun vs H Q E h => ?_
  · obtain ⟨a, ns, rfl, _⟩ := h
    rfl
  · obtain ⟨a, ns, rfl, hS, hl, hT, q⟩ := h
    refine ⟨hT, a, ns, rfl, ?_, hl, upd_same, fun H' h' => ⟨h', fun H4 => q H4⟩⟩
    rcases hS with (hS | ⟨o, hS⟩) | hS
    · exact .inl (.inl (by rw [upd_ne (fun e => by rw [e, hT] at hS; cases hS)]; exact hS))
    · exact .inl (.inr ⟨o, by rw [upd_ne (fun e => by rw [e, hT] at hS; cases hS)]; exact hS⟩)
    · exact .inr hS
end
end Vf
namespace Vf
open PySem PySem.Spec PyProof.Rows L2 Evl GxR
/-! ### what the top has written -/
theorem all_mk {l : PySem.W.OpenLaw} {w : World} {K : PySem.W.Frag} {h : Heap} {mg : Str → Option Value} {fa f1 f2 f3 c0 T0 f4 f5 f6 f7 f8 f9 f10 f11 f12 : Addr} (X : K.In h) (G : h.Ns mainGlobals mg) (hfa : mg "law" = some (.ref fa))
    {od1 an1 od2 an2 od3 an3 od0 od4 an4 od5 an5 od6 an6 od7 an7 od8 an8 od9 an9 od10 an10 od11 an11 od12 an12 : Option Addr} {sl1 sl2 sl3 sl0 sl4 sl5 sl6 sl7 sl8 sl9 sl10 sl11 sl12 : Array (Option Value)} {oc1 kV1 dc1 pm1 cd1 ct1 oc2 kV2 dc2 pm2 cd2 ct2 oc3 kV3 dc3 pm3 ct3 oc0 oc4 kV4 dc4 pm4 cd4 ct4 oc5 kV5 dc5 pm5 cd5 ct5 oc6 kV6 dc6 pm6 cd6 ct6 oc7 kV7 dc7 pm7 cd7 ct7 oc8 kV8 dc8 pm8 cd8 ct8 oc9 kV9 dc9 pm9 cd9 ct9 oc10 kV10 dc10 pm10 cd10 ct10 oc11 kV11 dc11 pm11 cd11 ct11 oc12 kV12 dc12 pm12 cd12 ct12 : Value} {t_SIGNS t_BETWEEN t_SUM_TIMES t_SUM_REST : Tok} {vs0 : Array Value}
    (a1 : PySem.W.nsIn K mainGlobals "sum_of" = some (some (.ref f1))) (l1 : K.lookup f1 = some ⟨oc1, od1, .func (PySem.W.fnOf "sum_of" "sum_of" (defArgs sSum) (defBody sSum) (defScope sSum) .none kV1 dc1 pm1 an1 cd1 ct1), sl1⟩) (c1 : PySem.W.codeIn K cd1 "sum_of" = true) (k1 : PySem.W.keepIn K (.ref f1) = true)
    (a2 : PySem.W.nsIn K mainGlobals "letter_of" = some (some (.ref f2))) (l2 : K.lookup f2 = some ⟨oc2, od2, .func (PySem.W.fnOf "letter_of" "letter_of" (defArgs sLet) (defBody sLet) (defScope sLet) .none kV2 dc2 pm2 an2 cd2 ct2), sl2⟩) (c2 : PySem.W.codeIn K cd2 "letter_of" = true) (k2 : PySem.W.keepIn K (.ref f2) = true)
    (a3 : PySem.W.nsIn K mainGlobals "has_only_signs" = some (some (.ref f3))) (l3 : K.lookup f3 = some ⟨oc3, od3, .func (PySem.W.fnOf "has_only_signs" "has_only_signs" (defArgs sHas) (defBody sHas) (defScope sHas) .none kV3 dc3 pm3 an3 (.ref c0) ct3), sl3⟩) (c3 : PySem.W.codeIn K (.ref c0) "has_only_signs" = true) (k3 : PySem.W.keepIn K (.ref f3) = true)
    (lc : K.lookup c0 = some ⟨oc0, od0, .fields vs0, sl0⟩) (v11 : vs0[11]? = some (.ref T0)) (noT : K.lookup T0 = none)
    (a4 : PySem.W.nsIn K mainGlobals "packed" = some (some (.ref f4))) (l4 : K.lookup f4 = some ⟨oc4, od4, .func (PySem.W.fnOf "packed" "packed" (defArgs sPac) (defBody sPac) (defScope sPac) .none kV4 dc4 pm4 an4 cd4 ct4), sl4⟩) (c4 : PySem.W.codeIn K cd4 "packed" = true) (k4 : PySem.W.keepIn K (.ref f4) = true)
    (a5 : PySem.W.nsIn K mainGlobals "unpacked" = some (some (.ref f5))) (l5 : K.lookup f5 = some ⟨oc5, od5, .func (PySem.W.fnOf "unpacked" "unpacked" (defArgs sUnp) (defBody sUnp) (defScope sUnp) .none kV5 dc5 pm5 an5 cd5 ct5), sl5⟩) (c5 : PySem.W.codeIn K cd5 "unpacked" = true) (k5 : PySem.W.keepIn K (.ref f5) = true)
    (a6 : PySem.W.nsIn K mainGlobals "_law_begun" = some (some (.ref f6))) (l6 : K.lookup f6 = some ⟨oc6, od6, .func (PySem.W.fnOf "_law_begun" "_law_begun" (defArgs sBeg) (defBody sBeg) (defScope sBeg) .none kV6 dc6 pm6 an6 cd6 ct6), sl6⟩) (c6 : PySem.W.codeIn K cd6 "_law_begun" = true) (k6 : PySem.W.keepIn K (.ref f6) = true)
    (a7 : PySem.W.nsIn K mainGlobals "_law_take" = some (some (.ref f7))) (l7 : K.lookup f7 = some ⟨oc7, od7, .func (PySem.W.fnOf "_law_take" "_law_take" (defArgs sTak) (defBody sTak) (defScope sTak) .none kV7 dc7 pm7 an7 cd7 ct7), sl7⟩) (c7 : PySem.W.codeIn K cd7 "_law_take" = true) (k7 : PySem.W.keepIn K (.ref f7) = true)
    (a8 : PySem.W.nsIn K mainGlobals "_law_alike" = some (some (.ref f8))) (l8 : K.lookup f8 = some ⟨oc8, od8, .func (PySem.W.fnOf "_law_alike" "_law_alike" (defArgs sAli) (defBody sAli) (defScope sAli) .none kV8 dc8 pm8 an8 cd8 ct8), sl8⟩) (c8 : PySem.W.codeIn K cd8 "_law_alike" = true) (k8 : PySem.W.keepIn K (.ref f8) = true)
    (a9 : PySem.W.nsIn K mainGlobals "_law_packed" = some (some (.ref f9))) (l9 : K.lookup f9 = some ⟨oc9, od9, .func (PySem.W.fnOf "_law_packed" "_law_packed" (defArgs sLpk) (defBody sLpk) (defScope sLpk) .none kV9 dc9 pm9 an9 cd9 ct9), sl9⟩) (c9 : PySem.W.codeIn K cd9 "_law_packed" = true) (k9 : PySem.W.keepIn K (.ref f9) = true)
    (a10 : PySem.W.nsIn K mainGlobals "_law_unpacked" = some (some (.ref f10))) (l10 : K.lookup f10 = some ⟨oc10, od10, .func (PySem.W.fnOf "_law_unpacked" "_law_unpacked" (defArgs sLun) (defBody sLun) (defScope sLun) .none kV10 dc10 pm10 an10 cd10 ct10), sl10⟩) (c10 : PySem.W.codeIn K cd10 "_law_unpacked" = true) (k10 : PySem.W.keepIn K (.ref f10) = true)
    (a11 : PySem.W.nsIn K mainGlobals "_law_otherwise" = some (some (.ref f11))) (l11 : K.lookup f11 = some ⟨oc11, od11, .func (PySem.W.fnOf "_law_otherwise" "_law_otherwise" (defArgs sOth) (defBody sOth) (defScope sOth) .none kV11 dc11 pm11 an11 cd11 ct11), sl11⟩) (c11 : PySem.W.codeIn K cd11 "_law_otherwise" = true) (k11 : PySem.W.keepIn K (.ref f11) = true)
    (a12 : PySem.W.nsIn K mainGlobals "law" = some (some (.ref f12))) (l12 : K.lookup f12 = some ⟨oc12, od12, .func (PySem.W.fnOf "law" "law" (defArgs sL06) (defBody sL06) (defScope sL06) .none kV12 dc12 pm12 an12 cd12 ct12), sl12⟩) (c12 : PySem.W.codeIn K cd12 "law" = true) (k12 : PySem.W.keepIn K (.ref f12) = true)
    (z_list : PySem.W.nsIn K mainGlobals "list" = some none)
    (z_int : PySem.W.nsIn K mainGlobals "int" = some none)
    (z_len : PySem.W.nsIn K mainGlobals "len" = some none)
    (z_bool : PySem.W.nsIn K mainGlobals "bool" = some none)
    (z_str : PySem.W.nsIn K mainGlobals "str" = some none)
    (z_tuple : PySem.W.nsIn K mainGlobals "tuple" = some none)
    (z_isinstance : PySem.W.nsIn K mainGlobals "isinstance" = some none)
    (z_range : PySem.W.nsIn K mainGlobals "range" = some none)
    (z_all : PySem.W.nsIn K mainGlobals "all" = some none)
    (mg_SIGNS : PySem.W.nsIn K mainGlobals "SIGNS" = some (some (.str SGN t_SIGNS)))
    (mg_BETWEEN : PySem.W.nsIn K mainGlobals "BETWEEN" = some (some (.str "|" t_BETWEEN)))
    (mg_SUM_TIMES : PySem.W.nsIn K mainGlobals "SUM_TIMES" = some (some (.int 61 t_SUM_TIMES)))
    (mg_SUM_REST : PySem.W.nsIn K mainGlobals "SUM_REST" = some (some (.int 9973 t_SUM_REST)))
    : ∃ (c T : Addr) (fd : FuncData), PySem.W.tabIn K "has_only_signs" = some (c, T) ∧ K.lookup T = none ∧ (∀ (s : Shared) (v : Value), BindsTo s fd ⟨[v], []⟩ [("_law_script", v)]) ∧ ∀ base : Heap, K.In base → base.Ns mainGlobals mg → TabB base mg c T → FnOk l.prog w K mg base CX0 4 fa fd ["_law_script"] (spLaw T K) := by
  have e := hfa.symm.trans (PySem.W.mg_of X G a12)
  cases e
  have FSum := fun_mk (st := sSum) l1 c1 k1
  have bSum := FSum.binds (ps := ["body"]) fun _ _ _ _ _ _ us hl => match us, hl with | [_], _ => rfl
  have mSum := PySem.W.mg_of X G a1
  have FLet := fun_mk (st := sLet) l2 c2 k2
  have bLet := FLet.binds (ps := ["body"]) fun _ _ _ _ _ _ us hl => match us, hl with | [_], _ => rfl
  have mLet := PySem.W.mg_of X G a2
  have tabH : PySem.W.tabIn K "has_only_signs" = some (c0, T0) := tabIn_of a3 l3 rfl lc v11
  have FHas := fun_mk (st := sHas) l3 c3 k3
  have bHas := FHas.binds (ps := ["body"]) fun _ _ _ _ _ _ us hl => match us, hl with | [_], _ => rfl
  have mHas := PySem.W.mg_of X G a3
  have FPac := fun_mk (st := sPac) l4 c4 k4
  have bPac := FPac.binds (ps := ["fields"]) fun _ _ _ _ _ _ us hl => match us, hl with | [_], _ => rfl
  have mPac := PySem.W.mg_of X G a4
  have FUnp := fun_mk (st := sUnp) l5 c5 k5
  have bUnp := FUnp.binds (ps := ["text"]) fun _ _ _ _ _ _ us hl => match us, hl with | [_], _ => rfl
  have mUnp := PySem.W.mg_of X G a5
  have FBeg := fun_mk (st := sBeg) l6 c6 k6
  have bBeg := FBeg.binds (ps := ["_law_script"]) fun _ _ _ _ _ _ us hl => match us, hl with | [_], _ => rfl
  have mBeg := PySem.W.mg_of X G a6
  have FTak := fun_mk (st := sTak) l7 c7 k7
  have bTak := FTak.binds (ps := ["_law_box", "_law_many"]) fun _ _ _ _ _ _ us hl => match us, hl with | [_, _], _ => rfl
  have mTak := PySem.W.mg_of X G a7
  have FAli := fun_mk (st := sAli) l8 c8 k8
  have bAli := FAli.binds (ps := ["_law_found", "_law_due"]) fun _ _ _ _ _ _ us hl => match us, hl with | [_, _], _ => rfl
  have mAli := PySem.W.mg_of X G a8
  have FLpk := fun_mk (st := sLpk) l9 c9 k9
  have bLpk := FLpk.binds (ps := ["_law_fields"]) fun _ _ _ _ _ _ us hl => match us, hl with | [_], _ => rfl
  have mLpk := PySem.W.mg_of X G a9
  have FLun := fun_mk (st := sLun) l10 c10 k10
  have bLun := FLun.binds (ps := ["_law_text"]) fun _ _ _ _ _ _ us hl => match us, hl with | [_], _ => rfl
  have mLun := PySem.W.mg_of X G a10
  have FOth := fun_mk (st := sOth) l11 c11 k11
  have bOth := FOth.binds (ps := ["_law_box", "_law_text"]) fun _ _ _ _ _ _ us hl => match us, hl with | [_, _], _ => rfl
  have mOth := PySem.W.mg_of X G a11
  have FL06 := fun_mk (st := sL06) l12 c12 k12
  have bL06 := FL06.binds (ps := ["_law_script"]) fun _ _ _ _ _ _ us hl => match us, hl with | [_], _ => rfl
  have mL06 := PySem.W.mg_of X G a12
  have TBeg_ : TBeg mg := ⟨PySem.W.mg_none_of X G z_list, PySem.W.mg_none_of X G z_int, PySem.W.mg_none_of X G z_len⟩
  have TAli_ : TAli mg := ⟨PySem.W.mg_none_of X G z_bool, PySem.W.mg_none_of X G z_int, PySem.W.mg_none_of X G z_str, PySem.W.mg_none_of X G z_list, PySem.W.mg_none_of X G z_tuple, PySem.W.mg_none_of X G z_isinstance, PySem.W.mg_none_of X G z_len, PySem.W.mg_none_of X G z_range⟩
  have TLet_ : TLet mg := ⟨PySem.W.mg_none_of X G z_len, PySem.W.mg_none_of X G z_all, ⟨_, PySem.W.mg_of X G mg_SIGNS⟩, ⟨_, PySem.W.mg_of X G mg_BETWEEN⟩, ⟨_, PySem.W.mg_of X G mg_SUM_TIMES⟩, ⟨_, PySem.W.mg_of X G mg_SUM_REST⟩⟩
  have TLpk_ : TLpk mg := ⟨PySem.W.mg_none_of X G z_len, PySem.W.mg_none_of X G z_str⟩
  have TOth_ : TOth mg := ⟨PySem.W.mg_none_of X G z_len, PySem.W.mg_none_of X G z_int⟩
  have TLaw_ : TLaw mg := ⟨PySem.W.mg_none_of X G z_range, PySem.W.mg_none_of X G z_len⟩
  refine ⟨c0, T0, PySem.W.fnOf "law" "law" (defArgs sL06) (defBody sL06) (defScope sL06) .none kV12 dc12 pm12 an12 cd12 ct12, tabH, noT, fun s v => ?_, fun base _ _ tab => ?_⟩
  case refine_2 =>
    have cBeg : Cal l.prog w K mg base "_law_begun" 1 _ (spBeg K) := ⟨⟨_, _, ok_begun FBeg TBeg_, mBeg, FBeg.kp, bBeg⟩⟩
    have cTak : Cal l.prog w K mg base "_law_take" 1 _ spTak := ⟨⟨_, _, ok_take2 FTak, mTak, FTak.kp, bTak⟩⟩
    have cAli : Cal l.prog w K mg base "_law_alike" 2 _ (spAli K 1) := ⟨⟨_, _, ok_alike FAli TAli_ mAli bAli 1, mAli, FAli.kp, bAli⟩⟩
    have cSum : Cal l.prog w K mg base "sum_of" 1 _ spSum := ⟨⟨_, _, ok_sum FSum TLet_, mSum, FSum.kp, bSum⟩⟩
    have cLet : Cal l.prog w K mg base "letter_of" 2 _ spLet := ⟨⟨_, _, ok_let FLet TLet_ ⟨cSum⟩, mLet, FLet.kp, bLet⟩⟩
    have cHas : Cal l.prog w K mg base "has_only_signs" 1 _ (spHas T0) := ⟨⟨_, _, ok_has l3 c3 tab TLet_, mHas, FHas.kp, bHas⟩⟩
    have cPac : Cal l.prog w K mg base "packed" 3 _ (spPac T0 K) := ⟨⟨_, _, ok_pac FPac TLet_ ⟨cLet, cHas⟩, mPac, FPac.kp, bPac⟩⟩
    have cUnp : Cal l.prog w K mg base "unpacked" 3 _ (spUnp T0) := ⟨⟨_, _, ok_unp FUnp TLet_ ⟨cLet, cHas⟩, mUnp, FUnp.kp, bUnp⟩⟩
    have cLpk : Cal l.prog w K mg base "_law_packed" 1 _ (spLpk K) := ⟨⟨_, _, ok_lpk FLpk TLpk_, mLpk, FLpk.kp, bLpk⟩⟩
    have cLun : Cal l.prog w K mg base "_law_unpacked" 2 _ spLun := ⟨⟨_, _, ok_lun FLun ⟨cLpk⟩, mLun, FLun.kp, bLun⟩⟩
    have cOth : Cal l.prog w K mg base "_law_otherwise" 2 _ spOth := ⟨⟨_, _, ok_oth FOth TOth_ ⟨cTak⟩, mOth, FOth.kp, bOth⟩⟩
    exact ok_law FL06 TLaw_ ⟨cBeg, cTak, cAli, cLun, cOth, cPac, cUnp⟩
  case refine_1 => exact .of_eq rfl
end Vf
open PySem PySem.W PyProof.Rows in
set_option maxRecDepth 100000 in
set_option maxHeartbeats 0 in
theorem PySem.Challenge.cw_attachhall_k06_texts_that_are_no_letter_holds : PySem.Challenge.rw_attachhall_k06_texts_that_are_no_letter.Holds := by
  w_on; o_law; k_head; (case hw => w_witness2)
  k_fill
  refine Vf.walk_tab (l := PySem.Challenge.rw_attachhall_k06_texts_that_are_no_letter) (n := 63) (k := 4) (x := "_law_script") (y := "has_only_signs") (sp := fun T K => Vf.spLaw T K) rfl (by decide) rfl ⟨rfl, by decide, by decide⟩ (by rfl) (fun w h Y => PySem.W.kIn_of Y) ?F (fun T K H a ns hl hT hS => ⟨a, ns, rfl, hS, hl, hT, fun _ => rfl⟩)
  case F =>
    intro w mg fa h KX G hmg
    refine' Vf.all_mk KX G hmg ?a1 ?l1 ?c1 ?k1 ?a2 ?l2 ?c2 ?k2 ?a3 ?l3 ?c3 ?k3 ?lc ?v11 ?noT ?a4 ?l4 ?c4 ?k4 ?a5 ?l5 ?c5 ?k5 ?a6 ?l6 ?c6 ?k6 ?a7 ?l7 ?c7 ?k7 ?a8 ?l8 ?c8 ?k8 ?a9 ?l9 ?c9 ?k9 ?a10 ?l10 ?c10 ?k10 ?a11 ?l11 ?c11 ?k11 ?a12 ?l12 ?c12 ?k12 ?z_list ?z_int ?z_len ?z_bool ?z_str ?z_tuple ?z_isinstance ?z_range ?z_all ?mg_SIGNS ?mg_BETWEEN ?mg_SUM_TIMES ?mg_SUM_REST
    (case a1 => k_is)
    (case l1 => k_is)
    (case c1 => k_is)
    (case k1 => k_is)
    (case a2 => k_is)
    (case l2 => k_is)
    (case c2 => k_is)
    (case k2 => k_is)
    (case a3 => k_is)
    (case l3 => k_is)
    (case c3 => k_is)
    (case k3 => k_is)
    (case lc => k_is)
    (case v11 => rfl)
    (case noT => kernel_rfl)
    (case a4 => k_is)
    (case l4 => k_is)
    (case c4 => k_is)
    (case k4 => k_is)
    (case a5 => k_is)
    (case l5 => k_is)
    (case c5 => k_is)
    (case k5 => k_is)
    (case a6 => k_is)
    (case l6 => k_is)
    (case c6 => k_is)
    (case k6 => k_is)
    (case a7 => k_is)
    (case l7 => k_is)
    (case c7 => k_is)
    (case k7 => k_is)
    (case a8 => k_is)
    (case l8 => k_is)
    (case c8 => k_is)
    (case k8 => k_is)
    (case a9 => k_is)
    (case l9 => k_is)
    (case c9 => k_is)
    (case k9 => k_is)
    (case a10 => k_is)
    (case l10 => k_is)
    (case c10 => k_is)
    (case k10 => k_is)
    (case a11 => k_is)
    (case l11 => k_is)
    (case c11 => k_is)
    (case k11 => k_is)
    (case a12 => k_is)
    (case l12 => k_is)
    (case c12 => k_is)
    (case k12 => k_is)
    (case z_list => k_is)
    (case z_int => k_is)
    (case z_len => k_is)
    (case z_bool => k_is)
    (case z_str => k_is)
    (case z_tuple => k_is)
    (case z_isinstance => k_is)
    (case z_range => k_is)
    (case z_all => k_is)
    (case mg_SIGNS => k_is)
    (case mg_BETWEEN => k_is)
    (case mg_SUM_TIMES => k_is)
    (case mg_SUM_REST => k_is)
#print axioms PySem.Challenge.cw_attachhall_k06_texts_that_are_no_letter_holds
