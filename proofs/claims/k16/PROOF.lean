import PyProof.Rows.All
import Wide.All
import OpenK.AllK
import Wide.FinOn
import HandS.ForMost
import HandS.Evl
import HandS.IsInst
import HandS.FStr
import HandS.StrMore
import HandS.AnyAll
import HandS.Walk
import HandS.Replace
import HandS.EndTab
import HandS.Style
import HandS.Small
import HandS.Flow
import HandS.Star
import HandS.More
import KE.GoesMore
import KE.KUnpackStar
import HandS.NoneIn
import HandS.RaiseMore
import HandS.StrSplit
import PySem.Challenge.RW_attachhall_k16_steps_written
set_option Elab.async false
set_option linter.all false
set_option maxRecDepth 100000
set_option maxHeartbeats 4000000
namespace Vf
open PySem PySem.Spec PyProof.Rows L2 Evl
/-! ### a def of the text that may be called by its name -/
structure Cal (P : Program) (w : World) (K : PySem.W.Frag) (mg : Str → Option Value) (base : Heap) (x : Str) (k : Nat) (ps : List Str) (sp : Sp) : Prop where
  ex : ∃ (f : Addr) (fd : FuncData), FnOk P w K mg base CX0 k f fd ps sp ∧ mg x = some (.ref f) ∧ PySem.W.keepIn K (.ref f) = true ∧ Binds K fd ps []
theorem Cal.mono {P : Program} {w : World} {K : PySem.W.Frag} {mg : Str → Option Value} {base : Heap} {x : Str} {k j : Nat} {ps : List Str} {sp : Sp} (c : Cal P w K mg base x k ps sp) (h : k ≤ j) : Cal P w K mg base x j ps sp := by
  obtain ⟨f, fd, F, a, b, c⟩ := c.ex
  exact ⟨f, fd, F.mono h, a, b, c⟩
theorem Cal.imp {P : Program} {w : World} {K : PySem.W.Frag} {mg : Str → Option Value} {base : Heap} {x : Str} {k : Nat} {ps : List Str} {sp sp' : Sp} (c : Cal P w K mg base x k ps sp)
    (h : ∀ vs H Q E, sp' vs H Q E → sp vs H Q E) : Cal P w K mg base x k ps sp' := by
  obtain ⟨f, fd, F, a, b, c⟩ := c.ex
  exact ⟨f, fd, F.imp h, a, b, c⟩
section
variable {X : Cx} {x : Str} {k : Nat} {ps : List Str} {sp : Sp} {e : Expr} {es : List Expr} {t : TA} {p pos : Pos}
theorem pcall (c : Cal X.prog X.w X.K X.mg X.base x k ps sp) (hr : Room k X.A) (ha : PA X (e :: es) t) (hg : Gl X x := by rfl)
    (hdb : (x == ("__debug__" : Str)) = false := by decide) (he : starEach (e :: es) X.env = (false, eval e X.env) :: starEach es X.env := by rfl) (hpl : (backTo pos (starEach es X.env)).any (·.1) = false := by rfl) :
    PE X (.Call (.Name x p) (e :: es) [] pos) (tCall sp [] E0 t) := by
  obtain ⟨f, fd, F, hm, hk, hb⟩ := c.ex
  exact pe_call F hr hg hm hk hb .nil pass0 ha hdb he hpl
theorem pcall0 (c : Cal X.prog X.w X.K X.mg X.base x k ps sp) (hr : Room k X.A) (hg : Gl X x := by rfl)
    (hdb : (x == ("__debug__" : Str)) = false := by decide) :
    PE X (.Call (.Name x p) [] [] pos) (tCall sp [] E0 tNil) := by
  obtain ⟨f, fd, F, hm, hk, hb⟩ := c.ex
  exact pe_call0 F hr hg hm hk hb .nil pass0 hdb
end
/-! ### a constant of the module -/
section
variable {X : Cx} {x : Str} {pos : Pos}
theorem pgI {i : Int} (h : ∃ t, X.mg x = some (.int i t)) (hg : Gl X x := by rfl) (hdb : (x == ("__debug__" : Str)) = false := by decide) : PE X (.Name x pos) (tC (.int i)) := by
  obtain ⟨t, h⟩ := h
  exact pe_glob hg h ⟨_, rfl⟩ hdb
theorem pgS {i : Str} (h : ∃ t, X.mg x = some (.str i t)) (hg : Gl X x := by rfl) (hdb : (x == ("__debug__" : Str)) = false := by decide) : PE X (.Name x pos) (tC (.str i)) := by
  obtain ⟨t, h⟩ := h
  exact pe_glob hg h ⟨_, rfl⟩ hdb
end
theorem yes_lc {σ : L2.St} {H : Hp} {f g : Hp → Prop} (h : f H) : tYes σ H (fun b H3 => if b = true then f H3 else g H3) := by
  show if true = true then f H else g H
  rw [if_pos rfl]
  exact h
/-! ### two addresses apart, a heap that grows -/
theorem ne_new {H : Hp} {a p : Addr} {o : HO} (h : H a = some o) (n : H p = none) : a ≠ p := ne_of_none h n
theorem ex_set {H H1 : Hp} {p : Addr} {o : HO} (e : Ex H H1) (n : H p = none) : Ex H (upd H1 p o) := Ex.mut e n
/-! ### the box of numbers, hidden: which numbers it holds is left open -/
def lstObj (its : List Value) (n : Nat) : Obj := { cls := .type "list", data := .seq its.toArray n }
def BoxO (b l : Addr) : HO := .ext fun h => ∃ (z : Int) (its : List Value) (n : Nat), Vals [.ref l, .int z] its ∧ h.get? b = some (lstObj its n)
def IntsO (l : Addr) : HO := .ext fun h => ∃ (ns : List Int) (its : List Value) (n : Nat), ns.length ≤ sizeLine ∧ Vals (ns.map V.int) its ∧ h.get? l = some (lstObj its n)
/-- the box stands at b, its numbers at l -/
def Box (H : Hp) (b l : Addr) : Prop := b ≠ l ∧ H b = some (BoxO b l) ∧ H l = some (IntsO l)
theorem Box.ex {H H' : Hp} {b l : Addr} (h : Box H b l) (e : Ex H H') : Box H' b l := ⟨h.1, e _ _ h.2.1, e _ _ h.2.2⟩
def opened (H : Hp) (b l : Addr) (z : Int) (ns : List Int) : Hp := upd (upd H l (.lst (ns.map V.int))) b (.lst [.ref l, .int z])
def closed (H : Hp) (b l : Addr) : Hp := upd (upd H l (IntsO l)) b (BoxO b l)
section
variable {P : Program} {w : World} {H H' : Hp} {h h' : Heap} {b l a : Addr} {z : Int} {ns : List Int}
theorem upd2_ne {o u : HO} (h1 : a ≠ b) (h2 : a ≠ l) : upd (upd H l o) b u a = H a := by rw [upd_ne h1, upd_ne h2]
theorem own_ne {o : HO} {φ : Heap → Prop} (hb : H b = some (.ext φ)) (h : H a = some o) (n : ∀ φ, o ≠ .ext φ) : a ≠ b := by
  rintro rfl
  rw [hb] at h
  exact n _ (Option.some.inj h).symm
theorem hok_open (x : HOk P w H h) (B : Box H b l) : ∃ z ns, HOk P w (opened H b l z ns) h := by
  obtain ⟨hne, hb, hl⟩ := B
  obtain ⟨⟨z, its, n, r, g⟩, _⟩ := (show ObjOk P w H h b (BoxO b l) from x b _ hb)
  obtain ⟨⟨ns, its', n', hz, r', g'⟩, _⟩ := (show ObjOk P w H h l (IntsO l) from x l _ hl)
  refine ⟨z, ns, fun a o e => ?_⟩
  unfold opened at e
  by_cases h1 : a = b
  · subst h1
    rw [upd_same] at e
    cases e
    exact ⟨by show 2 ≤ sizeLine; decide, its, n, r, g⟩
  · rw [upd_ne h1] at e
    by_cases h2 : a = l
    · subst h2
      rw [upd_same] at e
      cases e
      exact ⟨by rw [List.length_map]; exact hz, its', n', r', g'⟩
    · rw [upd_ne h2] at e
      refine (x a o e).stay (fun _ _ _ q => q) (fun c q => ?_) (fun c xs q => ?_)
      · unfold opened
        rw [upd2_ne (own_ne hb q (fun _ z => by cases z)) (own_ne hl q (fun _ z => by cases z))]
        exact q
      · unfold opened
        rw [upd2_ne (own_ne hb q (fun _ z => by cases z)) (own_ne hl q (fun _ z => by cases z))]
        exact q
theorem lst_ne {o : HO} {xs : List V} (hb : H b = some (.lst xs)) (h : H a = some o) (n : ∀ xs, o ≠ .lst xs) : a ≠ b := by
  rintro rfl
  rw [hb] at h
  exact n _ (Option.some.inj h).symm
theorem hok_close (x : HOk P w H h) (hb : H b = some (.lst [.ref l, .int z])) (hl : H l = some (.lst (ns.map V.int))) : HOk P w (closed H b l) h := by
  obtain ⟨_, its, n, r, g⟩ := (show ObjOk P w H h b (.lst _) from x b _ hb)
  obtain ⟨hz, its', n', r', g'⟩ := (show ObjOk P w H h l (.lst _) from x l _ hl)
  intro a o e
  unfold closed at e
  by_cases h1 : a = b
  · subst h1
    rw [upd_same] at e
    cases e
    exact ⟨⟨z, its, n, r, g⟩, ⟨_, g⟩, fun h1 h2 ⟨z, its, n, r, g⟩ k => ⟨z, its, n, r, k _ g⟩⟩
  · rw [upd_ne h1] at e
    by_cases h2 : a = l
    · subst h2
      rw [upd_same] at e
      cases e
      exact ⟨⟨ns, its', n', by rw [List.length_map] at hz; exact hz, r', g'⟩, ⟨_, g'⟩, fun h1 h2 ⟨ns, its, n, hz, r, g⟩ k => ⟨ns, its, n, hz, r, k _ g⟩⟩
    · rw [upd_ne h2] at e
      refine (x a o e).stay (fun _ _ _ q => q) (fun c q => ?_) (fun c xs q => ?_)
      · unfold closed
        rw [upd2_ne (lst_ne hb q (fun _ z => by cases z)) (lst_ne hl q (fun _ z => by cases z))]
        exact q
      · unfold closed
        rw [upd2_ne (lst_ne hb q (fun _ z => by cases z)) (lst_ne hl q (fun _ z => by cases z))]
        exact q
theorem un_hide {fs ex : List Addr} {H2 : Hp} (B : Box H b l) (u : Un fs ex (opened H b l z ns) H2 h h') : Un fs ex H (closed H2 b l) h h' := by
  obtain ⟨hne, hb, hl⟩ := B
  have none_ne : ∀ c, H c = none → c ≠ b ∧ c ≠ l := fun c q => ⟨fun e => (by rw [e, hb] at q; cases q), fun e => (by rw [e, hl] at q; cases q)⟩
  have non : ∀ c, H c = none → opened H b l z ns c = none := fun c q => by
    unfold opened
    rw [upd2_ne (none_ne c q).1 (none_ne c q).2]
    exact q
  have ne2 : ∀ c o, H c = some o → (∀ φ, o ≠ .ext φ) → c ≠ b ∧ c ≠ l := fun c o q n => ⟨own_ne hb q n, own_ne hl q n⟩
  refine ⟨fun c o q n => u.keep c o q (non c n), fun c o q n => u.slot c o q (non c n), fun c o q n hx => ?_, u.there, fun c xs q => ?_, fun c o v q => ?_, fun c ps q => ?_⟩
  · unfold closed
    rw [upd2_ne (none_ne c n).1 (none_ne c n).2]
    exact u.free c o q (non c n) hx
  · have d := ne2 c _ q (fun _ z => by cases z)
    unfold closed
    rw [upd2_ne d.1 d.2]
    exact u.tups c xs (by unfold opened; rw [upd2_ne d.1 d.2]; exact q)
  · have d := ne2 c _ q (fun _ z => by cases z)
    unfold closed
    rw [upd2_ne d.1 d.2]
    exact u.frzs c o v (by unfold opened; rw [upd2_ne d.1 d.2]; exact q)
  · have d := ne2 c _ q (fun _ z => by cases z)
    unfold closed
    rw [upd2_ne d.1 d.2]
    exact u.tbls c ps (by unfold opened; rw [upd2_ne d.1 d.2]; exact q)
theorem ex_new2 {H2 : Hp} (e : Ex H H2) (n1 : H b = none) (n2 : H l = none) : Ex H (closed H2 b l) := fun c o q => by
  have d1 : c ≠ b := ne_of_none q n1
  have d2 : c ≠ l := ne_of_none q n2
  unfold closed
  rw [upd2_ne d1 d2]
  exact e c o q
theorem un_new {fs : List Addr} {H2 : Hp} (u : Un fs [] H H2 h h') (n1 : H b = none) (n2 : H l = none) (hb : H2 b = some (.lst [.ref l, .int z])) (hl : H2 l = some (.lst (ns.map V.int))) : Un fs [] H (closed H2 b l) h h' := by
  have old : ∀ c o, h.get? c = some o → H c = none → c ≠ b ∧ c ≠ l := fun c o q n => by
    have f := u.free c o q n (by simp)
    exact ⟨fun e => (by rw [e, hb] at f; cases f), fun e => (by rw [e, hl] at f; cases f)⟩
  have ne2 : ∀ c o, H c = some o → c ≠ b ∧ c ≠ l := fun c o q => ⟨ne_of_none q n1, ne_of_none q n2⟩
  refine ⟨u.keep, u.slot, fun c o q n hx => ?_, u.there, fun c xs q => ?_, fun c o v q => ?_, fun c ps q => ?_⟩
  · unfold closed
    rw [upd2_ne (old c o q n).1 (old c o q n).2]
    exact u.free c o q n hx
  · have d := ne2 c _ q
    unfold closed
    rw [upd2_ne d.1 d.2]
    exact u.tups c xs q
  · have d := ne2 c _ q
    unfold closed
    rw [upd2_ne d.1 d.2]
    exact u.frzs c o v q
  · have d := ne2 c _ q
    unfold closed
    rw [upd2_ne d.1 d.2]
    exact u.tbls c ps q
theorem ex_hide {H2 : Hp} (B : Box H b l) (e : ∀ c o, c ≠ b → c ≠ l → H c = some o → H2 c = some o) : Ex H (closed H2 b l) := by
  obtain ⟨hne, hb, hl⟩ := B
  intro c o q
  unfold closed
  by_cases h1 : c = b
  · subst h1
    rw [upd_same, ← hb]
    exact q
  · rw [upd_ne h1]
    by_cases h2 : c = l
    · subst h2
      rw [upd_same, ← hl]
      exact q
    · rw [upd_ne h2]
      exact e c o h1 h2 q
end
/-- what a def that works upon the open box promises -/
def spOpen (R : V → Prop) (pre : List V → Prop) : Sp := fun vs H Q _ => ∃ (b l : Addr) (z : Int) (ns : List Int) (rest : List V), vs = .ref b :: rest ∧ pre rest ∧ b ≠ l ∧ H b = some (.lst [.ref l, .int z]) ∧ H l = some (.lst (ns.map V.int)) ∧
  ∀ (v : V) (H' : Hp) (z' : Int) (ns' : List Int), R v → (∀ c o, c ≠ b → c ≠ l → H c = some o → H' c = some o) → H' b = some (.lst [.ref l, .int z']) → H' l = some (.lst (ns'.map V.int)) → Q v H'
/-- what it promises where the box is hidden -/
def spHid (R : V → Prop) (pre : List V → Prop) : Sp := fun vs H Q _ => ∃ (b l : Addr) (rest : List V), vs = .ref b :: rest ∧ pre rest ∧ Box H b l ∧ ∀ (v : V) (H' : Hp), R v → Ex H H' → Q v H'
section
variable {P : Program} {w : World} {K : PySem.W.Frag} {mg : Str → Option Value} {base : Heap}
theorem hide_fn {k : Nat} {f : Addr} {fd : FuncData} {ps : List Str} {R : List V → V → Prop} {pre : List V → Prop} (F : ∀ r0, pre r0 → FnOk P w K mg base CX0 k f fd ps (spOpen (R r0) fun r => r = r0)) (hl : ∀ r, pre r → r.length + 1 = ps.length) :
    FnOk P w K mg base CX0 k f fd ps (fun vs H Q _ => ∃ (b l : Addr) (rest : List V), vs = .ref b :: rest ∧ pre rest ∧ Box H b l ∧ ∀ (v : V) (H' : Hp), R rest v → Ex H H' → Q v H') := by
  refine ⟨fun vs H Q E h => ?_, fun A outer s H args us vs Q E hr e0 hb hv h => ?_⟩
  · obtain ⟨b, l, rest, rfl, hp, _⟩ := h
    exact hl _ hp
  · obtain ⟨b, l, rest, rfl, hp, B, q⟩ := h
    obtain ⟨z, ns, ok⟩ := hok_open e0.hok B
    have non : ∀ c, H c = none → opened H b l z ns c = none := fun c n => by
      have h1 : c ≠ b := fun e => by rw [e, B.2.1] at n; cases n
      have h2 : c ≠ l := fun e => by rw [e, B.2.2] at n; cases n
      unfold opened
      rw [upd2_ne h1 h2]
      exact n
    have e1 : Env0 P w K mg base A outer s (opened H b l z ns) := ⟨e0.frames, e0.mod, fun c o g => ⟨(e0.bs c o g).1, non c (e0.bs c o g).2⟩, e0.bsz, e0.funs, fun c g => non c (e0.frf c g), ok, e0.bare⟩
    refine codeAny_mono ((F rest hp).run A outer s (opened H b l z ns) args us (.ref b :: rest) (fun v H2 => Q v (closed H2 b l) ∧ ∃ z ns, H2 b = some (.lst [.ref l, .int z]) ∧ H2 l = some (.lst (ns.map V.int))) E hr e1 hb hv ⟨b, l, z, ns, rest, rfl, rfl, B.1, upd_same, ?_, fun v H' z' ns' hR hk h1 h2 => ⟨?_, z', ns', h1, h2⟩⟩) fun r s' hq => ?_
    · unfold opened
      rw [upd_ne (Ne.symm B.1), upd_same]
    · refine q v _ hR (ex_hide B fun c o h1 h2 g => hk c o h1 h2 ?_)
      unfold opened
      rw [upd2_ne h1 h2]
      exact g
    · cases r with
      | error e => exact hq
      | ok fl =>
        cases fl with
        | ret u =>
          obtain ⟨v, H2, os, bare, un, hok, rv, q2, z2, ns2, hb2, hl2⟩ := hq
          exact ⟨v, closed H2 b l, os, bare, un_hide B un, hok_close hok hb2 hl2, rv, q2⟩
        | next => exact hq
        | brk => exact hq
        | cont => exact hq
end
end Vf
namespace Vf
open PySem PySem.Spec PyProof.Rows L2 Evl
/-! ### data -/
theorem sq_ex {K : PySem.W.Frag} {H H' : Hp} {a : Addr} {xs : List V} (e : Ex H H') (h : SqL K H a xs) : SqL K H' a xs := ex_l e h
theorem dp_ints {K : PySem.W.Frag} {H : Hp} : ∀ ns : List Int, DpAll K H (ns.map V.int) (ns.map PyData.int)
  | [] => .nil
  | n :: r => .cons (.int n) (dp_ints r)
theorem dp_strs {K : PySem.W.Frag} {H : Hp} : ∀ ns : List Str, DpAll K H (ns.map V.str) (ns.map PyData.str)
  | [] => .nil
  | n :: r => .cons (.str n) (dp_strs r)
theorem flat_ints : ∀ ns : List Int, (PyData.canLayAll0 (ns.map PyData.int) = true) ∧ PyData.depthAll (ns.map PyData.int) = 0
  | [] => ⟨rfl, rfl⟩
  | n :: r => by
    obtain ⟨h1, h2⟩ := flat_ints r
    refine ⟨?_, ?_⟩
    · show (true && PyData.canLayAll0 (r.map PyData.int)) = true
      rw [h1]; rfl
    · show max 0 (PyData.depthAll (r.map PyData.int)) = 0
      rw [h2]; rfl
theorem sh_ints (ns : List Int) : SeqAt.shaped (.list (ns.map PyData.int)) = true := by
  obtain ⟨h1, h2⟩ := flat_ints ns
  show (PyData.canLayAll0 (ns.map PyData.int) && decide (PyData.depthAll (ns.map PyData.int) + 1 ≤ 64)) = true
  rw [h1, h2]; rfl
def good : Nat → PyData → Bool
  | _, .none => true
  | _, .bool _ => true
  | _, .int _ => true
  | _, .str x => PyData.canLay0 (.str x)
  | _, .dict _ => false
  | 0, .list _ => false
  | 0, .tuple _ => false
  | n + 1, .list xs => decide (xs.length ≤ 16777216) && xs.all (good n)
  | n + 1, .tuple xs => decide (xs.length ≤ 16777216) && xs.all (good n)
theorem good_all {n : Nat} (ih : ∀ d, good n d = true → PyData.canLay0 d = true ∧ PyData.depth d ≤ n) : ∀ xs : List PyData, xs.all (good n) = true → PyData.canLayAll0 xs = true ∧ PyData.depthAll xs ≤ n
  | [], _ => ⟨rfl, Nat.zero_le _⟩
  | x :: r, h => by
    rw [List.all_cons, Bool.and_eq_true] at h
    obtain ⟨h1, h2⟩ := ih x h.1
    obtain ⟨h3, h4⟩ := good_all ih r h.2
    refine ⟨?_, Nat.max_le.mpr ⟨h2, h4⟩⟩
    show (PyData.canLay0 x && PyData.canLayAll0 r) = true
    rw [h1, h3]; rfl
theorem good_lay : ∀ (n : Nat) (d : PyData), good n d = true → PyData.canLay0 d = true ∧ PyData.depth d ≤ n
  | n, .none, _ => ⟨rfl, Nat.zero_le _⟩
  | n, .bool _, _ => ⟨rfl, Nat.zero_le _⟩
  | n, .int _, _ => ⟨rfl, Nat.zero_le _⟩
  | n, .str x, h => ⟨by cases n <;> exact h, Nat.zero_le _⟩
  | n, .dict _, h => by cases n <;> cases h
  | 0, .list _, h => by cases h
  | 0, .tuple _, h => by cases h
  | n + 1, .list xs, h => by
    obtain ⟨h1, h2⟩ := good_all (good_lay n) xs (Bool.and_eq_true_iff.mp (show (decide (xs.length ≤ 16777216) && xs.all (good n)) = true from h)).2
    exact ⟨h1, Nat.succ_le_succ h2⟩
  | n + 1, .tuple xs, h => by
    obtain ⟨h1, h2⟩ := good_all (good_lay n) xs (Bool.and_eq_true_iff.mp (show (decide (xs.length ≤ 16777216) && xs.all (good n)) = true from h)).2
    exact ⟨h1, Nat.succ_le_succ h2⟩
theorem sh_of' {d : PyData} {n : Nat} (h : good n d = true) (hn : n ≤ 60) : SeqAt.shaped d = true := by
  obtain ⟨h1, h2⟩ := good_lay n d h
  show (PyData.canLay0 d && decide (PyData.depth d ≤ 64)) = true
  rw [h1, decide_eq_true (by omega)]
  rfl
theorem good_get {n : Nat} {xs : List PyData} {i : Nat} {d : PyData} (h : (decide (xs.length ≤ 16777216) && xs.all (good n)) = true) (e : xs[i]? = some d) : good n d = true :=
  List.all_eq_true.mp (Bool.and_eq_true_iff.mp h).2 d (List.mem_of_getElem? e)
theorem good_len {n : Nat} {xs : List PyData} (h : (decide (xs.length ≤ 16777216) && xs.all (good n)) = true) : xs.length ≤ 16777216 := of_decide_eq_true (Bool.and_eq_true_iff.mp h).1
theorem seq0 {α : Type} (x : α) (r : List α) : seqIndex? 0 (x :: r).length = some 0 := by
  have h : (0 : Int) < ((x :: r).length : Nat) := by rw [List.length_cons]; omega
  have e : (seqIndex? 0 (x :: r).length) = (if decide ((0 : Int) ≤ 0) && decide ((0 : Int) < ((x :: r).length : Nat)) then some (0 : Int).toNat else none) := rfl
  rw [e, decide_eq_true h]
  rfl
theorem eqv_nil (ns : List Int) : PyData.eqv (.list (ns.map PyData.int)) (.list []) = decide (ns = []) := by
  cases ns with
  | nil => rfl
  | cons n r => rfl
end Vf
namespace Vf
open PySem PySem.Spec PyProof.Rows L2 Evl
theorem at_ix {α : Type} {xs : List α} {z : Int} {j : Nat} {v : α} (e : z = (j : Int)) (h : xs[j]? = some v) : atI xs z = some v := by
  rw [e]
  exact atI_nat h
/-! ### texts by their signs -/
def txt (l : List Nat) : Str := ⟨l.toArray⟩
theorem txt_len (l : List Nat) : (txt l).length = l.length := by show l.toArray.size = _; simp
theorem txt_cps (l : List Nat) : (txt l).cps.toList = l := by show l.toArray.toList = l; simp
theorem txt_of (z : Str) : txt z.cps.toList = z := by cases z; simp [txt]
theorem txt_app (a b : List Nat) : txt a ++ txt b = txt (a ++ b) := by
  show (⟨a.toArray ++ b.toArray⟩ : Str) = ⟨(a ++ b).toArray⟩
  rw [List.append_toArray]
theorem str_len (z : Str) : z.cps.toList.length = z.length := by show _ = z.cps.size; simp
/-- a text of one sign -/
def sg (c : Nat) : Str := ⟨#[c]⟩
theorem glue0 : ∀ (r : List Nat) (acc : Array Nat), (r.map sg).foldl (fun (acc : Array Nat) (p : Str) => acc ++ (#[] : Array Nat) ++ p.cps) acc = acc ++ r.toArray
  | [], acc => by simp
  | c :: r, acc => by
    rw [List.map_cons, List.foldl_cons, glue0 r]
    show acc ++ #[] ++ #[c] ++ r.toArray = _
    apply Array.toList_inj.mp
    simp
theorem join0 (cs : List Nat) : Txt.join ⟨#[]⟩ (cs.map sg) = txt cs := by
  cases cs with
  | nil => rfl
  | cons c r =>
    show (⟨(r.map sg).foldl (fun (acc : Array Nat) (p : Str) => acc ++ (#[] : Array Nat) ++ p.cps) #[c]⟩ : Str) = _
    rw [glue0]
    show (⟨#[c] ++ r.toArray⟩ : Str) = ⟨(c :: r).toArray⟩
    congr 1
    apply Array.toList_inj.mp
    simp
theorem sg_sum : ∀ cs : List Nat, ((cs.map sg).map (fun y => y.length)).sum = cs.length
  | [] => rfl
  | c :: r => by
    rw [List.map_cons, List.map_cons, List.sum_cons, sg_sum r, List.length_cons]
    show 1 + r.length = _
    omega
/-- the text that a statement binds -/
def litOf : Stmt → Str
  | .Assign _ (.Constant (.str x) _ _) _ => x
  | _ => ⟨#[]⟩
theorem lay_str {z : Str} (h : ∀ c ∈ z.cps.toList, c < 128) : PyData.canLay0 (.str z) = true := by
  show z.cps.all (fun c => decide (c < 0x110000)) = true
  rw [Array.all_eq_true]
  intro i hi
  exact decide_eq_true (Nat.lt_trans (h _ (by simp)) (by decide))
end Vf
namespace Vf
open PySem PySem.Spec PyProof.Rows L2 Evl
/-! ### a text many times -/
theorem rep_fold (c : Array Nat) : ∀ (n : Nat) (acc : Array Nat), ((List.replicate n c).foldl (fun a b => a ++ b) acc).toList = acc.toList ++ (List.replicate n c.toList).flatten
  | 0, acc => by simp
  | n + 1, acc => by
    rw [List.replicate_succ, List.foldl_cons, rep_fold c n, List.replicate_succ, List.flatten_cons]
    simp
theorem mul_cps (x : Str) (n : Nat) : (Txt.mul x (n : Int)).cps.toList = (List.replicate n x.cps.toList).flatten := by
  unfold Txt.mul
  by_cases h0 : n = 0
  · subst h0
    rfl
  · rw [if_neg (by omega)]
    by_cases h1 : ((n : Int) == 1 || x.length == 0) = true
    · rw [if_pos h1]
      rw [Bool.or_eq_true] at h1
      rcases h1 with h1 | h1
      · have e : n = 1 := by have := eq_of_beq h1; omega
        subst e
        simp
      · have e : x.cps.toList = [] := by
          have := eq_of_beq h1
          rw [← List.length_eq_zero_iff, str_len]
          exact this
        rw [e]
        simp
    · rw [if_neg h1, Int.toNat_natCast, rep_fold]
      simp
theorem mul_sg (c n : Nat) : Txt.mul (sg c) (n : Int) = txt (List.replicate n c) := by
  have h := mul_cps (sg c) n
  have e : (sg c).cps.toList = [c] := rfl
  rw [e] at h
  rw [← txt_of (Txt.mul (sg c) (n : Int)), h]
  congr 1
  induction n with
  | zero => rfl
  | succ n ih => rw [List.replicate_succ, List.flatten_cons, List.replicate_succ]; simp
theorem mul_ok {x : Str} {n : Int} (hx : x.length ≤ 1000) (h0 : 0 ≤ n) (h1 : n ≤ 10000) : MulOk x n := by
  refine ⟨?_, fun h _ z => ?_, fun h _ => ?_⟩
  · rw [decide_eq_false (by omega), decide_eq_false (by omega)]
    rfl
  · have : (1000 : Int) ≤ (2 ^ 63 - 1) / n := (Int.le_ediv_iff_mul_le (by omega)).mpr (by omega)
    omega
  · have : x.length * n.toNat ≤ 1000 * 10000 := Nat.mul_le_mul hx (by omega)
    unfold Builtin.Str.tooLong
    exact decide_eq_false (by
      have e : sizeLine = 16777216 := by decide
      omega)
section
variable {X : Cx}
theorem op_mulS : OpR X (binaryOp .Mult) (fun x y H Q => ∃ (z : Str) (n : Int), x = .str z ∧ y = .int n ∧ z.length ≤ 1000 ∧ 0 ≤ n ∧ n ≤ 10000 ∧ Q (.str (Txt.mul z n)) H) := by
  intro pins s σ H x y v u Q I rx ry h
  obtain ⟨z, n, rfl, rfl, hz, h0, h1, q⟩ := h
  obtain ⟨t, rfl⟩ := rx
  obtain ⟨t', rfl⟩ := ry
  exact SB.mul (mul_ok hz h0 h1) fun t' tk => ⟨.str (Txt.mul z n), H, I.tok _, ⟨_, rfl⟩, q⟩
end
end Vf
namespace Vf
open PySem PySem.Spec PyProof.Rows L2 Evl
/-! ### slices of texts -/
theorem cutS_first {z : Str} {w : Nat} : cutS z none (some (w : Int)) = ⟨(z.cps.toList.take w).toArray⟩ := by
  unfold cutS
  have hz : z.length = z.cps.toList.length := by show z.cps.size = _; simp
  rw [HT.sIx_nat, HT.sIx_none, List.drop_zero, Nat.sub_zero]
  congr 2
  by_cases hh : w ≤ z.length
  · rw [Nat.min_eq_left hh]
  · rw [Nat.min_eq_right (by omega), List.take_of_length_le (by omega), List.take_of_length_le (by omega)]
theorem cutS_rest {z : Str} {w : Nat} : cutS z (some (w : Int)) none = ⟨(z.cps.toList.drop w).toArray⟩ := by
  unfold cutS
  have hz : z.length = z.cps.toList.length := by show z.cps.size = _; simp
  rw [HT.sIx_nat, HT.sIx_none]
  congr 1
  by_cases hh : w ≤ z.length
  · rw [Nat.min_eq_left hh, List.take_of_length_le (by rw [List.length_drop]; omega)]
  · rw [Nat.min_eq_right (by omega), Nat.sub_self, List.take_zero, List.drop_eq_nil_of_le (by omega)]
end Vf
namespace Vf
open PySem PySem.Spec PyProof.Rows L2 Evl
/-! ### a text cut at its last sign of a kind -/
section
variable {X : Cx}
theorem mt_rpart : MtR X "str.rpartition" (fun x xs H Q => ∃ a b : Str, x = .str a ∧ xs = [.str b] ∧ (b.length == 0) = false ∧ a.length ≤ sizeLine ∧
    ∀ p, H p = none → Q (.ref p) (upd H p (.tup [.str (Txt.rpartition a b).1, .str (Txt.rpartition a b).2.1, .str (Txt.rpartition a b).2.2]))) := by
  rintro pins s σ H x xs v us Q I rx rs ⟨a, b, rfl, rfl, hb, hz, h⟩
  obtain ⟨ta, rfl⟩ := rx
  obtain ⟨u, rfl, tb, rfl⟩ := vals1 rs
  refine call_meets PySem.F.slot_str_rpartition (typeIs_str _ _ _) PySem.F.entry_str_rpartition (PySem.F.args_str_rpartition_2 _ _) (meets_str_rpartition a b ta tb hb hz) ?_
  revert h
  unfold Txt.rpartition
  cases Builtin.Str.lastOccurrence a b 0 a.length with
  | none => exact fun h => laid_parts I h
  | some i => exact fun h => laid_parts I h
end
/-- what stands behind the last c -/
def behind (c : Nat) (l : List Nat) : List Nat := (l.reverse.takeWhile fun x => decide (x ≠ c)).reverse
theorem behind_none {c : Nat} {l : List Nat} (h : c ∉ l) : behind c l = l := by
  unfold behind
  have e : l.reverse.takeWhile (fun x => decide (x ≠ c)) = l.reverse := by
    have q := List.takeWhile_append_of_pos (p := fun x => decide (x ≠ c)) (l₁ := l.reverse) (l₂ := []) (fun x hx => decide_eq_true fun e => h (by rw [← e]; exact List.mem_reverse.mp hx))
    simpa using q
  rw [e, List.reverse_reverse]
theorem behind_app {c : Nat} {a b : List Nat} (h : c ∉ b) : behind c (a ++ c :: b) = b := by
  unfold behind
  rw [List.reverse_append, List.reverse_cons, List.append_assoc]
  have e : ((b.reverse ++ ([c] ++ a.reverse)).takeWhile fun x => decide (x ≠ c)) = b.reverse := by
    rw [List.takeWhile_append_of_pos]
    · simp
    · intro x hx
      exact decide_eq_true fun e => h (by rw [← e]; exact List.mem_reverse.mp hx)
  rw [e, List.reverse_reverse]
theorem pre1 (c : Nat) (l : List Nat) : TL.pre [c] l = true ↔ ∃ r, l = c :: r := by
  unfold TL.pre
  cases l with
  | nil => simp
  | cons x r =>
    have e : (x :: r).take [c].length = [x] := rfl
    rw [e]
    constructor
    · intro h
      have := eq_of_beq h
      cases this
      exact ⟨r, rfl⟩
    · rintro ⟨r', h⟩
      cases h
      simp
theorem rpart_behind (x : Str) (c : Nat) : (Txt.rpartition x (sg c)).2.2 = txt (behind c x.cps.toList) := by
  have hne : TL.tl (sg c) ≠ [] := fun h => nomatch (show ([c] : List Nat) = [] from h)
  unfold Txt.rpartition
  rcases StrLaws.last_spec x (sg c) with ⟨e, h⟩ | ⟨i, e, h, h2⟩
  · rw [e]
    show x = txt (behind c x.cps.toList)
    rw [behind_none, txt_of]
    intro hm
    obtain ⟨i, hi, ei⟩ := List.getElem_of_mem hm
    refine h i ((TL.at_iff hne i).mpr ((pre1 c _).mpr ⟨x.cps.toList.drop (i + 1), ?_⟩))
    show x.cps.toList.drop i = _
    rw [List.drop_eq_getElem_cons hi, ei]
  · rw [e]
    show Builtin.Str.strSub x (i + (sg c).length) x.length = _
    refine TL.ext_tl ?_
    rw [TL.tl_strSub_end]
    show x.cps.toList.drop (i + 1) = (txt (behind c x.cps.toList)).cps.toList
    rw [txt_cps]
    obtain ⟨r, er⟩ := (pre1 c _).mp ((TL.at_iff hne i).mp h)
    have er2 : x.cps.toList.drop i = c :: r := er
    have e3 : x.cps.toList.drop (i + 1) = r := by
      have : (x.cps.toList.drop i).drop 1 = r := by rw [er2]; rfl
      rw [List.drop_drop] at this
      exact this
    rw [e3]
    have hr : c ∉ r := fun hm => by
      obtain ⟨j, hj, ej⟩ := List.getElem_of_mem hm
      refine h2 (i + 1 + j) (by omega) ((TL.at_iff hne _).mpr ((pre1 c _).mpr ⟨r.drop (j + 1), ?_⟩))
      show x.cps.toList.drop (i + 1 + j) = _
      rw [← List.drop_drop, e3, List.drop_eq_getElem_cons hj, ej]
    have e4 : x.cps.toList = x.cps.toList.take i ++ c :: r := by rw [← er2, List.take_append_drop]
    rw [e4, behind_app hr]
theorem cutS_butlast (z : Str) : cutS z none (some (-1)) = txt z.cps.toList.dropLast := by
  unfold cutS
  have hz : z.length = z.cps.toList.length := (str_len z).symm
  have e : HT.sIx z.length z.length (some (-1)) = z.length - 1 := by
    show (if (-1 : Int) < 0 then ((-1 : Int) + (z.length : Int)).toNat else min (-1 : Int).toNat z.length) = _
    rw [if_pos (by decide)]
    omega
  rw [e, HT.sIx_none, List.drop_zero, Nat.sub_zero, hz, List.dropLast_eq_take]
  rfl
/-! ### places of signs -/
def ixS (z : Str) (c : Nat) : Nat := (Builtin.Str.occurrences z (sg c) 0 z.length 1).headD 0
theorem ix_cons {z : Str} {c : Nat} (h : c ∈ z.cps.toList) : ∃ r, Builtin.Str.occurrences z (sg c) 0 z.length 1 = ixS z c :: r := by
  have q := StrLaws.found_one z c
  rw [decide_eq_true h] at q
  unfold ixS
  have q2 : (!(Builtin.Str.occurrences z (sg c) 0 z.length 1).isEmpty) = true := q
  cases e : Builtin.Str.occurrences z (sg c) 0 z.length 1 with
  | nil => rw [e] at q2; cases q2
  | cons i r => exact ⟨r, rfl⟩
/-- a number's text -/
theorem num_txt (n : Nat) : (Str.ofString (toString ((n : Nat) : Int)) : Str) = txt (TL.numL n) := TL.ext_tl (by rw [TL.tl_num]; exact (txt_cps _).symm)
theorem mem_joinL {S : List Nat} : ∀ {ps : List (List Nat)} {c : Nat}, c ∈ TL.joinL S ps → c ∈ S ∨ ∃ p ∈ ps, c ∈ p
  | [], c, h => by simp [TL.joinL] at h
  | [p], c, h => by
    have h2 : c ∈ p := by simpa [TL.joinL] using h
    exact .inr ⟨p, by simp, h2⟩
  | p :: q :: r, c, h => by
    have h2 : c ∈ p ++ (S ++ TL.joinL S (q :: r)) := by simpa [TL.joinL] using h
    rcases List.mem_append.mp h2 with h2 | h2
    · exact .inr ⟨p, List.mem_cons_self, h2⟩
    · rcases List.mem_append.mp h2 with h2 | h2
      · exact .inl h2
      · rcases mem_joinL h2 with h3 | ⟨x, hx, h3⟩
        · exact .inl h3
        · exact .inr ⟨x, List.mem_cons_of_mem _ hx, h3⟩
theorem log_small {n : Nat} (h : n < 10000000) : ((n : Nat) : Int).natAbs.log2 < 1920 := by
  rw [Int.natAbs_natCast]
  by_cases h0 : n = 0
  · subst h0
    decide
  · exact Nat.lt_of_lt_of_le ((Nat.log2_lt h0).mpr (show n < 2 ^ 24 from Nat.lt_trans h (by decide))) (by decide)
end Vf
namespace Vf
open PySem PySem.Spec PyProof.Rows L2 Evl
/-! ### a text from behind -/
def tRevS (te : TE) : TE := fun σ H Q => te σ H fun x H1 => ∃ z : Str, x = .str z ∧ z.length ≤ sizeLine ∧ ∀ y : Str, y.length ≤ z.length → (∀ c ∈ y.cps.toList, c ∈ z.cps.toList) → Q (.str y) H1
theorem pick_mem {c : Array Nat} {l : List Nat} {x : Nat} (h : x ∈ l.filterMap fun i => c[i]?) : x ∈ c.toList := by
  obtain ⟨i, _, hi⟩ := List.mem_filterMap.mp h
  obtain ⟨h1, h2⟩ := Array.getElem?_eq_some_iff.mp hi
  rw [← h2]
  exact Array.mem_toList_iff.mpr (Array.getElem_mem h1)
section
variable {X : Cx}
theorem pe_revS {e : Expr} {te : TE} {k : Nat} {p1 p2 p3 pos : Pos} (he : PE X e te) : PE X (.Subscript e (.Slice none none (some (.UnaryOp .USub (.Constant (.int 1) k p1) p2)) p3) pos) (tRevS te) := by
  refine ⟨fun pins s σ H Q I h => Subscript_ (thn (he.run pins s σ H _ I h) ?_)⟩
  rintro v sa ⟨x, Ha, Ia, rx, z, rfl, hz, q⟩
  obtain ⟨t, rfl⟩ := id rx
  refine wpAny_Slice (thn (po_none.run pins sa σ Ha (fun o J => o = none ∧ J = Ha) Ia ⟨rfl, rfl⟩) ?_)
  rintro vl sb ⟨l, Hb, Ib, pl, rfl, rfl⟩
  refine thn (po_none.run pins sb σ Hb (fun o J => o = none ∧ J = Hb) Ib ⟨rfl, rfl⟩) ?_
  rintro vu sc ⟨u, Hc, Ic, pu, rfl, rfl⟩
  refine thn ((po_some (pe_un un_neg pe_int)).run pins sc σ Hc (fun o J => o = some (-1) ∧ J = Hc) Ic ⟨1, rfl, -1, rfl, rfl, rfl⟩) ?_
  rintro vs sd ⟨o, Hd, Id, ps, rfl, rfl⟩
  have Ie : Inv X pins σ Hd { sd with heap := sd.heap.push { cls := .type "slice", data := .fields #[vl, vu, vs] } } := Id.kept (t' := sd.toks) fun b ob g => Heap.get?_push_of_some _ g
  obtain ⟨l2, rfl, el⟩ := IsPart.raw pl
  obtain ⟨u2, rfl, eu⟩ := IsPart.raw pu
  obtain ⟨o2, rfl, eo⟩ := IsPart.raw ps
  have el2 : l2 = none := by cases l2 with | none => rfl | some _ => cases el
  have eu2 : u2 = none := by cases u2 with | none => rfl | some _ => cases eu
  subst el2 eu2
  show wpAny (model X.prog X.w) X.A (subscriptTail e (.Slice none none (some (.UnaryOp .USub (.Constant (.int 1) k p1) p2)) p3) (.str z t) (.ref sd.heap.objs.size)) (EP X pins σ Q) X.xe _
  refine tail_any (ops := [.ref sd.heap.objs.size, .str z t]) (typeIs_str _ _ _) PySem.F.slot_str_getitem.lookup ?_ (by with_unfolding_all rfl)
  refine wpAny_getItem_str_slice (l := none) (u := none) (st := o2) ⟨_, Heap.get?_push_size _ rfl, rfl, rfl⟩ (by rw [eo]; rfl) ?_
  have hlen : (Builtin.Str.strSliceIndices none none (-1) z.length).length = z.length := by rw [PyProof.Rows.picked_rev, List.length_map, List.length_range]
  have hpick : slicePicked z none none o2 = Builtin.Str.strSliceIndices none none (-1) z.length := by
    unfold slicePicked
    rw [eo]
    rfl
  have hm : sliceMade z t none none o2 = Made.str ⟨((Builtin.Str.strSliceIndices none none (-1) z.length).filterMap fun i => z.cps[i]?).toArray⟩ := by
    unfold sliceMade
    rw [hpick, eo]
    rfl
  rw [hm]
  have h1 : (⟨((Builtin.Str.strSliceIndices none none (-1) z.length).filterMap fun i => z.cps[i]?).toArray⟩ : Str).length ≤ z.length := by
    show (List.toArray _).size ≤ _
    rw [List.size_toArray]
    exact Nat.le_trans (List.length_filterMap_le _ _) (Nat.le_of_eq hlen)
  refine ⟨Nat.le_trans h1 hz, .str _, Hd, Ie.tok _, ⟨_, rfl⟩, q _ h1 fun c hc => ?_⟩
  have e : (⟨((Builtin.Str.strSliceIndices none none (-1) z.length).filterMap fun i => z.cps[i]?).toArray⟩ : Str).cps.toList = (Builtin.Str.strSliceIndices none none (-1) z.length).filterMap fun i => z.cps[i]? := by simp
  rw [e] at hc
  exact pick_mem hc
end
/-! ### how often a sign stands in a text; what it cuts off -/
theorem count_sg (z : Str) (c : Nat) : Txt.count z (sg c) = ((z.cps.toList.count c : Nat) : Int) := by
  have h : ∀ l : List Nat, cnt c l = ((l.count c : Nat) : Int) := fun l => by
    induction l with
    | nil => rfl
    | cons n r ih =>
      rw [cnt_cons, ih, List.count_cons]
      by_cases e : n = c
      · subst e
        simp
        omega
      · have e2 : (n == c) = false := by simpa using e
        rw [if_neg e, e2]
        simp
  rw [← h]
  exact count_cnt z c
theorem first_cut {c : Nat} {l : List Nat} (h : c ∈ l) : ∃ a r, l = a ++ c :: r ∧ c ∉ a := by
  obtain ⟨a, r, e, n⟩ := List.eq_append_cons_of_mem h
  exact ⟨a, r, e, n⟩
theorem cut2 {c : Nat} {l : List Nat} (h : l.count c = 2) : ∃ a b d, l = a ++ c :: (b ++ c :: d) ∧ c ∉ a ∧ c ∉ b ∧ c ∉ d := by
  obtain ⟨a, r, e, n⟩ := first_cut (c := c) (l := l) (List.count_pos_iff.mp (by omega))
  subst e
  rw [List.count_append, List.count_eq_zero.mpr n, List.count_cons_self] at h
  obtain ⟨b, d, e2, n2⟩ := first_cut (c := c) (l := r) (List.count_pos_iff.mp (by omega))
  subst e2
  rw [List.count_append, List.count_eq_zero.mpr n2, List.count_cons_self] at h
  exact ⟨a, b, d, rfl, n, n2, List.count_eq_zero.mp (by omega)⟩
theorem kind1 {x : Str} {c : Nat} (hc : c < 256) : ¬ Builtin.Str.strKind x < Builtin.Str.strKind (sg c) := TL.kind_ok (by
  show (#[c] : Array Nat).all (fun x => decide (x < 256)) = true
  simp [hc])
theorem split3 {c : Nat} (hc : c < 256) {a b d : List Nat} (h1 : c ∉ a) (h2 : c ∉ b) (h3 : c ∉ d) : Txt.split (txt (a ++ c :: (b ++ c :: d))) (sg c) = [txt a, txt b, txt d] := by
  refine TL.map_tl_inj ?_
  rw [TL.split_spl _ _ (fun h => nomatch (show ([c] : List Nat) = [] from h)) (kind1 hc)]
  have e : TL.tl (txt (a ++ c :: (b ++ c :: d))) = a ++ ([c] ++ (b ++ ([c] ++ d))) := (txt_cps _).trans (by simp)
  rw [e]
  show TL.spl [c] 0 [] (a ++ (c :: [] ++ (b ++ (c :: [] ++ d)))) = _
  rw [TL.spl_part1 h1, TL.spl_part1 h2, TL.spl_last1 h3]
  show [[] ++ a, [] ++ b, [] ++ d] = [(txt a).cps.toList, (txt b).cps.toList, (txt d).cps.toList]
  rw [txt_cps, txt_cps, txt_cps]
  rfl
theorem split_join_back (x : Str) (c : Nat) : Txt.join (sg c) (Txt.split x (sg c)) = x := by
  rw [TL.join_eq]
  exact StrLaws.join_split x (sg c)
/-- the parts are short and made of the text's signs -/
theorem split_parts (x : Str) (c : Nat) : (Txt.split x (sg c)).length ≤ x.length + 1 ∧ ∀ z ∈ Txt.split x (sg c), z.length ≤ x.length ∧ ∀ k ∈ z.cps.toList, k ∈ x.cps.toList := by
  have w := PyProof.Rows.split_weight x (sg c) (by show 1 ≤ 1; decide)
  have key : ∀ (ps : List Str), (ps.map (fun z => z.length)).sum + ps.length ≤ x.length + 1 → ∀ z ∈ ps, z.length ≤ x.length := fun ps h z hz => by
    have h2 : z.length ≤ (ps.map (fun z => z.length)).sum := by
      clear h
      induction ps with
      | nil => cases hz
      | cons p r ih =>
        rw [List.map_cons, List.sum_cons]
        rcases List.mem_cons.mp hz with rfl | hz
        · omega
        · have := ih hz
          omega
    have h3 : 1 ≤ ps.length := List.length_pos_of_mem hz
    omega
  refine ⟨by omega, fun z hz => ⟨key _ w z hz, fun k hk => ?_⟩⟩
  have e : x.cps.toList = TL.joinL [c] ((Txt.split x (sg c)).map TL.tl) := by
    have h := congrArg TL.tl (split_join_back x c)
    rw [TL.join_eq, TL.tl_join] at h
    exact h.symm
  rw [e]
  have gen : ∀ (ps : List (List Nat)) (p : List Nat), p ∈ ps → k ∈ p → k ∈ TL.joinL [c] ps := fun ps => by
    induction ps with
    | nil => exact fun p hp => nomatch hp
    | cons q r ih =>
      intro p hp hk
      cases r with
      | nil =>
        have : p = q := by simpa using hp
        subst this
        simpa [TL.joinL] using hk
      | cons q2 r2 =>
        have goal : TL.joinL [c] (q :: q2 :: r2) = q ++ ([c] ++ TL.joinL [c] (q2 :: r2)) := by simp [TL.joinL]
        rw [goal]
        rcases List.mem_cons.mp hp with rfl | hp
        · exact List.mem_append_left _ hk
        · exact List.mem_append_right _ (List.mem_append_right _ (ih p hp hk))
  exact gen _ (TL.tl z) (List.mem_map.mpr ⟨z, hz, rfl⟩) hk
end Vf
namespace Vf
open PySem PySem.Spec PyProof.Rows L2 Evl
/-! ### a text cut at its first signs of a kind -/
/-- where c stands in l (which begins at place i), the first m of them -/
def places (c : Nat) : Nat → Nat → List Nat → List Nat
  | 0, _, _ => []
  | _ + 1, _, [] => []
  | m + 1, i, x :: r => if x = c then i :: places c m (i + 1) r else places c (m + 1) (i + 1) r
def cutA (c : Nat) : Nat → List Nat → List Nat → List (List Nat)
  | 0, acc, l => [acc ++ l]
  | _ + 1, acc, [] => [acc]
  | m + 1, acc, x :: r => if x = c then acc :: cutA c m [] r else cutA c (m + 1) (acc ++ [x]) r
theorem sub_sg {z : Str} {c i : Nat} : Builtin.Str.subAt z (sg c) i = true ↔ z.cps.toList[i]? = some c := by
  have hne : TL.tl (sg c) ≠ [] := fun h => nomatch (show ([c] : List Nat) = [] from h)
  have key := TL.at_iff (x := z) hne i
  constructor
  · intro h
    have hl : i + 1 ≤ z.length := by
      have h2 : (z.cps.extract i (i + (sg c).length) == (sg c).cps) = true := h
      have h3 := congrArg Array.size (eq_of_beq h2)
      rw [Array.size_extract] at h3
      have h4 : (sg c).cps.size = 1 := rfl
      have h5 : (sg c).length = 1 := rfl
      have h6 : z.length = z.cps.size := rfl
      rw [h4, h5] at h3
      omega
    have q := key.mp ⟨hl, h⟩
    obtain ⟨r, e⟩ := (pre1 c _).mp q
    have e2 : z.cps.toList.drop i = c :: r := e
    have := congrArg (fun l : List Nat => l[0]?) e2
    simpa using this
  · intro h
    have hi : i < z.cps.toList.length := by
      rcases Nat.lt_or_ge i z.cps.toList.length with k | k
      · exact k
      · rw [List.getElem?_eq_none k] at h
        cases h
    have e : z.cps.toList.drop i = c :: z.cps.toList.drop (i + 1) := by
      rw [List.drop_eq_getElem_cons hi]
      rw [List.getElem?_eq_getElem hi] at h
      rw [Option.some.inj h]
    exact (key.mpr ((pre1 c _).mpr ⟨_, e⟩)).2
theorem occ_places (z : Str) (c lim : Nat) : ∀ (l : List Nat) (i : Nat) (acc : Array Nat) (free : Nat), z.cps.toList.drop i = l → i ≤ z.length → free ≤ i → acc.size ≤ lim →
    (forIn (List.range' i (l.length + 1)) (acc, free) (StrLaws.occBody z (sg c) z.length lim)).run.fst.toList = acc.toList ++ places c (lim - acc.size) i l
  | [], i, acc, free, hd, hi, hf, hs => by
    have hz : i = z.length := by
      have := congrArg List.length hd
      rw [List.length_drop, str_len] at this
      simp at this
      omega
    have e : List.range' i (([] : List Nat).length + 1) = [i] := rfl
    rw [e, List.forIn_cons]
    unfold StrLaws.occBody
    rw [if_neg (by
      rintro ⟨⟨_, k⟩, _⟩
      have : (sg c).length = 1 := rfl
      omega)]
    show acc.toList = _
    cases lim - acc.size <;> simp [places]
  | x :: r, i, acc, free, hd, hi, hf, hs => by
    have hlen : r.length + 1 = z.length - i := by
      have := congrArg List.length hd
      rw [List.length_drop, str_len] at this
      rw [List.length_cons] at this
      omega
    have hx : z.cps.toList[i]? = some x := by
      have := congrArg (fun l : List Nat => l[0]?) hd
      simpa using this
    have hr : z.cps.toList.drop (i + 1) = r := by
      have := congrArg (fun l : List Nat => l.drop 1) hd
      rw [List.drop_drop] at this
      simpa using this
    have e : List.range' i ((x :: r).length + 1) = i :: List.range' (i + 1) (r.length + 1) := rfl
    rw [e, List.forIn_cons]
    unfold StrLaws.occBody
    have s1 : (sg c).length = 1 := rfl
    by_cases hc : x = c
    · subst hc
      by_cases hm : acc.size < lim
      · rw [if_pos ⟨⟨⟨hm, hf⟩, by omega⟩, sub_sg.mpr hx⟩]
        have ih := occ_places z x lim r (i + 1) (acc.push i) (i + (sg x).length) hr (by omega) (by omega) (by rw [Array.size_push]; omega)
        refine ih.trans ?_
        rw [Array.size_push, Array.toList_push]
        obtain ⟨m, em⟩ : ∃ m, lim - acc.size = m + 1 := ⟨lim - acc.size - 1, by omega⟩
        have em2 : lim - (acc.size + 1) = m := by omega
        rw [em, em2]
        show _ = acc.toList ++ (if x = x then i :: places x m (i + 1) r else _)
        rw [if_pos rfl]
        simp
      · rw [if_neg (by rintro ⟨⟨⟨k, _⟩, _⟩, _⟩; exact hm k)]
        have ih := occ_places z x lim r (i + 1) acc free hr (by omega) (by omega) hs
        refine ih.trans ?_
        have em : lim - acc.size = 0 := by omega
        rw [em]
        cases r <;> rfl
    · rw [if_neg (by
        rintro ⟨_, k⟩
        have := sub_sg.mp k
        rw [hx] at this
        exact hc (Option.some.inj this))]
      have ih := occ_places z c lim r (i + 1) acc free hr (by omega) (by omega) hs
      refine ih.trans ?_
      cases lim - acc.size with
      | zero => cases r <;> rfl
      | succ m =>
        show _ = acc.toList ++ (if x = c then _ else places c (m + 1) (i + 1) r)
        rw [if_neg hc]
theorem occ_first (z : Str) (c lim : Nat) : Builtin.Str.occurrences z (sg c) 0 z.length lim = places c lim 0 z.cps.toList := by
  rw [StrLaws.occ_eq]
  have h := occ_places z c lim z.cps.toList 0 #[] 0 (by simp) (Nat.zero_le _) (Nat.le_refl _) (Nat.zero_le _)
  rw [str_len] at h
  have e : z.length + 1 - 0 = z.length + 1 := rfl
  rw [e, h]
  simp
theorem parts_cut (z : Str) (c : Nat) : ∀ (l : List Nat) (m a i : Nat), z.cps.toList.drop i = l → a ≤ i → i ≤ z.length →
    (StrLaws.partsFrom z 1 a (places c m i l)).map TL.tl = cutA c m ((z.cps.toList.drop a).take (i - a)) l := by
  have whole : ∀ (l : List Nat) (a i : Nat), z.cps.toList.drop i = l → a ≤ i → i ≤ z.length → TL.tl (Builtin.Str.strSub z a z.length) = (z.cps.toList.drop a).take (i - a) ++ l := fun l a i hd ha hi => by
    rw [TL.tl_strSub_end]
    show z.cps.toList.drop a = _
    rw [← hd, show z.cps.toList.drop i = (z.cps.toList.drop a).drop (i - a) by rw [List.drop_drop]; congr 1; omega, List.take_append_drop]
  intro l
  induction l with
  | nil =>
    intro m a i hd ha hi
    cases m with
    | zero =>
      show [TL.tl (Builtin.Str.strSub z a z.length)] = [_ ++ []]
      rw [whole [] a i hd ha hi]
    | succ m =>
      show [TL.tl (Builtin.Str.strSub z a z.length)] = [_]
      rw [whole [] a i hd ha hi, List.append_nil]
  | cons x r ih =>
    intro m a i hd ha hi
    have hlen : r.length + 1 = z.length - i := by
      have := congrArg List.length hd
      rw [List.length_drop, str_len] at this
      rw [List.length_cons] at this
      omega
    have hr : z.cps.toList.drop (i + 1) = r := by
      have := congrArg (fun l : List Nat => l.drop 1) hd
      rw [List.drop_drop] at this
      simpa using this
    cases m with
    | zero =>
      show [TL.tl (Builtin.Str.strSub z a z.length)] = [_ ++ (x :: r)]
      rw [whole (x :: r) a i hd ha hi]
    | succ m =>
      show (StrLaws.partsFrom z 1 a (if x = c then i :: places c m (i + 1) r else places c (m + 1) (i + 1) r)).map TL.tl = if x = c then _ :: cutA c m [] r else cutA c (m + 1) (_ ++ [x]) r
      by_cases hc : x = c
      · rw [if_pos hc, if_pos hc]
        show TL.tl (Builtin.Str.strSub z a i) :: (StrLaws.partsFrom z 1 (i + 1) (places c m (i + 1) r)).map TL.tl = _
        rw [ih m (i + 1) (i + 1) hr (Nat.le_refl _) (by omega), TL.tl_strSub, Nat.sub_self, List.take_zero]
      · rw [if_neg hc, if_neg hc, ih (m + 1) a (i + 1) hr (by omega) (by omega)]
        congr 1
        have e1 : i + 1 - a = (i - a) + 1 := by omega
        rw [e1, List.take_add_one]
        congr 1
        rw [List.getElem?_drop, show a + (i - a) = i by omega]
        have hx : z.cps.toList[i]? = some x := by
          have := congrArg (fun l : List Nat => l[0]?) hd
          simpa using this
        rw [hx]
        rfl
theorem splitMax_cut (z : Str) {c : Nat} (hc : c < 256) (m : Nat) : (Txt.splitMax z (sg c) (m : Nat)).map TL.tl = cutA c m [] z.cps.toList := by
  have e0 : PySem.limitOf z ((m : Nat) : Int) = m := by
    unfold PySem.limitOf
    rw [if_neg (by omega), Int.toNat_natCast]
  have key := parts_cut z c z.cps.toList m 0 0 (by simp) (Nat.le_refl _) (Nat.zero_le _)
  rw [Nat.sub_zero, List.take_zero] at key
  have hp := StrLaws.partsBetween_eq z (places c m 0 z.cps.toList) 1
  have one : (places c m 0 z.cps.toList) = [] → [z].map TL.tl = cutA c m [] z.cps.toList := fun h => by
    rw [h] at key
    rw [← key]
    show [TL.tl z] = [TL.tl (Builtin.Str.strSub z 0 z.length)]
    rw [TL.tl_strSub_end, List.drop_zero]
  unfold Txt.splitMax
  rw [e0, occ_first]
  by_cases h1 : (decide (z.length < (sg c).length) || decide (Builtin.Str.strKind z < Builtin.Str.strKind (sg c))) = true
  · rw [if_pos h1]
    refine one ?_
    have hk := kind1 (x := z) hc
    rw [decide_eq_false hk, Bool.or_false] at h1
    have h2 := of_decide_eq_true h1
    have s1 : (sg c).length = 1 := rfl
    have h3 : z.cps.toList = [] := by
      rw [← List.length_eq_zero_iff, str_len]
      omega
    rw [h3]
    cases m <;> rfl
  · rw [if_neg h1]
    by_cases h2 : (places c m 0 z.cps.toList).isEmpty = true
    · rw [if_pos h2]
      exact one (List.isEmpty_iff.mp h2)
    · rw [if_neg h2]
      have s1 : (sg c).length = 1 := rfl
      rw [s1, hp]
      exact key
theorem cut_len (c : Nat) : ∀ (l : List Nat) (m : Nat) (acc : List Nat), (cutA c m acc l).length ≤ m + 1 := by
  intro l
  induction l with
  | nil => intro m acc; cases m <;> simp [cutA]
  | cons x r ih =>
    intro m acc
    cases m with
    | zero => simp [cutA]
    | succ m =>
      unfold cutA
      by_cases h : x = c
      · rw [if_pos h, List.length_cons]
        have := ih m []
        omega
      · rw [if_neg h]
        exact ih _ _
theorem cut_free {c : Nat} : ∀ {p : List Nat} {m : Nat} {acc r : List Nat}, c ∉ p → cutA c (m + 1) acc (p ++ c :: r) = (acc ++ p) :: cutA c m [] r
  | [], m, acc, r, _ => by
    show (if c = c then acc :: cutA c m [] r else _) = _
    rw [if_pos rfl, List.append_nil]
  | x :: p, m, acc, r, h => by
    show (if x = c then _ else cutA c (m + 1) (acc ++ [x]) (p ++ c :: r)) = _
    rw [if_neg (fun e => h (by rw [e]; exact List.mem_cons_self)), cut_free (fun k => h (List.mem_cons_of_mem _ k))]
    simp
end Vf
namespace Vf
open PySem PySem.Spec PyProof.Rows L2 Evl
/-! ### a method that may be called, a class that may be made -/
structure MCal (P : Program) (w : World) (K : PySem.W.Frag) (mg : Str → Option Value) (base : Heap) (C : Addr) (m : Str) (k : Nat) (ps : List Str) (sp : Sp) : Prop where
  ex : ∃ (f : Addr) (fd : FuncData), FnOk P w K mg base CX0 k f fd ps sp ∧ Meth K C m f ∧ Binds K fd ps []
structure NCal (P : Program) (w : World) (K : PySem.W.Frag) (mg : Str → Option Value) (base : Heap) (C : Addr) (x : Str) (k : Nat) (ps : List Str) (sp : Sp) : Prop where
  ex : ∃ (f : Addr) (fd : FuncData), FnOk P w K mg base CX0 k f fd ps sp ∧ Mk K C f ∧ mg x = some (.ref C) ∧ Binds K fd ps []
section
variable {X : Cx} {x m : Str} {k : Nat} {ps : List Str} {sp : Sp} {C : Addr} {o e : Expr} {es : List Expr} {ta : TE} {t : TA} {p apos pos : Pos}
theorem pmeth {pl : Sem Bool} (ho : PE X o ta) (c : Cls X.K C) (M : MCal X.prog X.w X.K X.mg X.base C m k ps sp) (hr : Room k X.A) (ha : PA X (e :: es) t)
    (hst : starEach (e :: es) X.env = (false, eval e X.env) :: starEach es X.env := by rfl) (hpl : (backTo pos (starEach es X.env)).any (·.1) = false := by rfl)
    (ht : eval (.Call (.Attribute o m apos) (e :: es) [] pos) X.env = (do
      let ov ← eval o X.env
      standAt apos.atName
      let (f, first) ← holding [ov] (getMethod ov m pl)
      callWith pos f first (backTo pos (starEach (e :: es) X.env)) (backToKw pos (keywordEach [] X.env))) := by rfl) :
    PE X (.Call (.Attribute o m apos) (e :: es) [] pos) (tMeth C m sp [] E0 ta t) := by
  obtain ⟨f, fd, F, hm, hb⟩ := M.ex
  exact pe_meth (pl := pl) ho c hm F hr hb .nil pass0 ha hst hpl ht
theorem pmeth0 {pl : Sem Bool} (ho : PE X o ta) (c : Cls X.K C) (M : MCal X.prog X.w X.K X.mg X.base C m k ps sp) (hr : Room k X.A)
    (ht : eval (.Call (.Attribute o m apos) [] [] pos) X.env = (do
      let ov ← eval o X.env
      standAt apos.atName
      let (f, first) ← holding [ov] (getMethod ov m pl)
      callWith pos f first (backTo pos (starEach [] X.env)) (backToKw pos (keywordEach [] X.env))) := by rfl) :
    PE X (.Call (.Attribute o m apos) [] [] pos) (tMeth C m sp [] E0 ta tNil) := by
  obtain ⟨f, fd, F, hm, hb⟩ := M.ex
  exact pe_meth0 (pl := pl) ho c hm F hr hb .nil pass0 ht
theorem pmake0 (M : NCal X.prog X.w X.K X.mg X.base C x k ps sp) (hr : Room (k + 1) X.A) (hg : Gl X x := by rfl)
    (hdb : (x == ("__debug__" : Str)) = false := by decide) : PE X (.Call (.Name x p) [] [] pos) (tMake C sp [] E0 tNil) := by
  obtain ⟨f, fd, F, hm, hmg, hb⟩ := M.ex
  exact pe_make0 hm F hr hg hmg hb .nil pass0 hdb
theorem pmake (M : NCal X.prog X.w X.K X.mg X.base C x k ps sp) (hr : Room (k + 1) X.A) (ha : PA X (e :: es) t) (hg : Gl X x := by rfl)
    (hdb : (x == ("__debug__" : Str)) = false := by decide) (he : starEach (e :: es) X.env = (false, eval e X.env) :: starEach es X.env := by rfl) (hpl : (backTo pos (starEach es X.env)).any (·.1) = false := by rfl) : PE X (.Call (.Name x p) (e :: es) [] pos) (tMake C sp [] E0 t) := by
  obtain ⟨f, fd, F, hm, hmg, hb⟩ := M.ex
  exact pe_make hm F hr hg hmg hb .nil pass0 ha hdb he hpl
end
/-! ### fields by name -/
theorem lk_hd {k : Str} {v : V} {r : List (Str × V)} : List.lookup k ((k, v) :: r) = some v := by
  rw [List.lookup_cons_self]
theorem lk_tl {k k' : Str} {v : V} {r : List (Str × V)} (h : (k == k') = false) : List.lookup k ((k', v) :: r) = List.lookup k r := by
  rw [List.lookup_cons, h]
theorem put_hd {k : Str} {v y : V} {r : List (Str × V)} : putF k v ((k, y) :: r) = (k, v) :: r := if_pos rfl
theorem put_tl {k k' : Str} {v y : V} {r : List (Str × V)} (h : ¬ k' = k) : putF k v ((k', y) :: r) = (k', y) :: putF k v r := if_neg h
theorem put_nil {k : Str} {v : V} : putF k v [] = [(k, v)] := rfl
/-! ### the last n of a list -/
def lst {α : Type} (n : Nat) (xs : List α) : List α := xs.drop (xs.length - n)
theorem lst_len {α : Type} {n : Nat} {xs : List α} : (lst n xs).length = min n xs.length := by
  unfold lst
  rw [List.length_drop]
  omega
theorem lst_le {α : Type} {n : Nat} {xs : List α} : (lst n xs).length ≤ n := by
  rw [lst_len]
  omega
theorem lst_all {α : Type} {n : Nat} {xs : List α} (h : xs.length ≤ n) : lst n xs = xs := by
  unfold lst
  rw [show xs.length - n = 0 by omega, List.drop_zero]
theorem lst_mem {α : Type} {n : Nat} {xs : List α} {x : α} (h : x ∈ lst n xs) : x ∈ xs := List.mem_of_mem_drop h
theorem lst_snoc {α : Type} {n : Nat} {xs : List α} {x : α} : lst n (lst n xs ++ [x]) = lst n (xs ++ [x]) := by
  unfold lst
  by_cases h : xs.length ≤ n
  · rw [show xs.length - n = 0 by omega, List.drop_zero]
  · by_cases h0 : n = 0
    · subst h0
      simp
    · have e1 : (xs.drop (xs.length - n) ++ [x]).length - n = 1 := by
        rw [List.length_append, List.length_drop, List.length_singleton]
        omega
      have e2 : (xs ++ [x]).length - n = xs.length - n + 1 := by
        rw [List.length_append, List.length_singleton]
        omega
      rw [e1, e2, List.drop_append_of_le_length (by rw [List.length_drop]; omega), List.drop_append_of_le_length (by omega), List.drop_drop]
theorem lst_map {α β : Type} {n : Nat} {xs : List α} {f : α → β} : lst n (xs.map f) = (lst n xs).map f := by
  unfold lst
  rw [List.length_map, List.map_drop]
/-! ### tuples stay -/
def TupEx (H H' : Hp) : Prop := ∀ a xs, H a = some (.tup xs) → H' a = some (.tup xs)
theorem TupEx.refl {H : Hp} : TupEx H H := fun _ _ h => h
theorem TupEx.trans {H H1 H2 : Hp} (h : TupEx H H1) (k : TupEx H1 H2) : TupEx H H2 := fun a xs e => k a xs (h a xs e)
theorem TupEx.ex {H H' : Hp} (e : Ex H H') : TupEx H H' := fun a xs h => e a _ h
theorem TupEx.lst {H : Hp} {l : Addr} {xs : List V} {o : HO} (h : H l = some (.lst xs)) : TupEx H (upd H l o) := fun a ys e => by
  rw [upd_ne (by rintro rfl; rw [h] at e; cases e)]
  exact e
theorem TupEx.ins {H : Hp} {l C dx : Addr} {fs : List (Str × V)} {o : HO} (h : H l = some (.ins C dx fs)) : TupEx H (upd H l o) := fun a ys e => by
  rw [upd_ne (by rintro rfl; rw [h] at e; cases e)]
  exact e
theorem TupEx.new {H : Hp} {l : Addr} {o : HO} (h : H l = none) : TupEx H (upd H l o) := TupEx.ex (Ex.new h)
/-- a list of values, each a tuple of these -/
def Tups (H : Hp) : List V → List (List V) → Prop
  | [], [] => True
  | v :: vs, x :: xs => (∃ a, v = .ref a ∧ H a = some (.tup x)) ∧ Tups H vs xs
  | _, _ => False
theorem Tups.mono {H H' : Hp} (e : TupEx H H') : ∀ {vs : List V} {xs : List (List V)}, Tups H vs xs → Tups H' vs xs
  | [], [], _ => trivial
  | v :: vs, x :: xs, h => ⟨by obtain ⟨a, h1, h2⟩ := h.1; exact ⟨a, h1, e _ _ h2⟩, Tups.mono e h.2⟩
  | [], _ :: _, h => h.elim
  | _ :: _, [], h => h.elim
theorem Tups.len {H : Hp} : ∀ {vs : List V} {xs : List (List V)}, Tups H vs xs → vs.length = xs.length
  | [], [], _ => rfl
  | v :: vs, x :: xs, h => by rw [List.length_cons, List.length_cons, Tups.len h.2]
  | [], _ :: _, h => h.elim
  | _ :: _, [], h => h.elim
theorem Tups.snoc {H : Hp} {a : Addr} {y : List V} (e : H a = some (.tup y)) : ∀ {vs : List V} {xs : List (List V)}, Tups H vs xs → Tups H (vs ++ [.ref a]) (xs ++ [y])
  | [], [], _ => ⟨⟨a, rfl, e⟩, trivial⟩
  | v :: vs, x :: xs, h => ⟨h.1, Tups.snoc e h.2⟩
  | [], _ :: _, h => h.elim
  | _ :: _, [], h => h.elim
theorem Tups.drop {H : Hp} : ∀ {vs : List V} {xs : List (List V)} (n : Nat), Tups H vs xs → Tups H (vs.drop n) (xs.drop n)
  | vs, xs, 0, h => h
  | [], [], n + 1, _ => trivial
  | v :: vs, x :: xs, n + 1, h => Tups.drop n h.2
  | [], _ :: _, _ + 1, h => h.elim
  | _ :: _, [], _ + 1, h => h.elim
theorem Tups.lst {H : Hp} {vs : List V} {xs : List (List V)} {n : Nat} (h : Tups H vs xs) : Tups H (vs.drop (vs.length - n)) (lst n xs) := by
  unfold Vf.lst
  rw [h.len]
  exact Tups.drop _ h
theorem Tups.get {H : Hp} : ∀ {vs : List V} {xs : List (List V)} {i : Nat} {v : V}, Tups H vs xs → vs[i]? = some v → ∃ a x, v = .ref a ∧ H a = some (.tup x) ∧ xs[i]? = some x
  | v :: vs, x :: xs, 0, u, h, e => by
    obtain ⟨a, h1, h2⟩ := h.1
    refine ⟨a, x, ?_, h2, rfl⟩
    rw [← h1]
    exact (Option.some.inj e).symm
  | v :: vs, x :: xs, i + 1, u, h, e => Tups.get (i := i) h.2 e
  | [], [], _, _, _, e => by cases e
  | [], _ :: _, _, _, h, _ => h.elim
  | _ :: _, [], _, _, h, _ => h.elim
end Vf
namespace Vf
open PySem PySem.Spec PyProof.Rows L2 Evl
/-! ### enumerate of a text -/
def Ites (x : Str) : It :=
  ⟨fun i _ => i < x.cps.size, fun i H v H' => ∃ T c, v = .ref T ∧ H T = none ∧ x.cps[i]? = some c ∧ H' = upd H T (.tup [.int (i : Nat), .str ⟨#[c]⟩]), fun i _ => x.cps.size ≤ i⟩
theorem turn_enumS {P : Program} {w : World} {K : PySem.W.Frag} {elts : List Expr} {kk : Nat} {tpos : Pos} (x : Str) (t : Tok) (e it : Addr) :
    Turn P w K (.Tuple elts kk tpos) (Ites x) [e, it] e (fun i h => (∃ old, IsEnum h e it ((i : Nat) : Int) old) ∧ h.IsStrIter it (strIterType x) x t i ∧ e ≠ it ∧ i ≤ x.cps.size) where
  mem := by simp
  obj := fun i h st b hb => by
    obtain ⟨⟨old, he⟩, ⟨o, ho, hc, hd⟩, _⟩ := st
    have e' : b = e ∨ b = it := by simpa using hb
    rcases e' with z | z
    · rw [z]; exact ⟨_, he, fun v q => nomatch q⟩
    · rw [z]; exact ⟨o, ho, fun v q => by rw [hd] at q; cases q⟩
  keep := fun i h h' st k => by
    obtain ⟨⟨old, he⟩, ⟨o, ho, hr⟩, hne, hle⟩ := st
    exact ⟨⟨old, k e (by simp) _ he⟩, ⟨o, k it (by simp) _ ho, hr⟩, hne, hle⟩
  item := by
    intro X hP hw hK hc i pins s σ H E I hf st hg
    subst hP hw hK
    obtain ⟨⟨old, he⟩, hit, hne, hle⟩ := st
    have hg : i < x.cps.size := hg
    have hel : e < s.heap.objs.size := Heap.lt_size he
    have hil : it < s.heap.objs.size := by obtain ⟨_, q, _⟩ := hit; exact Heap.lt_size q
    refine wpAny_pyNext_enum_itemD (Draws.text (A := X.A.in1) (I.ok.hd hc) it x t) he hit hg hne (by simpa using hne) fun v h' tk hv ho hit' hT hsz hk => ?_
    obtain ⟨c, u, hcx, rfl⟩ := hv
    refine ⟨_, rfl, wpAny_letOwnedTupleGo_enum (s := { s with heap := h', toks := tk + 1 }) ho fun h'' he' sb => ?_⟩
    have hT2 : h''.get? s.heap.objs.size = some { cls := .type "tuple", data := .seq #[.int i tk, .str ⟨#[c]⟩ u] } := (sb.2 _ (Nat.ne_of_gt hel)).trans hT
    have new : ObjOk X.prog X.w (upd H s.heap.objs.size (.tup [.int (i : Nat), .str ⟨#[c]⟩])) h'' s.heap.objs.size (.tup [.int (i : Nat), .str ⟨#[c]⟩]) :=
      ⟨by show 2 ≤ sizeLine; decide, [.int i tk, .str ⟨#[c]⟩ u], .cons ⟨_, rfl⟩ (.cons ⟨_, rfl⟩ .nil), ⟨_, hT2, rfl, _, rfl⟩⟩
    have I1 : Inv X pins σ (upd H s.heap.objs.size (.tup [.int (i : Nat), .str ⟨#[c]⟩])) { s with heap := h'', toks := tk + 1 } :=
      I.turnedNew (ch := [e, it]) (fun b ob hb q => (sb.2 b (fun z => hb (by simp [z]))).trans (hk b ob (fun z => hb (by simp [z])) (fun z => hb (by simp [z])) q)) hf (Nat.le_refl _) new
    refine ⟨.ref s.heap.objs.size, _, I1, rfl, ⟨_, c, rfl, I.hok.fresh (Nat.le_refl _), hcx, rfl⟩, ⟨⟨.str ⟨#[c]⟩ u, ?_⟩, ?_, hne, hg⟩, fun b hb => ?_⟩
    · have e1 : ((i + 1 : Nat) : Int) = (i : Int) + 1 := by omega
      rw [e1]; exact he'
    · obtain ⟨o, ho2, hr⟩ := hit'
      exact ⟨o, (sb.2 it (Ne.symm hne)).trans ho2, hr⟩
    · have hb' : b < s.heap.objs.size := by
        have e' : b = e ∨ b = it := by simpa using hb
        rcases e' with z | z
        · rw [z]; exact hel
        · rw [z]; exact hil
      rw [upd_ne (Nat.ne_of_lt hb')]
      exact (hf b hb).1
  done := by
    intro X hP hw hK hc i pins s σ H E I hf st hg
    subst hP hw hK
    obtain ⟨⟨old, he⟩, hit, hne, hle⟩ := st
    have hg : x.cps.size ≤ i := hg
    have ei : i = x.cps.size := by omega
    subst ei
    obtain ⟨f0, f1, f2, f3, f4, f5⟩ := hf it (by simp)
    exact wpAny_pyNext_enum_endD (Draws.text (A := X.A.in1) (I.ok.hd hc) it x t) he hit fun h' eb => ⟨rfl, I.turned (t' := s.toks) (fun b o hb q => eb b o hb q) f0 f1 f3 f4 f5⟩
  self := fun A i s Q E st h => let ⟨⟨_, he⟩, _⟩ := st; wpAny_pyIter_enum he h
def iEnumS (ta : TA) : TI := fun σ H R => ta σ H fun vs H1 => ∃ x, vs = [.str x] ∧ R (Ites x) H1
theorem pi_enumS {X : Cx} {e : Expr} {ta : TA} {p pos tpos : Pos} {elts : List Expr} {kk : Nat} (hg : Gl X "enumerate") (hm : X.mg "enumerate" = none) (ha : PA X [e] ta) (hs : starEach [e] X.env = [(false, eval e X.env)] := by rfl) :
    PI X (.Tuple elts kk tpos) (.Call (.Name "enumerate" p) [e] [] pos) (iEnumS ta) := by
  refine ⟨fun pins s σ H R I h => ?_⟩
  refine Call_ (ld_blt I hg hm boot_enumerate (PyProof.Rows.callWith_type1 (thn (ha.run pos pins s σ H _ I h) fun us s1 ⟨vs, H1, I1, r1, q1⟩ => ?_) hs rfl))
  obtain ⟨x, ex, q⟩ := q1
  subst ex
  cases r1 with
  | cons r rr =>
    cases rr
    obtain ⟨t, rfl⟩ := r
    refine call_enumerate_str fun h' he hit hsz hk => wpAny_pyIter_enum he ?_
    have I2 : Inv X pins σ H1 { s1 with heap := h' } := I1.kept (t' := s1.toks) hk
    refine ⟨s1.heap.objs.size + 1, [s1.heap.objs.size + 1, s1.heap.objs.size], _, _, H1, rfl, I2, turn_enumS x t (s1.heap.objs.size + 1) s1.heap.objs.size, ⟨⟨.none, he⟩, hit, Nat.succ_ne_self _, Nat.zero_le _⟩, fun b hb => ?_, q⟩
    have e' : b = s1.heap.objs.size + 1 ∨ b = s1.heap.objs.size := by simpa using hb
    have hle : s1.heap.objs.size ≤ b := by
      rcases e' with z | z
      · rw [z]; exact Nat.le_add_right _ _
      · rw [z]; exact Nat.le_refl _
    exact I1.fpOk hle (I1.hok.fresh hle)
theorem walk_enumS {z : Str} : Walk (Ites z) z.cps.size (fun _ => True) (fun i H v H' => ∃ T c, v = .ref T ∧ H T = none ∧ z.cps[i]? = some c ∧ H' = upd H T (.tup [.int (i : Nat), .str ⟨#[c]⟩])) :=
  ⟨fun _ _ hi _ => hi, fun _ _ => Nat.le_refl _, fun _ _ _ _ _ _ y => y⟩
end Vf
namespace Vf
open PySem PySem.Spec PyProof.Rows L2 Evl
/-! ### a, *b = a list -/
def gStarL (K : PySem.W.Frag) (n i : Nat) (t : TGs) : TG := fun v σ H Q => ∃ a xs, v = .ref a ∧ SqL K H a xs ∧ i < n ∧ n ≤ xs.length + 1 ∧
  ∀ D, H D = none → t (xs.take i ++ [.ref D] ++ (xs.drop i).drop (xs.length + 1 - n)) σ (upd H D (.lst ((xs.drop i).take (xs.length + 1 - n)))) Q
theorem vals_take {xs : List V} {its : List Value} (r : Vals xs its) : ∀ n : Nat, Vals (xs.take n) (its.take n) := by
  induction r with
  | nil => intro n; cases n <;> exact .nil
  | cons h _ ih =>
    intro n
    cases n with
    | zero => exact .nil
    | succ n => exact .cons h (ih n)
theorem vals_drop {xs : List V} {its : List Value} (r : Vals xs its) : ∀ n : Nat, Vals (xs.drop n) (its.drop n) := by
  induction r with
  | nil => intro n; cases n <;> exact .nil
  | cons h r ih =>
    intro n
    cases n with
    | zero => exact .cons h r
    | succ n => exact ih n
section
variable {X : Cx} {pos : Pos}
open PySem.W in
theorem pg_starL {es es' : List Expr} {k : Nat} {t : TGs} {n i : Nat} (hc : X.calm = true) (h : PGs X es' t)
    (hn : (assignEach es X.env).length = n := by rfl) (hst : (assignEach es X.env).findIdx? (·.1) = some i := by rfl) (he : (assignEach es X.env).map (·.2) = (assignEach es' X.env).map (·.2) := by rfl) : PG X (.Tuple es k pos) (gStarL X.K n i t) := by
  refine ⟨fun pins s σ H v u Q I r hw => ?_⟩
  obtain ⟨a, xs, e1, hq, hi, hlen, hw⟩ := hw
  subst e1
  cases r
  obtain ⟨its, rv, pl, hz⟩ := I.list hq
  have hl : s.heap.IsList a its.toArray := by
    obtain ⟨o, m, e, c, d, q⟩ := pl
    exact ⟨o, e, c, m, q⟩
  have hle : xs.length = its.length := rv.length
  have hlt : a ≠ s.heap.objs.size := by obtain ⟨o, ho, _⟩ := hl; exact Nat.ne_of_lt (Heap.lt_size ho)
  have hsz : its.toArray.size = its.length := by simp
  rw [PyProof.Rows.assign_Tuple]
  refine wpAny_bind (wpAny_standAt ?_)
  unfold unpack
  rw [hn, hst, he]
  refine wpAny_bind (wpAny_holding ?_)
  unfold unpackItems
  refine wpAny_bind ?_
  unfold notIterableAtAll
  refine wpAny_bind (wpAny_specialOf hl.typeIs slot_list_iter.lookup ?_)
  refine wpAny_pure ?_
  simp only [Bool.false_eq_true, if_false]
  refine wpAny_bind (wpAny_holding (wpAny_pyIter_list hl ?_))
  refine wpAny_bind (wpAny_holding (kun_draw hlt i 0 _ _ ⟨_, Heap.get?_push_size _ rfl, rfl, rfl⟩ (hl.push _) (by omega) fun h₁ hit₁ hs₁ => ?_))
  have hl₁ : h₁.IsList a its.toArray := (hl.push _).extBut hs₁.extBut hlt
  rw [Nat.zero_add] at hit₁
  have hit₁' := hit₁
  obtain ⟨oi, hoi, _⟩ := hit₁'
  have hl₁' := hl₁
  obtain ⟨ol, hol, _⟩ := hl₁'
  rw [List.drop_zero]
  have hfl : (its.toArray.toList.take i).length = i := by rw [List.length_take, Array.length_toList]; omega
  rw [if_neg (show ¬ ((its.toArray.toList.take i).length < i) by rw [hfl]; omega)]
  refine wpAny_bind (wpAny_holding (kun_collect (s := { s with heap := h₁ }) (T := "list_iterator") (.inr (.inr (.inl rfl))) (Walks.list (A := X.A.in1) (I.ok.hd hc) s.heap.objs.size a hlt its.toArray) (fun j u st => st.1.typeIs) (k := i) (by omega) ⟨hit₁, hl₁⟩ (Heap.lt_size hoi) (Heap.lt_size hol) (fun h₂ tk hk => ?_) (by rw [hsz, ← hle]; exact hz)))
  have hrl : (its.toArray.toList.drop i).length = its.length - i := by rw [List.length_drop, Array.length_toList, hsz]
  have hmid : (its.toArray.toList.drop i).length - (n - 1 - i) = xs.length + 1 - n := by rw [hrl]; omega
  show wpAny _ _ (if (its.toArray.toList.drop i).length < n - 1 - i then _ else _) _ _ _
  rw [if_neg (by rw [hrl]; omega)]
  show wpAny _ _ (newList ((its.toArray.toList.drop i).take ((its.toArray.toList.drop i).length - (n - 1 - i))) >>= fun d => pure (its.toArray.toList.take i ++ [d] ++ (its.toArray.toList.drop i).drop ((its.toArray.toList.drop i).length - (n - 1 - i)))) _ _ _
  rw [hmid]
  have hx : Heap.ExtBut s.heap.objs.size s.heap h₂ := fun b o hb e => hk b o hb (hs₁.extBut b o hb (Heap.get?_push_of_some _ e))
  have I1 : Inv X pins σ H { s with heap := h₂, toks := tk } := I.kept (t' := tk) fun b o e => hx b o (Nat.ne_of_lt (Heap.lt_size e)) e
  refine wpAny_bind (wpAny_newList (s := { s with heap := h₂, toks := tk }) (wpAny_pure ?_))
  have hf : H h₂.objs.size = none := I1.hok.fresh (Nat.le_refl _)
  have rm : Vals ((xs.drop i).take (xs.length + 1 - n)) ((its.toArray.toList.drop i).take (xs.length + 1 - n)) := by
    have : its.toArray.toList = its := by simp
    rw [this]
    exact vals_take (vals_drop rv i) _
  have I2 := I1.laid (h' := h₂.push { cls := .type "list", data := .seq ((its.toArray.toList.drop i).take (xs.length + 1 - n)).toArray }) (a := h₂.objs.size) (o := .lst ((xs.drop i).take (xs.length + 1 - n))) (t' := tk) (fun b u e => Heap.get?_push_of_some _ e) (Nat.le_refl _)
    ⟨Nat.le_trans (by rw [List.length_take, List.length_drop]; omega) hz, _, 0, rm, Heap.get?_push_size _ rfl⟩
  refine h.run pins _ σ _ _ _ Q I2 ?_ (hw _ hf)
  have : its.toArray.toList = its := by simp
  rw [this]
  exact ((vals_take rv i).append (Paired.cons (show RelV (.ref h₂.objs.size) (.ref h₂.objs.size) from rfl) Paired.nil)).append (vals_drop (vals_drop rv i) _)
end
/-! ### the text of a number or of a text -/
section
variable {X : Cx}
theorem call_str_any : CallR X (.type "str") (fun xs H Q => (∃ i, xs = [.int i] ∧ i.natAbs.log2 < 1920 ∧ Q (.str (Str.ofString (toString i))) H) ∨ ∃ a, xs = [.str a] ∧ Q (.str a) H) := by
  intro pins s σ H xs us Q I r h
  rcases h with h | h
  · exact call_str_int pins s σ H xs us Q I r h
  · exact SkE.call_str_str pins s σ H xs us Q I r h
end
end Vf
namespace Vf
open PySem PySem.Spec PyProof.Rows L2 Evl
/-! ### a written table from texts to numbers, asked by get -/
def TabRows : List DictEntry → List (Str × Int) → Prop
  | [], [] => True
  | e :: r, (x, v) :: q => (∃ t u, e.key = .str x t ∧ e.val = .int v u) ∧ TabRows r q
  | _, _ => False
structure KTab (K : PySem.W.Frag) (w : World) (a : Addr) (tbl : List (Str × Int)) : Prop where
  ex : ∃ es n, K.lookup a = some ⟨.type "dict", none, .dict es n, #[]⟩ ∧ PySem.W.KeysLit w.params es.toList ∧ TabRows es.toList tbl ∧ (a == sysModules) = false
def tabV (tbl : List (Str × Int)) (z : Str) : V := match tbl.lookup z with
  | some v => .int v
  | none => .non
theorem tab_find {z : Str} : ∀ {l : List DictEntry} {tbl : List (Str × Int)}, TabRows l tbl → RelV (tabV tbl z) (((l.find? (fun e => Value.isStrOf z e.key)).map (·.val)).getD .none)
  | [], [], _ => rfl
  | e :: r, (x, v) :: q, h => by
    obtain ⟨⟨t, u, hk, hv⟩, h⟩ := h
    have ih := tab_find (z := z) h
    unfold tabV at ih ⊢
    rw [List.find?_cons, List.lookup_cons]
    have e1 : Value.isStrOf z e.key = (x == z) := by rw [hk]; rfl
    by_cases c : x = z
    · subst c
      rw [e1]
      simp only [beq_self_eq_true]
      show RelV (.int v) _
      rw [Option.map_some, Option.getD_some, hv]
      exact ⟨_, rfl⟩
    · have c1 : (x == z) = false := beq_eq_false_iff_ne.mpr c
      have c2 : (z == x) = false := beq_eq_false_iff_ne.mpr fun k => c k.symm
      rw [e1, c1, c2]
      exact ih
  | [], _ :: _, h => h.elim
  | _ :: _, [], h => h.elim
def tKG (K : PySem.W.Frag) (w : World) (tbl : List (Str × Int)) (td ty : TE) : TE := fun σ H Q => td σ H fun x H1 => ∃ a, x = .ref a ∧ KTab K w a tbl ∧ ty σ H1 fun y H2 => ∃ z, y = .str z ∧ Q (tabV tbl z) H2
section
variable {X : Cx} {o e : Expr} {apos cpos : Pos} {td ty : TE} {tbl : List (Str × Int)}
theorem pe_kget1 (ho : PE X o td) (he : PE X e ty) (m : M1 X o "get" apos e cpos) : PE X (.Call (.Attribute o "get" apos) [e] [] cpos) (tKG X.K X.w tbl td ty) := by
  refine ⟨fun pins s σ H Q I h => ?_⟩
  refine wpAny_Call_method m.base m.few m.line PySem.F.plainAttrs_dict PySem.F.slot_dict_get PySem.F.type_dict_get (thn (ho.run pins s σ H _ I h) fun u s1 ⟨x, H1, I1, rx, a, ex, d, q1⟩ => ?_)
  subst ex
  obtain rfl : u = Value.ref a := rx
  obtain ⟨es, n, hl, hk, hr, hs⟩ := d.ex
  refine ⟨(PySem.W.mapOf_K (prog := X.prog) (w := X.w) I1.kIn hl hk).typeIs, fun b q => ?_, ?_⟩
  · cases q
    exact ⟨_, I1.kIn _ _ hl, rfl⟩
  · rw [m.trees]
    refine Calls.callWith_builtin rfl (Calls.evalArgs_plain (Calls.spliced_cons (thn (he.run pins s1 σ H1 _ I1 q1) fun iv s2 ⟨y, H2, I2, ry, z, ez, q2⟩ => Calls.spliced_nil ?_)))
    subst ez
    obtain ⟨t, rfl⟩ := ry
    have mm := PySem.W.mapOf_K (prog := X.prog) (w := X.w) I2.kIn hl hk
    refine call_meetsIn PySem.F.slot_dict_get mm.typeIs PySem.F.entry_dict_get (PySem.F.args_dict_get_2 _ _) (meets_dict_get (strKind X.prog X.w) a (strKind_is X.prog X.w z t) hs) ⟨_, mm, tabV tbl z, H2, I2.tok _, ?_, q2⟩
    have q := tab_find (z := z) hr
    have e2 : findBy Value.isStrOf es z = ((es.toList.find? (fun e => Value.isStrOf z e.key)).map (·.val)) := by
      unfold findBy
      rw [← Array.find?_toList]
    rw [e2]
    exact q
end
section
variable {X : Cx} {x : Str} {pos : Pos}
theorem pgR {a : Addr} (h : X.mg x = some (.ref a)) (hg : Gl X x := by rfl) (hdb : (x == ("__debug__" : Str)) = false := by decide) : PE X (.Name x pos) (tC (.ref a)) := pe_glob hg h rfl hdb
end
end Vf
namespace Vf
open PySem PySem.Spec PyProof.Rows L2
/-! ### the text by places -/
def topS (i : Nat) : Stmt := PySem.Challenge.pw_attachhall_k16_steps_written.main.body.getD i (.Pass ⟨0, 0, 0, 0⟩)
end Vf
namespace Vf
open PySem PySem.Spec PyProof.Rows L2 Evl
/-! ### the box of numbers -/
abbrev sBeg : Stmt := topS 19
theorem scBeg : FnScope ["_law_script", "_law_stirred", "_law_cell"] ["_law_script"] (defScope sBeg) := ⟨rfl, rfl, rfl, by decide +kernel, rfl, by decide +kernel, by decide +kernel⟩
structure TBeg (mg : Str → Option Value) : Prop where
  z_list : mg "list" = none
  z_int : mg "int" = none
  z_len : mg "len" = none
section
variable {P : Program} {w : World} {K : PySem.W.Frag} {mg : Str → Option Value} {base : Heap}
def spBegO (K : PySem.W.Frag) : Sp := fun vs H Q _ => ∃ (a : Addr) (ns : List Int), vs = [.ref a] ∧ SqL K H a (ns.map V.int) ∧ ns.length ≤ 63 ∧
  ∀ (b l : Addr) (z : Int) (ns' : List Int) (H' : Hp), b ≠ l → Ex H H' → H b = none → H l = none → H' b = some (.lst [.ref l, .int z]) → H' l = some (.lst (ns'.map V.int)) → Q (.ref b) H'
def spBeg (K : PySem.W.Frag) : Sp := fun vs H Q _ => ∃ (a : Addr) (ns : List Int), vs = [.ref a] ∧ SqL K H a (ns.map V.int) ∧ ns.length ≤ 63 ∧
  ∀ (b l : Addr) (H' : Hp), Ex H H' → Box H' b l → Q (.ref b) H'
theorem ok_begun0 {f : Addr} {fd : FuncData} (F : Fun K "_law_begun" "_law_begun" sBeg f fd) (T : TBeg mg) : FnOk P w K mg base CX0 1 f fd ["_law_script"] (spBegO K) := by
  refine F.ok scBeg (fun vs H Q E h => ?_) (fun cdv A outer s H vs Q E hr h => ?_)
  · obtain ⟨a, ns, rfl, _⟩ := h
    rfl
  · obtain ⟨a, ns, rfl, hS, hlen, q⟩ := h
    refine ⟨_, (pss_cons (ps_set (i := 1) scBeg.nd rfl (Or.inl rfl) pe_int)
      (pss_cons (ps_for PassesOwn.never rfl (pi_list (pv 0)) (pg_name (i := 2) scBeg.nd rfl (Or.inl rfl)) (pss_one (ps_set (i := 1) scBeg.nd rfl (Or.inl rfl) (pe_op op_mod (pe_op op_add (pe_op op_add (pe_op op_mul (pv 1) pe_int) (pe_op op_mul (pv 2) pe_int)) pe_int) pe_int))))
      (pss_one (ps_ret (pe_lst (pa_cons (pe_callTy call_list_of (by rfl) T.z_list boot_list (pa_cons (pv 0) pa_nil)) (pa_cons (pe_op op_mul (pv 1) (pe_callTy call_int1 (by rfl) T.z_int boot_int (pa_cons (pe_cmpR op_gt (pe_callB call_len_seq (by rfl) T.z_len PySem.boot_len (pa_cons (pv 0) pa_nil)) pe_int (nomark _)) pa_nil))) pa_nil))))))), ?_⟩
    refine ⟨.ref a, rfl, a, rfl, ⟨_, hS⟩, for_list (K := K) (a := a) (xs := ns.map V.int) (fun i σ H' => ∃ (z : Int) (c : Option V), σ = [some (.ref a), some (.int z), c] ∧ -(2 ^ 64) < z ∧ z < 2 ^ 64 ∧ H' = H)
      ⟨0, none, rfl, by decide, by decide, rfl⟩ (fun i σ H' _ ⟨_, _, _, _, _, e⟩ => by rw [e]; exact hS) ?_ ?_⟩
    · rintro i y σ H' hi ⟨z, c, rfl, h1, h2, rfl⟩
      obtain ⟨u, rfl⟩ : ∃ u, y = V.int u := by
        rw [List.getElem?_map] at hi
        cases e : ns[i]? with
        | none =>
          rw [e] at hi
          cases hi
        | some u =>
          rw [e] at hi
          exact ⟨u, (Option.some.inj hi).symm⟩
      refine ⟨_, rfl, z, 48271, rfl, rfl, .inl ⟨h1, h2⟩, _, rfl, u, 69621, rfl, rfl, .inr (by decide), _, _, rfl, rfl, _, _, rfl, rfl, _, _, rfl, rfl, (by show (0 : Int) < 2147483647; decide), ?_⟩
      refine ⟨_, _, rfl, ?_, ?_, rfl⟩
      · exact Int.lt_of_lt_of_le (by decide) (Int.emod_nonneg _ (by decide))
      · exact Int.lt_of_lt_of_le (Int.emod_lt_of_pos _ (by decide)) (by decide)
    · rintro σ H' ⟨z, c, rfl, h1, h2, rfl⟩
      refine ⟨.ref a, rfl, a, _, rfl, .inl hS, fun l nl => ?_⟩
      have kl : Ex H' (upd H' l (.lst (ns.map V.int))) := Ex.new nl
      have hl : upd H' l (.lst (ns.map V.int)) l = some (.lst (ns.map V.int)) := upd_same
      generalize upd H' l (.lst (ns.map V.int)) = H1 at kl hl ⊢
      have fin : ∀ (k : Bool) (Q' : VK), Q' = Q → (rI CMul fun i j => .int (i * j)) (.int z) (.int (if k then 1 else 0)) H1 fun x H2 => (fun xs H3 => xs.length ≤ sizeLine ∧ ∀ p, H3 p = none → Q' (.ref p) (upd H3 p (.lst xs))) [.ref l, x] H2 := fun k Q' e => by
        subst e
        refine ⟨_, _, rfl, rfl, .inl ⟨h1, h2⟩, (by show 2 ≤ sizeLine; decide), fun b nb => ?_⟩
        have hbl : b ≠ l := (ne_of_none hl nb).symm
        exact q b l _ ns _ hbl (kl.trans (Ex.new nb)) (by
          cases e : H' b with
          | none => rfl
          | some o => rw [kl _ _ e] at nb; cases nb) nl upd_same (by rw [upd_ne hbl.symm]; exact hl)
      refine ⟨.int z, rfl, .ref a, rfl, a, _, rfl, .inl (ex_l kl hS), _, _, rfl, rfl, .inr ⟨_, rfl, ?_⟩⟩
      exact fin _ _ rfl
theorem ok_begun {f : Addr} {fd : FuncData} (F : Fun K "_law_begun" "_law_begun" sBeg f fd) (T : TBeg mg) : FnOk P w K mg base CX0 1 f fd ["_law_script"] (spBeg K) := by
  have G : FnOk P w K mg base CX0 1 f fd ["_law_script"] (spBegO K) := ok_begun0 F T
  refine ⟨fun vs H Q E h => ?_, fun A outer s H args us vs Q E hr e0 hb hv h => ?_⟩
  · obtain ⟨a, ns, rfl, _⟩ := h
    rfl
  · obtain ⟨a, ns, rfl, hS, hlen, q⟩ := h
    refine codeAny_mono (G.run A outer s H args us [.ref a] (fun v H2 => ∃ b l z ns, v = .ref b ∧ b ≠ l ∧ Ex H H2 ∧ H b = none ∧ H l = none ∧ H2 b = some (.lst [.ref l, .int z]) ∧ H2 l = some (.lst (ns.map V.int))) E hr e0 hb hv
      ⟨a, ns, rfl, hS, hlen, fun b l z ns' H' h1 h2 h3 h4 h5 h6 => ⟨b, l, z, ns', rfl, h1, h2, h3, h4, h5, h6⟩⟩) fun r s' hq => ?_
    cases r with
    | error e => exact hq
    | ok fl =>
      cases fl with
      | ret u =>
        obtain ⟨v, H2, os, bare, un, hok, rv, b, l, z, ns2, rfl, hne, ex, n1, n2, hb2, hl2⟩ := hq
        exact ⟨.ref b, closed H2 b l, os, bare, un_new un n1 n2 hb2 hl2, hok_close hok hb2 hl2, rv, q b l _ (ex_new2 ex n1 n2) ⟨hne, upd_same, by unfold closed; rw [upd_ne (Ne.symm hne), upd_same]⟩⟩
      | next => exact hq
      | brk => exact hq
      | cont => exact hq
end
end Vf
namespace Vf
open PySem PySem.Spec PyProof.Rows L2 Evl
/-! ### a draw -/
abbrev sTak : Stmt := topS 20
theorem scTak : FnScope ["_law_box", "_law_many", "_law_number"] ["_law_box", "_law_many"] (defScope sTak) := ⟨rfl, rfl, rfl, by decide +kernel, rfl, by decide +kernel, by decide +kernel⟩
section
variable {P : Program} {w : World} {K : PySem.W.Frag} {mg : Str → Option Value} {base : Heap}
theorem ok_take {f : Addr} {fd : FuncData} (F : Fun K "_law_take" "_law_take" sTak f fd) (m : Int) (h0 : 0 < m) (h1 : m < 1073741824) :
    FnOk P w K mg base CX0 1 f fd ["_law_box", "_law_many"] (spOpen (fun v => ∃ i, v = V.int i ∧ 0 ≤ i ∧ i < m) (fun r => r = [V.int m])) := by
  refine F.ok scTak (fun vs H Q E h => ?_) (fun cdv A outer s H vs Q E hr h => ?_)
  · obtain ⟨b, l, z, ns, rest, rfl, rfl, _⟩ := h
    rfl
  · obtain ⟨b, l, z, ns, rest, rfl, rfl, hne, hb, hl, q⟩ := h
    refine ⟨_, (pss_cons (ps_if (pt_cmpR (op_eqD hr.units) (pe_ix ix_list (pv 0) pe_int (fun _ _ => rfl)) (pe_lst pa_nil) (nomark _)) (pss_cons (ps_asg (pe_op op_mod (pe_op op_mul (pe_ix ix_list (pv 0) pe_int (fun _ _ => rfl)) pe_int) pe_int) (pg_sub (pv 0) pe_int set_list))
      (pss_one (ps_ret (pe_op op_mod (pe_op op_fdivN (pe_ix ix_list (pv 0) pe_int (fun _ _ => rfl)) pe_int) (pv 1))))) pss_nil)
      (pss_cons (ps_set (i := 2) scTak.nd rfl (Or.inl rfl) (pe_ix ix_list (pe_ix ix_list (pv 0) pe_int (fun _ _ => rfl)) pe_int (fun _ _ => rfl)))
      (pss_cons (ps_asg (pe_op op_fdivN (pv 2) (pv 1)) (pg_sub (pe_ix ix_list (pv 0) pe_int (fun _ _ => rfl)) pe_int set_list))
      (pss_cons (ps_if (PW.pt (pw_or (pt_cmpR op_eq (pe_ix ix_list (pe_ix ix_list (pv 0) pe_int (fun _ _ => rfl)) pe_int (fun _ _ => rfl)) pe_int (nomark _)) (pw_or1 (pt_cmpR op_eq (pe_ix ix_list (pe_ix ix_list (pv 0) pe_int (fun _ _ => rfl)) pe_int (fun _ _ => rfl)) (pe_un un_neg pe_int) (nomark _))))) (pss_one (ps_expr (pe_bm PySem.F.plainAttrs_list PySem.F.slot_list_pop PySem.F.type_list_pop mt_popAt (pe_ix ix_list (pv 0) pe_int (fun _ _ => rfl)) (pa_cons pe_int pa_nil)))) pss_nil)
      (pss_one (ps_ret (pe_op op_mod (pv 2) (pv 1)))))))), ?_⟩
    have hmod : ∀ i : Int, ∃ j, V.int (i % m) = V.int j ∧ 0 ≤ j ∧ j < m := fun i => ⟨i % m, rfl, Int.emod_nonneg _ (by omega), Int.emod_lt_of_pos _ h0⟩
    refine ⟨.ref b, rfl, b, _, 0, .ref l, rfl, rfl, SqL.of hb, atI_nat (j := 0) rfl, Nat.zero_le _, fun p np => ?_⟩
    have kp : ∀ c o, H c = some o → (upd H p (.lst [])) c = some o := fun c o e => by rw [upd_ne (ne_of_none e np)]; exact e
    have hb1 := kp _ _ hb
    have hl1 := kp _ _ hl
    have pp : (upd H p (.lst [])) p = some (.lst []) := upd_same
    generalize upd H p (HO.lst []) = H1 at kp hb1 hl1 pp ⊢
    refine ⟨.list (ns.map PyData.int), .list [], .lst (SqL.of hl1) (dp_ints ns), .lst (SqL.of pp) .nil, sh_ints ns, rfl, _, rfl, ?_⟩
    rw [eqv_nil]
    refine ite2 (fun e => ?_) (fun e => ?_)
    · have e0 : ns = [] := of_decide_eq_true e
      subst e0
      -- the second number turned on
      refine ⟨.ref b, rfl, b, _, 1, .int z, rfl, rfl, SqL.of hb1, atI_nat (j := 1) rfl, _, _, rfl, rfl, .inr (by decide), _, _, rfl, rfl, (by show (0 : Int) < 2147483647; decide), .ref b, rfl, b, _, 1, 1, rfl, rfl, hb1, rfl, ?_⟩
      refine ⟨.ref b, rfl, b, _, 1, .int (z * 48271 % 2147483647), rfl, rfl, SqL.of upd_same, atI_nat (j := 1) rfl, _, _, rfl, rfl, ⟨by decide, by decide⟩, _, rfl, _, _, rfl, rfl, h0, ?_⟩
      refine q _ _ (z * 48271 % 2147483647) [] (hmod _) (fun c o h2 h3 e => by rw [upd_ne h2]; exact kp c o e) upd_same (by rw [upd_ne (Ne.symm hne)]; exact hl1)
    · have e0 : ns ≠ [] := fun z => e (decide_eq_true z)
      obtain ⟨n, r, rfl⟩ : ∃ n r, ns = n :: r := by
        cases ns with
        | nil => exact absurd rfl e0
        | cons n r => exact ⟨n, r, rfl⟩
      refine ⟨.ref b, rfl, b, _, 0, .ref l, rfl, rfl, SqL.of hb1, atI_nat (j := 0) rfl, l, _, 0, .int n, rfl, rfl, SqL.of hl1, atI_nat (j := 0) rfl, ?_⟩
      refine ⟨.int n, rfl, .int m, rfl, _, _, rfl, rfl, ⟨by omega, by omega⟩, .ref b, rfl, b, _, 0, .ref l, rfl, rfl, SqL.of hb1, atI_nat (j := 0) rfl, l, _, 0, 0, rfl, rfl, hl1, ixN_nat (j := 0) (by simp), ?_⟩
      have hb2 : upd H1 l (.lst (((n :: r).map V.int).set 0 (.int (n.fdiv m)))) b = some (.lst [.ref l, .int z]) := by rw [upd_ne hne]; exact hb1
      have hl2 : upd H1 l (.lst (((n :: r).map V.int).set 0 (.int (n.fdiv m)))) l = some (.lst ((n.fdiv m :: r).map V.int)) := upd_same
      have kp2 : ∀ c o, c ≠ l → H c = some o → upd H1 l (.lst (((n :: r).map V.int).set 0 (.int (n.fdiv m)))) c = some o := fun c o h e => by rw [upd_ne h]; exact kp c o e
      generalize upd H1 l (.lst (((n :: r).map V.int).set 0 (.int (n.fdiv m)))) = H2 at hb2 hl2 kp2 ⊢
      have fin : ∀ (H' : Hp) (ns' : List Int), (∀ c o, c ≠ b → c ≠ l → H c = some o → H' c = some o) → H' b = some (.lst [.ref l, .int z]) → H' l = some (.lst (ns'.map V.int)) → Q (.int (n % m)) H' := fun H' ns' h2 h3 h4 => q _ _ z ns' (hmod _) h2 h3 h4
      have fin2 : ∀ (H' : Hp) (ns' : List Int), (∀ c o, c ≠ b → c ≠ l → H c = some o → H' c = some o) → H' b = some (.lst [.ref l, .int z]) → H' l = some (.lst (ns'.map V.int)) →
          tRet (tOp (rI (fun _ j => 0 < j) fun i j => .int (i % j)) (tVar 2) (tVar 1)) { nx := fun _ H' => Q .non H', rt := Q } [some (V.ref b), some (V.int m), some (V.int n)] H' :=
        fun H' ns' h2 h3 h4 => ⟨.int n, rfl, .int m, rfl, _, _, rfl, rfl, h0, fin H' ns' h2 h3 h4⟩
      have pop : tDrop (tBM K "list" rPopAt (tOp (rIxL K) (tVar 0) (tC (.int 0))) (tCons (tC (.int 0)) tNil)) { nx := fun σ H => tRet (tOp (rI (fun _ j => 0 < j) fun i j => .int (i % j)) (tVar 2) (tVar 1)) { nx := fun _ H' => Q .non H', rt := Q } σ H, rt := Q } [some (V.ref b), some (V.int m), some (V.int n)] H2 := by
        refine ⟨.ref b, rfl, b, _, 0, .ref l, rfl, rfl, SqL.of hb2, atI_nat (j := 0) rfl, .inl ⟨rfl, _, SqL.of hl2⟩, l, _, 0, 0, .int (n.fdiv m), rfl, rfl, hl2, by decide, by decide, seq0 _ _, rfl, ?_⟩
        exact fin2 _ r (fun c o _ h3 e => by rw [upd_ne h3]; exact kp2 c o h3 e) (by rw [upd_ne hne]; exact hb2) upd_same
      refine ⟨.ref b, rfl, b, _, 0, .ref l, rfl, rfl, SqL.of hb2, atI_nat (j := 0) rfl, l, _, 0, .int (n.fdiv m), rfl, rfl, SqL.of hl2, atI_nat (j := 0) rfl, rfl, _, rfl, ?_⟩
      refine ite2 (fun _ => iteT pop) (fun _ => ?_)
      refine ⟨.ref b, rfl, b, _, 0, .ref l, rfl, rfl, SqL.of hb2, atI_nat (j := 0) rfl, l, _, 0, .int (n.fdiv m), rfl, rfl, SqL.of hl2, atI_nat (j := 0) rfl, 1, rfl, rfl, _, rfl, ?_⟩
      exact ite2 (fun _ => pop) (fun _ => fin2 H2 _ (fun c o _ h3 e => kp2 c o h3 e) hb2 hl2)
def spTak : Sp := fun vs H Q _ => ∃ (b l : Addr) (m : Int), vs = [.ref b, .int m] ∧ Box H b l ∧ 0 < m ∧ m < 1073741824 ∧ ∀ (i : Int) (H' : Hp), Ex H H' → 0 ≤ i → i < m → Q (.int i) H'
theorem ok_take2 {f : Addr} {fd : FuncData} (F : Fun K "_law_take" "_law_take" sTak f fd) : FnOk P w K mg base CX0 1 f fd ["_law_box", "_law_many"] spTak := by
  have G := hide_fn (P := P) (w := w) (K := K) (mg := mg) (base := base) (k := 1) (f := f) (fd := fd) (ps := ["_law_box", "_law_many"]) (R := fun r v => ∃ m i, r = [V.int m] ∧ v = V.int i ∧ 0 ≤ i ∧ i < m) (pre := fun r => ∃ m, r = [V.int m] ∧ 0 < m ∧ m < 1073741824)
    (fun r0 ⟨m, e, h0, h1⟩ => (ok_take F m h0 h1).imp fun vs H Q E ⟨b, l, z, ns, rest, e1, e2, e3, e4, e5, q⟩ => ⟨b, l, z, ns, rest, e1, e2.trans e, e3, e4, e5, fun v H' z' ns' ⟨i, x1, x2, x3⟩ => q v H' z' ns' ⟨m, i, e, x1, x2, x3⟩⟩)
    (fun r ⟨m, e, _⟩ => by rw [e]; rfl)
  refine G.imp fun vs H Q E ⟨b, l, m, e, B, h0, h1, q⟩ => ⟨b, l, [.int m], e, ⟨m, rfl, h0, h1⟩, B, fun v H' ⟨m', i, x1, x2, x3, x4⟩ ex => ?_⟩
  have em : m = m' := V.int.inj (List.cons.inj x1).1
  subst em
  subst x2
  exact q i H' ex x3 x4
end
structure CTak (P : Program) (w : World) (K : PySem.W.Frag) (mg : Str → Option Value) (base : Heap) : Prop where
  law_take : Cal P w K mg base "_law_take" 1 ["_law_box", "_law_many"] spTak
end Vf
namespace Vf
open PySem PySem.Spec PyProof.Rows L2 Evl
/-! ### the same data -/
abbrev sAli : Stmt := topS 21
theorem scAli : FnScope ["_law_found", "_law_due", "_law_k"] ["_law_found", "_law_due"] (defScope sAli) := ⟨rfl, rfl, rfl, by decide +kernel, rfl, by decide +kernel, by decide +kernel⟩
structure TAli (mg : Str → Option Value) : Prop where
  z_bool : mg "bool" = none
  z_int : mg "int" = none
  z_str : mg "str" = none
  z_list : mg "list" = none
  z_tuple : mg "tuple" = none
  z_isinstance : mg "isinstance" = none
  z_len : mg "len" = none
  z_range : mg "range" = none
def spAli (K : PySem.W.Frag) (n : Nat) : Sp := fun vs H Q _ => ∃ (x y : V) (d : PyData), vs = [x, y] ∧ Dp K H x d ∧ Dp K H y d ∧ good n d = true ∧ n ≤ 60 ∧ Q (.bl true) H
theorem isi_of {K : PySem.W.Frag} {H : Hp} {x : V} {t u : String} {b : Bool} {Q : VK} (ty : TyX K H x (.type t)) (h : kitB t u = some b) (q : Q (.bl b) H) : rIsi K [x, .ty u] H Q := ⟨x, .ty u, _, _, b, rfl, .ty u, ty, kit_ty h, q⟩
theorem sh_of {d : PyData} {n : Nat} (h : PyData.canLay0 d = true) (hd : PyData.depth d ≤ n) (hn : n ≤ 60) : SeqAt.shaped d = true := by
  show (PyData.canLay0 d && decide (PyData.depth d ≤ 64)) = true
  rw [h, decide_eq_true (by omega)]
  rfl
theorem dpall_get {K : PySem.W.Frag} {H : Hp} : ∀ {xs : List V} {ds : List PyData} {i : Nat} {d : PyData}, DpAll K H xs ds → ds[i]? = some d → ∃ x, xs[i]? = some x ∧ Dp K H x d
  | _, _, _, _, .nil, e => by simp at e
  | _, _, 0, _, .cons h _, e => by
    simp at e
    subst e
    exact ⟨_, rfl, h⟩
  | _, _, i + 1, _, .cons _ t, e => by
    obtain ⟨x, h1, h2⟩ := dpall_get (i := i) t (by simpa using e)
    exact ⟨x, by simpa using h1, h2⟩
theorem dpall_len {K : PySem.W.Frag} {H : Hp} : ∀ {xs : List V} {ds : List PyData}, DpAll K H xs ds → xs.length = ds.length
  | _, _, .nil => rfl
  | _, _, .cons _ t => by rw [List.length_cons, List.length_cons, dpall_len t]
theorem depth_get : ∀ {ds : List PyData} {i : Nat} {d : PyData}, ds[i]? = some d → PyData.depth d ≤ PyData.depthAll ds
  | [], _, _, e => by simp at e
  | x :: r, 0, d, e => by
    simp at e
    subst e
    exact Nat.le_max_left _ _
  | x :: r, i + 1, d, e => Nat.le_trans (depth_get (ds := r) (i := i) (by simpa using e)) (Nat.le_max_right _ _)
theorem lay_get : ∀ {ds : List PyData} {i : Nat} {d : PyData}, PyData.canLayAll0 ds = true → ds[i]? = some d → PyData.canLay0 d = true
  | [], _, _, _, e => by simp at e
  | x :: r, 0, d, h, e => by
    simp at e
    subst e
    exact (Bool.and_eq_true_iff.mp (show (PyData.canLay0 x && PyData.canLayAll0 r) = true from h)).1
  | x :: r, i + 1, d, h, e => lay_get (ds := r) (i := i) (Bool.and_eq_true_iff.mp (show (PyData.canLay0 x && PyData.canLayAll0 r) = true from h)).2 (by simpa using e)
theorem ty_list {K : PySem.W.Frag} {H : Hp} {a : Addr} {xs : List V} (h : SqL K H a xs) : TyX K H (.ref a) (.type "list") := by
  rcases h with (h | ⟨o, h⟩) | h
  · exact .base (.lst h)
  · exact .base (.frz h)
  · obtain ⟨_, _, _, h, c, _⟩ := h
    exact .kList h c
theorem ty_tup {K : PySem.W.Frag} {H : Hp} {a : Addr} {xs : List V} (h : SqT K H a xs) : TyX K H (.ref a) (.type "tuple") := by
  rcases h with (h | ⟨o, h⟩) | h
  · exact .base (.tup h)
  · exact .fTuple h
  · obtain ⟨_, _, _, h, c, _⟩ := h
    exact .kTuple h c
section
variable {P : Program} {w : World} {K : PySem.W.Frag} {mg : Str → Option Value} {base : Heap}
structure CAli (P : Program) (w : World) (K : PySem.W.Frag) (mg : Str → Option Value) (base : Heap) (k : Nat) (sp : Sp) : Prop where
  law_alike : Cal P w K mg base "_law_alike" k ["_law_found", "_law_due"] sp
theorem ok_alike1 {f : Addr} {fd : FuncData} {k n : Nat} {sp : Sp} (F : Fun K "_law_alike" "_law_alike" sAli f fd) (T : TAli mg) (C : CAli P w K mg base k sp)
    (hC : ∀ (x y : V) (d : PyData) (H : Hp) (Q : VK) (E : XK), Dp K H x d → Dp K H y d → (∃ m, n = m + 1 ∧ good m d = true) → n ≤ 60 → Q (.bl true) H → sp [x, y] H Q E) : FnOk P w K mg base CX0 (k + 1) f fd ["_law_found", "_law_due"] (spAli K n) := by
  refine F.ok scAli (fun vs H Q E h => ?_) (fun cdv A outer s H vs Q E hr h => ?_)
  · obtain ⟨x, y, d, rfl, _⟩ := h
    rfl
  · obtain ⟨x, y, d, rfl, hx, hy, hg, hn, q⟩ := h
    obtain ⟨hl, hd⟩ := good_lay n d hg
    refine ⟨_, (pss_cons (ps_if (pt_cmpR op_isN (pv 1) pe_non (nomark _)) (pss_one (ps_ret (pe_cmpR op_isN (pv 0) pe_non (nomark _)))) pss_nil)
      (pss_cons (ps_if (pt_val (pe_callB call_isi (by rfl) T.z_isinstance boot_isinstance (pa_cons (pv 1) (pa_cons (pe_bltn (v := .ty "bool") (by rfl) T.z_bool boot_bool rfl) pa_nil)))) (pss_one (ps_ret (pe_and (pe_callB call_isi (by rfl) T.z_isinstance boot_isinstance (pa_cons (pv 0) (pa_cons (pe_bltn (v := .ty "bool") (by rfl) T.z_bool boot_bool rfl) pa_nil))) (pe_one (pe_cmpR (op_eqD hr.units) (pv 0) (pv 1) (nomark _)))))) pss_nil)
      (pss_cons (ps_if (pt_val (pe_callB call_isi (by rfl) T.z_isinstance boot_isinstance (pa_cons (pv 1) (pa_cons (pe_bltn (v := .ty "int") (by rfl) T.z_int boot_int rfl) pa_nil)))) (pss_one (ps_ret (pe_and (pe_callB call_isi (by rfl) T.z_isinstance boot_isinstance (pa_cons (pv 0) (pa_cons (pe_bltn (v := .ty "int") (by rfl) T.z_int boot_int rfl) pa_nil))) (pe_and (pe_not (pe_callB call_isi (by rfl) T.z_isinstance boot_isinstance (pa_cons (pv 0) (pa_cons (pe_bltn (v := .ty "bool") (by rfl) T.z_bool boot_bool rfl) pa_nil)))) (pe_one (pe_cmpR (op_eqD hr.units) (pv 0) (pv 1) (nomark _))))))) pss_nil)
      (pss_cons (ps_if (pt_val (pe_callB call_isi (by rfl) T.z_isinstance boot_isinstance (pa_cons (pv 1) (pa_cons (pe_bltn (v := .ty "str") (by rfl) T.z_str boot_str rfl) pa_nil)))) (pss_one (ps_ret (pe_and (pe_callB call_isi (by rfl) T.z_isinstance boot_isinstance (pa_cons (pv 0) (pa_cons (pe_bltn (v := .ty "str") (by rfl) T.z_str boot_str rfl) pa_nil))) (pe_one (pe_cmpR (op_eqD hr.units) (pv 0) (pv 1) (nomark _)))))) pss_nil)
      (pss_cons (ps_if (PW.pt (pw_or (pt_cmpR op_ne (pe_callB call_isi (by rfl) T.z_isinstance boot_isinstance (pa_cons (pv 1) (pa_cons (pe_bltn (v := .ty "tuple") (by rfl) T.z_tuple boot_tuple rfl) pa_nil))) (pe_callB call_isi (by rfl) T.z_isinstance boot_isinstance (pa_cons (pv 0) (pa_cons (pe_bltn (v := .ty "tuple") (by rfl) T.z_tuple boot_tuple rfl) pa_nil))) (nomark _)) (pw_or1 (pt_cmpR op_ne (pe_callB call_isi (by rfl) T.z_isinstance boot_isinstance (pa_cons (pv 1) (pa_cons (pe_bltn (v := .ty "list") (by rfl) T.z_list boot_list rfl) pa_nil))) (pe_callB call_isi (by rfl) T.z_isinstance boot_isinstance (pa_cons (pv 0) (pa_cons (pe_bltn (v := .ty "list") (by rfl) T.z_list boot_list rfl) pa_nil))) (nomark _))))) (pss_one (ps_ret pe_bl)) pss_nil)
      (pss_cons (ps_if (pt_cmpR op_ne (pe_callB call_len_seq (by rfl) T.z_len PySem.boot_len (pa_cons (pv 0) pa_nil)) (pe_callB call_len_seq (by rfl) T.z_len PySem.boot_len (pa_cons (pv 1) pa_nil)) (nomark _)) (pss_one (ps_ret pe_bl)) pss_nil)
      (pss_cons (ps_for PassesOwn.never rfl (pi_range1 rfl T.z_range (pa_cons (pe_callB call_len_seq (by rfl) T.z_len PySem.boot_len (pa_cons (pv 1) pa_nil)) pa_nil)) (pg_name (i := 2) scAli.nd rfl (Or.inl rfl)) (pss_one (ps_if (pt_not (pt_val (pcall C.law_alike (hr.mono (by first | decide | omega)) (pa_cons (pe_ix ix_seq (pv 0) (pv 2) (fun _ _ => rfl)) (pa_cons (pe_ix ix_seq (pv 1) (pv 2) (fun _ _ => rfl)) pa_nil))))) (pss_one (ps_ret pe_bl)) pss_nil)))
      (pss_one (ps_ret pe_bl))))))))), ?_⟩
    refine ⟨y, rfl, rfl, _, rfl, ?_⟩
    cases d with
    | none =>
      cases hx
      cases hy
      rw [decide_eq_true rfl]
      refine iteT ?_
      exact ⟨.non, rfl, rfl, q⟩
    | bool b =>
      cases hx
      cases hy
      refine iteF ?_
      refine ⟨.bl b, rfl, ?_⟩
      refine ⟨_, .ty "bool", _, _, true, rfl, .ty "bool", (.base (.bl b)), kit_ty (show kitB "bool" "bool" = some true by decide +kernel), ?_⟩
      refine ⟨_, rfl, iteT ?_⟩
      refine ⟨.bl b, rfl, ?_⟩
      refine ⟨_, .ty "bool", _, _, true, rfl, .ty "bool", (.base (.bl b)), kit_ty (show kitB "bool" "bool" = some true by decide +kernel), ?_⟩
      refine ⟨_, rfl, iteT ?_⟩
      refine ⟨.bl b, rfl, .bl b, rfl, .bool b, .bool b, .bl b, .bl b, rfl, rfl, ?_⟩
      rw [SeqAt.eqv_refl _ rfl]
      exact q
    | int i =>
      cases hx
      cases hy
      refine iteF ?_
      refine ⟨.int i, rfl, ?_⟩
      refine ⟨_, .ty "bool", _, _, false, rfl, .ty "bool", (.base (.int i)), kit_ty (show kitB "int" "bool" = some false by decide +kernel), ?_⟩
      refine ⟨_, rfl, iteF ?_⟩
      refine ⟨.int i, rfl, ?_⟩
      refine ⟨_, .ty "int", _, _, true, rfl, .ty "int", (.base (.int i)), kit_ty (show kitB "int" "int" = some true by decide +kernel), ?_⟩
      refine ⟨_, rfl, iteT ?_⟩
      refine ⟨.int i, rfl, ?_⟩
      refine ⟨_, .ty "int", _, _, true, rfl, .ty "int", (.base (.int i)), kit_ty (show kitB "int" "int" = some true by decide +kernel), ?_⟩
      refine ⟨_, rfl, iteT ?_⟩
      refine ⟨.int i, rfl, ?_⟩
      refine ⟨_, .ty "bool", _, _, false, rfl, .ty "bool", (.base (.int i)), kit_ty (show kitB "int" "bool" = some false by decide +kernel), ?_⟩
      refine ⟨_, rfl, _, rfl, iteT ?_⟩
      refine ⟨.int i, rfl, .int i, rfl, .int i, .int i, .int i, .int i, rfl, rfl, ?_⟩
      rw [SeqAt.eqv_refl _ rfl]
      exact q
    | str z =>
      cases hx
      cases hy
      have hs := sh_of hl hd hn
      refine iteF ?_
      refine ⟨.str z, rfl, ?_⟩
      refine ⟨_, .ty "bool", _, _, false, rfl, .ty "bool", (.base (.str z)), kit_ty (show kitB "str" "bool" = some false by decide +kernel), ?_⟩
      refine ⟨_, rfl, iteF ?_⟩
      refine ⟨.str z, rfl, ?_⟩
      refine ⟨_, .ty "int", _, _, false, rfl, .ty "int", (.base (.str z)), kit_ty (show kitB "str" "int" = some false by decide +kernel), ?_⟩
      refine ⟨_, rfl, iteF ?_⟩
      refine ⟨.str z, rfl, ?_⟩
      refine ⟨_, .ty "str", _, _, true, rfl, .ty "str", (.base (.str z)), kit_ty (show kitB "str" "str" = some true by decide +kernel), ?_⟩
      refine ⟨_, rfl, iteT ?_⟩
      refine ⟨.str z, rfl, ?_⟩
      refine ⟨_, .ty "str", _, _, true, rfl, .ty "str", (.base (.str z)), kit_ty (show kitB "str" "str" = some true by decide +kernel), ?_⟩
      refine ⟨_, rfl, iteT ?_⟩
      refine ⟨.str z, rfl, .str z, rfl, .str z, .str z, .str z, .str z, hs, hs, ?_⟩
      rw [SeqAt.eqv_refl _ hl]
      exact q
    | dict _ => cases hx
    | list ds =>
      cases hx with
      | @lst a xs _ ha hA =>
      cases hy with
      | @lst b ys _ hb hB =>
      have ta := ty_list ha
      have tb := ty_list hb
      refine iteF ?_
      refine ⟨.ref b, rfl, ?_⟩
      refine ⟨_, .ty "bool", _, _, false, rfl, .ty "bool", tb, kit_ty (show kitB "list" "bool" = some false by decide +kernel), ?_⟩
      refine ⟨_, rfl, iteF ?_⟩
      refine ⟨.ref b, rfl, ?_⟩
      refine ⟨_, .ty "int", _, _, false, rfl, .ty "int", tb, kit_ty (show kitB "list" "int" = some false by decide +kernel), ?_⟩
      refine ⟨_, rfl, iteF ?_⟩
      refine ⟨.ref b, rfl, ?_⟩
      refine ⟨_, .ty "str", _, _, false, rfl, .ty "str", tb, kit_ty (show kitB "list" "str" = some false by decide +kernel), ?_⟩
      refine ⟨_, rfl, iteF ?_⟩
      refine ⟨.ref b, rfl, ?_⟩
      refine ⟨_, .ty "tuple", _, _, false, rfl, .ty "tuple", tb, kit_ty (show kitB "list" "tuple" = some false by decide +kernel), ?_⟩
      refine ⟨.ref a, rfl, ?_⟩
      refine ⟨_, .ty "tuple", _, _, false, rfl, .ty "tuple", ta, kit_ty (show kitB "list" "tuple" = some false by decide +kernel), ?_⟩
      refine ⟨rfl, _, rfl, iteF ?_⟩
      refine ⟨.ref b, rfl, ?_⟩
      refine ⟨_, .ty "list", _, _, true, rfl, .ty "list", tb, kit_ty (show kitB "list" "list" = some true by decide +kernel), ?_⟩
      refine ⟨.ref a, rfl, ?_⟩
      refine ⟨_, .ty "list", _, _, true, rfl, .ty "list", ta, kit_ty (show kitB "list" "list" = some true by decide +kernel), ?_⟩
      refine ⟨rfl, _, rfl, iteF ?_⟩
      have el : xs.length = ys.length := (dpall_len hA).trans (dpall_len hB).symm
      refine ⟨.ref a, rfl, a, xs, rfl, .inl ha, .ref b, rfl, b, ys, rfl, .inl hb, rfl, _, rfl, ?_⟩
      rw [el]
      refine iteNS rfl ?_
      cases n with
      | zero => cases hg
      | succ m =>
      have hg2 : (decide (ds.length ≤ 16777216) && ds.all (good m)) = true := hg
      have hlen : ys.length ≤ 16777216 := by
        rw [dpall_len hB]
        exact good_len hg2
      refine ⟨.ref b, rfl, b, ys, rfl, .inl hb, _, rfl, by omega, by omega, ?_⟩
      refine for_range (lo := 0) (n := ((ys.length : Nat) : Int).toNat) (fun i σ H' => ∃ c, σ = [some (.ref a), some (.ref b), c] ∧ H' = H) ⟨none, rfl, rfl⟩ ?_ ?_
      · rintro i σ H' hi ⟨c, rfl, rfl⟩
        have hi2 : i < ds.length := by rw [← dpall_len hB]; omega
        obtain ⟨x, gx, dx⟩ := dpall_get hA (List.getElem?_eq_getElem hi2)
        obtain ⟨y, gy, dy⟩ := dpall_get hB (List.getElem?_eq_getElem hi2)
        refine ⟨.ref a, rfl, _, rfl, .inl ⟨a, xs, _, x, rfl, rfl, ha, at_of (by omega) gx, .ref b, rfl, _, rfl, .inl ⟨b, ys, _, y, rfl, rfl, hb, at_of (by omega) gy, ?_⟩⟩⟩
        exact hC x y _ _ _ _ dx dy ⟨m, rfl, good_get hg2 (List.getElem?_eq_getElem hi2)⟩ hn ⟨_, rfl, iteF ⟨_, rfl, rfl⟩⟩
      · rintro σ H' ⟨c, rfl, rfl⟩
        exact q
    | tuple ds =>
      cases hx with
      | @tup a xs _ ha hA =>
      cases hy with
      | @tup b ys _ hb hB =>
      have ta := ty_tup ha
      have tb := ty_tup hb
      refine iteF ?_
      refine ⟨.ref b, rfl, ?_⟩
      refine ⟨_, .ty "bool", _, _, false, rfl, .ty "bool", tb, kit_ty (show kitB "tuple" "bool" = some false by decide +kernel), ?_⟩
      refine ⟨_, rfl, iteF ?_⟩
      refine ⟨.ref b, rfl, ?_⟩
      refine ⟨_, .ty "int", _, _, false, rfl, .ty "int", tb, kit_ty (show kitB "tuple" "int" = some false by decide +kernel), ?_⟩
      refine ⟨_, rfl, iteF ?_⟩
      refine ⟨.ref b, rfl, ?_⟩
      refine ⟨_, .ty "str", _, _, false, rfl, .ty "str", tb, kit_ty (show kitB "tuple" "str" = some false by decide +kernel), ?_⟩
      refine ⟨_, rfl, iteF ?_⟩
      refine ⟨.ref b, rfl, ?_⟩
      refine ⟨_, .ty "tuple", _, _, true, rfl, .ty "tuple", tb, kit_ty (show kitB "tuple" "tuple" = some true by decide +kernel), ?_⟩
      refine ⟨.ref a, rfl, ?_⟩
      refine ⟨_, .ty "tuple", _, _, true, rfl, .ty "tuple", ta, kit_ty (show kitB "tuple" "tuple" = some true by decide +kernel), ?_⟩
      refine ⟨rfl, _, rfl, iteF ?_⟩
      refine ⟨.ref b, rfl, ?_⟩
      refine ⟨_, .ty "list", _, _, false, rfl, .ty "list", tb, kit_ty (show kitB "tuple" "list" = some false by decide +kernel), ?_⟩
      refine ⟨.ref a, rfl, ?_⟩
      refine ⟨_, .ty "list", _, _, false, rfl, .ty "list", ta, kit_ty (show kitB "tuple" "list" = some false by decide +kernel), ?_⟩
      refine ⟨rfl, _, rfl, iteF ?_⟩
      have el : xs.length = ys.length := (dpall_len hA).trans (dpall_len hB).symm
      refine ⟨.ref a, rfl, a, xs, rfl, .inr ha, .ref b, rfl, b, ys, rfl, .inr hb, rfl, _, rfl, ?_⟩
      rw [el]
      refine iteNS rfl ?_
      cases n with
      | zero => cases hg
      | succ m =>
      have hg2 : (decide (ds.length ≤ 16777216) && ds.all (good m)) = true := hg
      have hlen : ys.length ≤ 16777216 := by
        rw [dpall_len hB]
        exact good_len hg2
      refine ⟨.ref b, rfl, b, ys, rfl, .inr hb, _, rfl, by omega, by omega, ?_⟩
      refine for_range (lo := 0) (n := ((ys.length : Nat) : Int).toNat) (fun i σ H' => ∃ c, σ = [some (.ref a), some (.ref b), c] ∧ H' = H) ⟨none, rfl, rfl⟩ ?_ ?_
      · rintro i σ H' hi ⟨c, rfl, rfl⟩
        have hi2 : i < ds.length := by rw [← dpall_len hB]; omega
        obtain ⟨x, gx, dx⟩ := dpall_get hA (List.getElem?_eq_getElem hi2)
        obtain ⟨y, gy, dy⟩ := dpall_get hB (List.getElem?_eq_getElem hi2)
        refine ⟨.ref a, rfl, _, rfl, .inr (.inl ⟨a, xs, _, x, rfl, rfl, ha, at_of (by omega) gx, .ref b, rfl, _, rfl, .inr (.inl ⟨b, ys, _, y, rfl, rfl, hb, at_of (by omega) gy, ?_⟩)⟩)⟩
        exact hC x y _ _ _ _ dx dy ⟨m, rfl, good_get hg2 (List.getElem?_eq_getElem hi2)⟩ hn ⟨_, rfl, iteF ⟨_, rfl, rfl⟩⟩
      · rintro σ H' ⟨c, rfl, rfl⟩
        exact q
theorem ok_alike {f : Addr} {fd : FuncData} (F : Fun K "_law_alike" "_law_alike" sAli f fd) (T : TAli mg) (hm : mg "_law_alike" = some (.ref f)) (hb : Binds K fd ["_law_found", "_law_due"] []) : ∀ n : Nat, FnOk P w K mg base CX0 (n + 1) f fd ["_law_found", "_law_due"] (spAli K n)
  | 0 => ok_alike1 (sp := fun _ _ _ _ => False) F T ⟨⟨f, fd, ⟨fun _ _ _ _ h => h.elim, fun _ _ _ _ _ _ _ _ _ _ _ _ _ h => h.elim⟩, hm, F.kp, hb⟩⟩ fun _ _ _ _ _ _ _ _ h => by
      obtain ⟨m, h, _⟩ := h
      exact absurd h (by omega)
  | n + 1 => ok_alike1 F T ⟨⟨f, fd, ok_alike F T hm hb n, hm, F.kp, hb⟩⟩ fun x y d H Q E hx hy h hn q => by
      obtain ⟨m, h, hg⟩ := h
      obtain rfl : m = n := by omega
      exact ⟨x, y, d, rfl, hx, hy, hg, by omega, q⟩
end
end Vf
namespace Vf
open PySem PySem.Spec PyProof.Rows L2 Evl
/-! ### numbers as they stand in texts -/
abbrev sNum : Stmt := topS 4
theorem scNum : FnScope ["text", "most"] ["text", "most"] (defScope sNum) := ⟨rfl, rfl, rfl, by decide +kernel, rfl, by decide +kernel, by decide +kernel⟩
abbrev sWrp : Stmt := topS 8
theorem scWrp : FnScope ["signs", "place", "sign"] ["signs"] (defScope sWrp) := ⟨rfl, rfl, rfl, by decide +kernel, rfl, by decide +kernel, by decide +kernel⟩
def KEY : Str := litOf (topS 7)
structure TFig (mg : Str → Option Value) : Prop where
  z_enumerate : mg "enumerate" = none
  mg_KEYS : ∃ t, mg "KEYS" = some (.str KEY t)
  z_len : mg "len" = none
  z_int : mg "int" = none
def Asc (z : Str) : Prop := ∀ c ∈ z.cps.toList, c < 128
open NumText in
/-- the number that a text of figures writes -/
def figV (z : Str) : Nat := digitsVal z.cps.toList
theorem dig_low : ((List.range 128).all fun c => !Unicode.isDigit c || (decide (48 ≤ c) && decide (c ≤ 57))) = true := by decide +kernel
open NumText in
theorem dig_all {z : Str} (h : Asc z) (hd : Txt.isdigit z = true) : AllDigits z.cps.toList ∧ z.cps.toList ≠ [] := by
  have hd2 : (decide (z.length > 0) && z.cps.all Unicode.isDigit) = true := hd
  rw [Bool.and_eq_true, decide_eq_true_iff, ← Array.all_toList, List.all_eq_true] at hd2
  refine ⟨fun c hc => ?_, fun e => ?_⟩
  · have q := List.all_eq_true.mp dig_low c (List.mem_range.mpr (h c hc))
    rw [hd2.2 c hc] at q
    simpa using q
  · have := hd2.1
    rw [← str_len, e] at this
    cases this
theorem asc_iff {z : Str} : Txt.isascii z = true ↔ Asc z := by
  unfold Txt.isascii Asc
  rw [← Array.all_toList, List.all_eq_true]
  exact ⟨fun h c hc => of_decide_eq_true (h c hc), fun h c hc => decide_eq_true (h c hc)⟩
theorem vstr0 {x y : Str} : decide (V.str x = V.str y) = true ↔ x = y := by
  rw [decide_eq_true_iff]
  exact ⟨fun h => V.str.inj h, fun h => by rw [h]⟩
/-- the number of a text of one to m figures, none needless -/
def numOf (z : Str) (m : Nat) : Option Nat :=
  if Txt.isascii z = false ∨ Txt.isdigit z = false ∨ m < z.length then none
  else if Txt.startswith z "0" = true ∧ ¬ z = "0" then none else some (figV z)
def numV : Option Nat → V
  | none => .non
  | some n => .int n
def spNum : Sp := fun vs H Q _ => ∃ (z : Str) (m : Nat), vs = [.str z, .int m] ∧ m ≤ 640 ∧ z.length ≤ 1000000 ∧ Q (numV (numOf z m)) H
section
variable {P : Program} {w : World} {K : PySem.W.Frag} {mg : Str → Option Value} {base : Heap}
theorem bne {b : Bool} : (!b) = true ↔ b = false := by cases b <;> simp
theorem ok_num {f : Addr} {fd : FuncData} (F : Fun K "number_of" "number_of" sNum f fd) (T : TFig mg) : FnOk P w K mg base CX0 1 f fd ["text", "most"] spNum := by
  refine F.ok scNum (fun vs H Q E h => ?_) (fun cdv A outer s H vs Q E hr h => ?_)
  · obtain ⟨z, m, rfl, _⟩ := h
    rfl
  · obtain ⟨z, m, rfl, hm, hz, q⟩ := h
    refine ⟨_, (pss_cons (ps_if (PW.pt (pw_or (pt_not (pt_val (pe_m0 PySem.F.slot_str_isascii PySem.F.type_str_isascii mt_isascii (pv 0)))) (pw_or (pt_not (pt_val (pe_m0 PySem.F.slot_str_isdigit PySem.F.type_str_isdigit mt_isdigit (pv 0)))) (pw_or1 (pt_cmpR op_gt (pe_callB call_len_str (by rfl) T.z_len PySem.boot_len (pa_cons (pv 0) pa_nil)) (pv 1) (nomark _)))))) (pss_one (ps_ret pe_non)) pss_nil)
      (pss_cons (ps_if (PW.pt (pw_and (pt_val (pe_m1 PySem.F.slot_str_startswith PySem.F.type_str_startswith mt_startswith (pv 0) pe_str)) (pw_and1 (pt_cmpR op_ne (pv 0) pe_str (nomark _))))) (pss_one (ps_ret pe_non)) pss_nil)
      (pss_one (ps_ret (pe_callTy call_int_str (by rfl) T.z_int boot_int (pa_cons (pv 0) pa_nil)))))), ?_⟩
    have qn : numOf z m = none → Q .non H := fun e => by rw [e] at q; exact q
    have big : z.length ≤ sizeLine := Nat.le_trans hz (by decide)
    have n1 : (Txt.isascii z = false ∨ Txt.isdigit z = false ∨ m < z.length) → Q .non H := fun e => qn (if_pos e)
    refine ⟨_, rfl, ⟨_, rfl⟩, _, rfl, rfl, trivial, _, rfl, ite2 (fun e => iteT (n1 (.inl (bne.mp e)))) (fun e1 => ?_)⟩
    refine ⟨_, rfl, ⟨_, rfl⟩, _, rfl, rfl, trivial, _, rfl, ite2 (fun e => iteT (n1 (.inr (.inl (bne.mp e))))) (fun e2 => ?_)⟩
    refine ⟨_, rfl, _, rfl, big, _, rfl, _, _, rfl, rfl, _, rfl, ite2 (fun e => n1 (.inr (.inr (Int.ofNat_lt.mp (of_decide_eq_true e))))) (fun e3 => ?_)⟩
    have a1 : Txt.isascii z = true := by simpa using e1
    have a2 : Txt.isdigit z = true := by simpa using e2
    have a3 : ¬ m < z.length := fun k => e3 (decide_eq_true (Int.ofNat_lt.mpr k))
    have n2 : ¬ (Txt.isascii z = false ∨ Txt.isdigit z = false ∨ m < z.length) := by
      rintro (k | k | k)
      · rw [a1] at k; cases k
      · rw [a2] at k; cases k
      · exact a3 k
    have a4 : Asc z := asc_iff.mp a1
    obtain ⟨d1, d2⟩ := dig_all a4 a2
    have hl : z.length ≤ 640 := by omega
    have qs : ¬ (Txt.startswith z "0" = true ∧ ¬ z = "0") → Q (.int (figV z : Nat)) H := fun k => by
      have e : numOf z m = some (figV z) := by unfold numOf; rw [if_neg n2, if_neg k]
      rw [e] at q
      exact q
    refine ⟨_, rfl, ⟨_, rfl⟩, _, _, rfl, rfl, _, rfl, ite2 (fun e4 => ?_) (fun e4 => ?_)⟩
    · refine ⟨_, rfl, rfl, _, rfl, ite2 (fun e5 => ?_) (fun e5 => ?_)⟩
      · have e6 : ¬ z = "0" := fun k => by
          have e5' : (!decide (V.str z = V.str "0")) = true := e5
          rw [decide_eq_true (by rw [k])] at e5'
          cases e5'
        refine qn ?_
        unfold numOf
        rw [if_neg n2, if_pos ⟨e4, e6⟩]
      · refine ⟨_, rfl, _, _, rfl, PySem.intText_digits d1 d2 (Nat.le_trans hl (by decide)), hl, qs ?_⟩
        rintro ⟨_, k⟩
        exact e5 (by
          show (!decide (V.str z = V.str "0")) = true
          rw [decide_eq_false fun h => k (V.str.inj h)]
          rfl)
    · refine ⟨_, rfl, _, _, rfl, PySem.intText_digits d1 d2 (Nat.le_trans hl (by decide)), hl, qs ?_⟩
      rintro ⟨k, _⟩
      exact e4 k
end
/-! ### the first sign that cannot be typed -/
def isK (c : Nat) : Bool := decide (c ∈ KEY.cps.toList)
def wrongAt (l : List Nat) : Option Nat := l.findIdx? fun c => !isK c
def spWrp : Sp := fun vs H Q _ => ∃ z : Str, vs = [.str z] ∧ ∀ H', Ex H H' → Q (numV (wrongAt z.cps.toList)) H'
theorem wrong_none {l : List Nat} (h : ∀ c ∈ l, isK c = true) : wrongAt l = none := by
  unfold wrongAt
  rw [List.findIdx?_eq_none_iff]
  intro c hc
  rw [h c hc]
  rfl
theorem wrong_all {l : List Nat} (h : wrongAt l = none) : ∀ c ∈ l, isK c = true := by
  unfold wrongAt at h
  rw [List.findIdx?_eq_none_iff] at h
  intro c hc
  have := h c hc
  simpa using this
section
variable {P : Program} {w : World} {K : PySem.W.Frag} {mg : Str → Option Value} {base : Heap}
theorem ok_wrp {f : Addr} {fd : FuncData} (F : Fun K "wrong_place" "wrong_place" sWrp f fd) (T : TFig mg) : FnOk P w K mg base CX0 1 f fd ["signs"] spWrp := by
  refine F.ok scWrp (fun vs H Q E h => ?_) (fun cdv A outer s H vs Q E hr h => ?_)
  · obtain ⟨z, rfl, _⟩ := h
    rfl
  · obtain ⟨z, rfl, q⟩ := h
    refine ⟨_, (pss_cons (ps_for PassesOwn.never rfl (pi_enumS (by rfl) T.z_enumerate (pa_cons (pv 0) pa_nil)) (pg_tup rfl (pgs_cons (pg_name (i := 1) scWrp.nd rfl (Or.inl rfl)) (pgs_cons (pg_name (i := 2) scWrp.nd rfl (Or.inl rfl)) pgs_nil))) (pss_one (ps_if (pt_cmpR op_notIn_sign (pv 2) (pgS T.mg_KEYS) rfl) (pss_one (ps_ret (pv 1))) pss_nil)))
      (pss_one (ps_ret pe_non))), ?_⟩
    refine ⟨_, rfl, z, rfl, for_it walk_enumS (fun i σ H' => ∃ c d, σ = [some (.str z), c, d] ∧ Ex H H' ∧ ∀ j, j < i → ∀ c, z.cps.toList[j]? = some c → isK c = true)
      ⟨none, none, rfl, .refl _, fun j hj => absurd hj (by omega)⟩ (fun _ _ _ _ _ => trivial) ?_ ?_⟩
    · rintro i x σ H1 H2 hi ⟨c0, d0, rfl, e1, hk⟩ ⟨T', c, rfl, nT, hc, rfl⟩
      have e2 : Ex H (upd H1 T' (.tup [.int (i : Nat), .str ⟨#[c]⟩])) := e1.trans (Ex.new nT)
      have hc' : z.cps.toList[i]? = some c := by rw [Array.getElem?_toList]; exact hc
      refine ⟨T', _, rfl, SqT.of upd_same, rfl, _, _, rfl, _, _, rfl, rfl, ?_⟩
      refine ⟨_, rfl, c, KEY, rfl, rfl, _, rfl, ite2 (fun e => ?_) (fun e => ?_)⟩
      · have hw : wrongAt z.cps.toList = some i := by
          unfold wrongAt
          rw [List.findIdx?_eq_some_iff_getElem]
          have hl : i < z.cps.toList.length := by simpa using hi
          refine ⟨hl, ?_, fun j hj => ?_⟩
          · have : z.cps.toList[i] = c := by
              rw [List.getElem?_eq_getElem hl] at hc'
              exact Option.some.inj hc'
            rw [this]
            exact e
          · have := hk j hj _ (List.getElem?_eq_getElem (by omega))
            simpa using this
        rw [hw] at q
        exact ⟨_, rfl, q _ e2⟩
      · refine ⟨_, _, rfl, e2, fun j hj c' hc2 => ?_⟩
        by_cases hji : j = i
        · subst hji
          rw [hc'] at hc2
          cases hc2
          unfold isK
          simpa using e
        · exact hk j (by omega) c' hc2
    · rintro σ H1 ⟨c0, d0, rfl, e1, hk⟩
      have hw : wrongAt z.cps.toList = none := wrong_none fun c hc => by
        obtain ⟨j, hj, ej⟩ := List.getElem_of_mem hc
        exact hk j (by simpa using hj) c (by rw [List.getElem?_eq_getElem hj, ej])
      rw [hw] at q
      exact q _ e1
end
structure CWrp (P : Program) (w : World) (K : PySem.W.Frag) (mg : Str → Option Value) (base : Heap) : Prop where
  wrong_place : Cal P w K mg base "wrong_place" 1 ["signs"] spWrp
structure CNum (P : Program) (w : World) (K : PySem.W.Frag) (mg : Str → Option Value) (base : Heap) : Prop where
  number_of : Cal P w K mg base "number_of" 1 ["text", "most"] spNum
end Vf
namespace Vf
open PySem PySem.Spec PyProof.Rows L2 Evl
/-! ### numbers of several texts -/
abbrev sNms : Stmt := topS 5
theorem scNms : FnScope ["texts", "most", "numbers", "text"] ["texts", "most"] (defScope sNms) := ⟨rfl, rfl, rfl, by decide +kernel, rfl, by decide +kernel, by decide +kernel⟩
def numsOf (m : Nat) : List Str → Option (List Nat)
  | [] => some []
  | p :: r => match numOf p m, numsOf m r with
    | some n, some ns => some (n :: ns)
    | _, _ => none
theorem nums_vals : ∀ {ps : List Str} {m : Nat} {ns : List Nat}, numsOf m ps = some ns → ps.map (fun p => numV (numOf p m)) = ns.map fun n => V.int (n : Nat)
  | [], m, ns, h => by
    cases h
    rfl
  | p :: r, m, ns, h => by
    unfold numsOf at h
    cases e1 : numOf p m with
    | none => rw [e1] at h; cases h
    | some n =>
      cases e2 : numsOf m r with
      | none => rw [e1, e2] at h; cases h
      | some q =>
        rw [e1, e2] at h
        cases h
        rw [List.map_cons, List.map_cons, nums_vals e2, e1]
        rfl
theorem nums_none : ∀ {ps : List Str} {m : Nat}, numsOf m ps = none → V.non ∈ ps.map (fun p => numV (numOf p m))
  | [], m, h => nomatch h
  | p :: r, m, h => by
    unfold numsOf at h
    rw [List.map_cons]
    cases e1 : numOf p m with
    | none => exact List.mem_cons_self
    | some n =>
      cases e2 : numsOf m r with
      | none => exact List.mem_cons_of_mem _ (nums_none e2)
      | some q => rw [e1, e2] at h; cases h
theorem inV_non {xs : List V} : inV .non xs = true ↔ V.non ∈ xs := by
  unfold inV
  rw [List.any_eq_true]
  constructor
  · rintro ⟨x, hx, h⟩
    cases x with
    | non => exact hx
    | _ => exact nomatch (show false = true from h)
  · intro h
    exact ⟨_, h, rfl⟩
theorem inV_ints {ns : List Nat} : inV .non (ns.map fun n => V.int (n : Nat)) = false := by
  cases e : inV .non (ns.map fun n => V.int (n : Nat)) with
  | false => rfl
  | true =>
    obtain ⟨n, _, h⟩ := List.mem_map.mp (inV_non.mp e)
    cases h
theorem flat_nums (ps : List Str) (m : Nat) : (ps.map fun p => numV (numOf p m)).all flatV = true := by
  rw [List.all_eq_true]
  intro x hx
  obtain ⟨p, _, rfl⟩ := List.mem_map.mp hx
  cases numOf p m <;> rfl
def spNms (K : PySem.W.Frag) : Sp := fun vs H Q _ => ∃ (a : Addr) (ps : List Str) (m : Nat), vs = [.ref a, .int m] ∧ SqL K H a (ps.map V.str) ∧ m ≤ 640 ∧ ps.length ≤ 1000000 ∧ (∀ p ∈ ps, p.length ≤ 1000000) ∧
  (numsOf m ps = none → ∀ H', Ex H H' → Q .non H') ∧ ∀ ns, numsOf m ps = some ns → ∀ p H', Ex H H' → H p = none → H' p = some (.lst (ns.map fun n => V.int (n : Nat))) → Q (.ref p) H'
section
variable {P : Program} {w : World} {K : PySem.W.Frag} {mg : Str → Option Value} {base : Heap}
theorem ok_nms {f : Addr} {fd : FuncData} (F : Fun K "numbers_of" "numbers_of" sNms f fd) (C : CNum P w K mg base) : FnOk P w K mg base CX0 2 f fd ["texts", "most"] (spNms K) := by
  refine F.ok scNms (fun vs H Q E h => ?_) (fun cdv A outer s H vs Q E hr h => ?_)
  · obtain ⟨a, ps, m, rfl, _⟩ := h
    rfl
  · obtain ⟨a, ps, m, rfl, hS, hm, hl, hz, qn, qs⟩ := h
    refine ⟨_, (pss_cons (ps_setLc (i := 2) (own := [("text", 3)]) (g := gName 3) (tt := tYes) (by rfl) scNms.nd rfl rfl (sw_true rfl rfl rfl (by decide +kernel)) (pi_list (pv 0)) (blkOk_by (own := [("text", 3)]) (N := ["texts", "most", "numbers", "text"]) (sc := defScope sNms) (by decide +kernel)) (fun _ _ _ _ _ => pg_name (i := 3) scNms.nd rfl (Or.inl rfl)) (fun _ _ _ _ _ => pts_nil) (fun _ _ _ _ _ => (pcall C.number_of (hr.mono (by first | decide | omega)) (pa_cons (pv 3) (pa_cons (pv 1) pa_nil)))))
      (pss_one (ps_ret (pe_ifExp (pt_cmpR op_in_seq pe_non (pv 2) rfl) pe_non (pv 2))))), ?_⟩
    refine ⟨_, rfl, a, rfl, ⟨_, hS⟩, fun D hD => ?_⟩
    refine lc_it (walk_list (K := K) (a := a) (xs := ps.map V.str)) (fun i H' => Ex H H' ∧ H' D = some (.lst ((ps.take i).map fun p => numV (numOf p m)))) ⟨Ex.new hD, upd_same⟩ (fun i H' _ h => ex_l h.1 hS) ?_ ?_
    · rintro i x H2 H3 hi ⟨e, hp⟩ ⟨rfl, hx⟩
      rw [List.length_map] at hi
      obtain ⟨p, hp2, rfl⟩ := List.mem_map.mp (List.mem_of_getElem? hx)
      have hpi : ps[i]? = some p := by
        rw [List.getElem?_map] at hx
        cases e9 : ps[i]? with
        | none => rw [e9] at hx; cases hx
        | some p' =>
          rw [e9] at hx
          rw [V.str.inj (Option.some.inj hx)]
      refine ⟨rfl, yes_lc ?_⟩
      refine ⟨_, rfl, _, rfl, p, m, rfl, hm, hz p hp2, _, hp, ?_, ex_set e hD, ?_⟩
      · rw [List.length_map]
        exact Nat.lt_of_le_of_lt (List.length_take_le' ..) (Nat.lt_of_le_of_lt hl (by decide))
      · rw [upd_same, List.take_add_one, hpi, List.map_append]
        rfl
    · rintro H2 ⟨e, hp⟩
      have et : ps.take (ps.map V.str).length = ps := by rw [List.length_map, List.take_length]
      rw [et] at hp
      cases en : numsOf m ps with
      | none =>
        refine ⟨_, rfl, D, _, rfl, .inl (SqL.of hp), rfl, flat_nums _ _, _, rfl, ?_⟩
        exact (if_pos (inV_non.mpr (nums_none en))).mpr (qn en _ e)
      | some ns =>
        rw [nums_vals en] at hp
        refine ⟨_, rfl, D, _, rfl, .inl (SqL.of hp), rfl, ?_, _, rfl, ?_⟩
        · rw [← nums_vals en]
          exact flat_nums _ _
        · show if (inV .non (ns.map fun n => V.int (n : Nat))) = true then _ else _
          rw [inV_ints]
          exact iteF ⟨_, rfl, qs ns en D H2 e hD hp⟩
end
theorem nums_len {ps : List Str} {m : Nat} {ns : List Nat} (h : numsOf m ps = some ns) : ns.length = ps.length := by
  have := congrArg List.length (nums_vals h)
  rw [List.length_map, List.length_map] at this
  exact this.symm
theorem dig_up : ((List.range 58).all fun c => decide (c < 48) || Unicode.isDigit c) = true := by decide +kernel
theorem numL_isdigit (n : Nat) : Txt.isdigit (txt (TL.numL n)) = true := by
  show (decide ((txt (TL.numL n)).length > 0) && (txt (TL.numL n)).cps.all Unicode.isDigit) = true
  rw [Bool.and_eq_true]
  refine ⟨decide_eq_true ?_, ?_⟩
  · rw [txt_len]
    exact List.length_pos_iff.mpr (TL.numL_ne n)
  · rw [← Array.all_toList, txt_cps, List.all_eq_true]
    intro c hc
    have h := TL.numL_digits n c hc
    have q := List.all_eq_true.mp dig_up c (List.mem_range.mpr (by omega))
    rw [Bool.or_eq_true] at q
    exact q.resolve_left (by rw [decide_eq_true_iff]; omega)
theorem numL_asc (n : Nat) : Txt.isascii (txt (TL.numL n)) = true := asc_iff.mpr fun c hc => by
  rw [txt_cps] at hc
  have h := TL.numL_digits n c hc
  omega
theorem numL_head : ∀ (n : Nat) (c : Nat) (r : List Nat), 1 ≤ n → TL.numL n = c :: r → c ≠ 48 := by
  intro n
  induction n using Nat.strongRecOn with
  | _ n ih =>
    intro c r h1 he
    by_cases h : n < 10
    · rw [TL.numL_lt h] at he
      cases he
      omega
    · rw [TL.numL_step (by omega)] at he
      cases e : TL.numL (n / 10) with
      | nil => exact absurd e (TL.numL_ne _)
      | cons d q =>
        rw [e] at he
        have : d = c := (List.cons.inj he).1
        subst this
        exact ih (n / 10) (by omega) d q (by omega) e
theorem starts_sg {z : Str} {c : Nat} : Txt.startswith z (sg c) = true ↔ z.cps.toList[0]? = some c := by
  unfold Txt.startswith
  rw [Bool.and_eq_true, decide_eq_true_iff]
  constructor
  · exact fun h => sub_sg.mp h.2
  · intro h
    refine ⟨?_, sub_sg.mpr h⟩
    have s1 : (sg c).length = 1 := rfl
    rcases e : z.cps.toList with _ | ⟨d, r⟩
    · rw [e] at h; cases h
    · have := congrArg List.length e
      rw [str_len, List.length_cons] at this
      omega
theorem numOf_num {n m : Nat} (h : (TL.numL n).length ≤ m) : numOf (txt (TL.numL n)) m = some n := by
  unfold numOf
  rw [numL_asc, numL_isdigit, if_neg (by
    rintro (k | k | k)
    · cases k
    · cases k
    · rw [txt_len] at k; omega)]
  rw [if_neg]
  · congr 1
    unfold figV
    rw [txt_cps]
    exact TL.numL_val n
  · rintro ⟨k, k2⟩
    have k3 := starts_sg.mp k
    rw [txt_cps] at k3
    by_cases h0 : n = 0
    · subst h0
      exact k2 rfl
    · cases e : TL.numL n with
      | nil => exact absurd e (TL.numL_ne _)
      | cons d r =>
        rw [e] at k3
        exact numL_head n d r (by omega) e (by simpa using k3)
def numT (n : Nat) : Str := txt (TL.numL n)
theorem nums_num {m : Nat} : ∀ {ns : List Nat}, (∀ n ∈ ns, (TL.numL n).length ≤ m) → numsOf m (ns.map numT) = some ns
  | [], _ => rfl
  | n :: r, h => by
    have h1 : numOf (numT n) m = some n := numOf_num (h n List.mem_cons_self)
    have h2 := nums_num (ns := r) fun k hk => h k (List.mem_cons_of_mem _ hk)
    rw [List.map_cons]
    unfold numsOf
    rw [h1, h2]
end Vf
namespace Vf
open PySem PySem.Spec PyProof.Rows L2 Evl
/-! ### steps as texts: the mathematics -/
abbrev sPro : Stmt := topS 15
theorem scPro : FnScope ["row", "parts", "word", "figures", "signs", "name"] ["row"] (defScope sPro) := ⟨rfl, rfl, rfl, by decide +kernel, rfl, by decide +kernel, by decide +kernel⟩
abbrev sSto : Stmt := topS 16
theorem scSto : FnScope ["row", "word", "parts", "numbers"] ["row"] (defScope sSto) := ⟨rfl, rfl, rfl, by decide +kernel, rfl, by decide +kernel, by decide +kernel⟩
abbrev sRea : Stmt := topS 17
theorem scRea : FnScope ["text", "steps", "at", "row", "step"] ["text"] (defScope sRea) := ⟨rfl, rfl, rfl, by decide +kernel, rfl, by decide +kernel, by decide +kernel⟩
def TBL : List (Str × Int) := [("come", 4), ("size", 3), ("leave", 1), ("gone", 1), ("beat", 0), ("send", 0), ("carry", 1), ("lose", 1), ("twice", 1), ("cut", 2), ("settle", 0)]
def pressOf (row : Str) : Option (List V) := match Txt.splitMax row (sg 32) 2 with
  | [w, f, s] => match numOf f 6, wrongAt s.cps.toList with
    | some n, none => some [.str w, .int n, .str s]
    | _, _ => none
  | _ => none
def stepOf (row : Str) : Option (List V) := match Txt.split row (sg 32) with
  | [] => none
  | w :: ps => if w = "press" then pressOf row else match numsOf 6 ps with
    | none => none
    | some ns => if TBL.lookup w = some (ns.length : Int) then some (.str w :: ns.map fun n => V.int (n : Nat)) else none
def stepsOf : List Str → Option (List (List V))
  | [] => some []
  | r :: rs => match stepOf r, stepsOf rs with
    | some x, some xs => some (x :: xs)
    | _, _ => none
def readOf (z : Str) : Option (List (List V)) := if z = "" then some [] else stepsOf (Txt.split z (sg 10))
structure TNot (mg : Str → Option Value) : Prop where
  z_len : mg "len" = none
  z_enumerate : mg "enumerate" = none
  mg_PRESS : ∃ t, mg "PRESS" = some (.str "press" t)
  mg_FIGURES : ∃ t, mg "FIGURES" = some (.int 6 t)
structure KNumb (K : PySem.W.Frag) (w : World) (mg : Str → Option Value) : Prop where
  ex : ∃ a, mg "NUMBERS" = some (.ref a) ∧ KTab K w a TBL
def spPro : Sp := fun vs H Q _ => ∃ z : Str, vs = [.str z] ∧ z.length ≤ 1000000 ∧
  (pressOf z = none → ∀ H', Ex H H' → Q .non H') ∧ ∀ xs, pressOf z = some xs → ∀ p H', Ex H H' → H p = none → H' p = some (.tup xs) → Q (.ref p) H'
def spSto : Sp := fun vs H Q _ => ∃ z : Str, vs = [.str z] ∧ z.length ≤ 900000 ∧
  (stepOf z = none → ∀ H', Ex H H' → Q .non H') ∧ ∀ xs, stepOf z = some xs → ∀ p H', Ex H H' → H p = none → H' p = some (.tup xs) → Q (.ref p) H'
def spRea : Sp := fun vs H Q _ => ∃ (z : Str) (steps : List (List V)), vs = [.str z] ∧ z.length ≤ 800000 ∧ readOf z = some steps ∧ ∀ p us H', Ex H H' → H p = none → H' p = some (.lst us) → Tups H' us steps → Q (.ref p) H'
section
variable {P : Program} {w : World} {K : PySem.W.Frag} {mg : Str → Option Value} {base : Heap}
structure CPro (P : Program) (w : World) (K : PySem.W.Frag) (mg : Str → Option Value) (base : Heap) : Prop where
  number_of : Cal P w K mg base "number_of" 1 ["text", "most"] spNum
  wrong_place : Cal P w K mg base "wrong_place" 1 ["signs"] spWrp
theorem max_len (z : Str) {c : Nat} (hc : c < 256) (m : Nat) : (Txt.splitMax z (sg c) (m : Nat)).length ≤ m + 1 := by
  have h := congrArg List.length (splitMax_cut z hc m)
  rw [List.length_map] at h
  rw [h]
  exact cut_len _ _ _ _
theorem cut_sum (c : Nat) : ∀ (l : List Nat) (m : Nat) (acc : List Nat) (p : List Nat), p ∈ cutA c m acc l → p.length ≤ acc.length + l.length := by
  intro l
  induction l with
  | nil =>
    intro m acc p hp
    cases m <;> (simp [cutA] at hp; subst hp; simp)
  | cons x r ih =>
    intro m acc p hp
    cases m with
    | zero =>
      simp [cutA] at hp
      subst hp
      simp
    | succ m =>
      unfold cutA at hp
      by_cases h : x = c
      · rw [if_pos h] at hp
        rcases List.mem_cons.mp hp with rfl | hp
        · rw [List.length_cons]; omega
        · have := ih m [] p hp
          rw [List.length_cons]
          simp at this
          omega
      · rw [if_neg h] at hp
        have := ih (m + 1) (acc ++ [x]) p hp
        rw [List.length_append, List.length_singleton] at this
        rw [List.length_cons]
        omega
theorem max_each (z : Str) {c : Nat} (hc : c < 256) (m : Nat) : ∀ p ∈ Txt.splitMax z (sg c) (m : Nat), p.length ≤ z.length := fun p hp => by
  have h : TL.tl p ∈ cutA c m [] z.cps.toList := by
    rw [← splitMax_cut z hc m]
    exact List.mem_map.mpr ⟨p, hp, rfl⟩
  have := cut_sum c _ _ _ _ h
  rw [← str_len p, ← str_len z]
  simpa using this
theorem ok_pro {f : Addr} {fd : FuncData} (F : Fun K "press_of" "press_of" sPro f fd) (T : TNot mg) (C : CPro P w K mg base) : FnOk P w K mg base CX0 2 f fd ["row"] spPro := by
  refine F.ok scPro (fun vs H Q E h => ?_) (fun cdv A outer s H vs Q E hr h => ?_)
  · obtain ⟨z, rfl, _⟩ := h
    rfl
  · obtain ⟨z, rfl, hz, qn, qs⟩ := h
    refine ⟨_, (pss_cons (ps_set (i := 1) scPro.nd rfl (Or.inl rfl) (pe_bm PySem.F.plainAttrs_str PySem.F.slot_str_split PySem.F.type_str_split mt_splitMax (pv 0) (pa_cons pe_str (pa_cons pe_int pa_nil))))
      (pss_cons (ps_if (pt_cmpR op_lt (pe_callB call_len_seq (by rfl) T.z_len PySem.boot_len (pa_cons (pv 1) pa_nil)) pe_int (nomark _)) (pss_one (ps_ret pe_non)) pss_nil)
      (pss_cons (ps_asg (pv 1) (pg_unl rfl (pgs_cons (pg_name (i := 2) scPro.nd rfl (Or.inl rfl)) (pgs_cons (pg_name (i := 3) scPro.nd rfl (Or.inl rfl)) (pgs_cons (pg_name (i := 4) scPro.nd rfl (Or.inl rfl)) pgs_nil)))))
      (pss_cons (ps_set (i := 5) scPro.nd rfl (Or.inl rfl) (pcall C.number_of (hr.mono (by first | decide | omega)) (pa_cons (pv 3) (pa_cons (pgI T.mg_FIGURES) pa_nil))))
      (pss_cons (ps_if (PW.pt (pw_or (pt_cmpR op_isN (pv 5) pe_non (nomark _)) (pw_or1 (pt_cmpR op_notN (pcall C.wrong_place (hr.mono (by first | decide | omega)) (pa_cons (pv 4) pa_nil)) pe_non (nomark _))))) (pss_one (ps_ret pe_non)) pss_nil)
      (pss_one (ps_ret (pe_tup (pa_cons (pv 2) (pa_cons (pv 5) (pa_cons (pv 4) pa_nil))))))))))), ?_⟩
    have big : ∀ n : Nat, n ≤ 1000010 → n ≤ sizeLine := fun n h => Nat.le_trans h (by decide)
    refine ⟨_, rfl, rfl, z, sg 32, 2, rfl, rfl, rfl, by decide, by decide, big _ (by omega), fun p np => ?_⟩
    have e1 : Ex H (upd H p (.lst ((Txt.splitMax z (sg 32) 2).map V.str))) := Ex.new np
    have hp : upd H p (.lst ((Txt.splitMax z (sg 32) 2).map V.str)) p = some (.lst ((Txt.splitMax z (sg 32) 2).map V.str)) := upd_same
    have hl : (Txt.splitMax z (sg 32) 2).length ≤ 3 := max_len z (by decide) 2
    have he : ∀ y ∈ Txt.splitMax z (sg 32) 2, y.length ≤ z.length := max_each z (by decide) 2
    have hpo : pressOf z = match Txt.splitMax z (sg 32) 2 with
      | [w, f, s] => match numOf f 6, wrongAt s.cps.toList with
        | some n, none => some [.str w, .int n, .str s]
        | _, _ => none
      | _ => none := rfl
    generalize upd H p (.lst ((Txt.splitMax z (sg 32) 2).map V.str)) = H1 at e1 hp ⊢
    generalize Txt.splitMax z (sg 32) 2 = ws at hl he hp hpo ⊢
    refine ⟨_, rfl, p, _, rfl, .inl (SqL.of hp), _, _, rfl, rfl, _, rfl, ?_⟩
    match ws, hl, he, hp, hpo with
    | [], _, _, _, hpo => exact iteT (qn hpo _ e1)
    | [_], _, _, _, hpo => exact iteT (qn hpo _ e1)
    | [_, _], _, _, _, hpo => exact iteT (qn hpo _ e1)
    | [a, b, c], _, he, hp, hpo =>
      refine iteF ?_
      refine ⟨_, rfl, p, _, rfl, SqL.of hp, rfl, _, _, rfl, _, _, rfl, _, _, rfl, rfl, ?_⟩
      have hb : b.length ≤ z.length := he b (by simp)
      refine ⟨_, rfl, b, 6, rfl, by decide, by omega, ?_⟩
      have hpo2 : pressOf z = match numOf b 6, wrongAt c.cps.toList with
        | some n, none => some [.str a, .int n, .str c]
        | _, _ => none := hpo
      clear hpo
      cases e2 : numOf b 6 with
      | none =>
        rw [e2] at hpo2
        exact ⟨_, rfl, rfl, _, rfl, iteT (qn hpo2 _ e1)⟩
      | some n =>
        rw [e2] at hpo2
        refine ⟨_, rfl, rfl, _, rfl, iteF ?_⟩
        refine ⟨_, rfl, c, rfl, fun H2 e3 => ?_⟩
        cases e4 : wrongAt c.cps.toList with
        | some k =>
          rw [e4] at hpo2
          exact ⟨rfl, _, rfl, iteT (qn hpo2 _ (e1.trans e3))⟩
        | none =>
          rw [e4] at hpo2
          refine ⟨rfl, _, rfl, iteF ?_⟩
          refine ⟨_, rfl, _, rfl, _, rfl, (by show 3 ≤ sizeLine; decide), fun q nq => ?_⟩
          exact qs _ hpo2 q _ ((e1.trans e3).trans (Ex.new nq)) (fresh_back (e1.trans e3) nq) upd_same
    | _ :: _ :: _ :: _ :: _, hl, _, _, _ => exact absurd hl (by simp)
structure CSto (P : Program) (w : World) (K : PySem.W.Frag) (mg : Str → Option Value) (base : Heap) : Prop where
  press_of : Cal P w K mg base "press_of" 2 ["row"] spPro
  numbers_of : Cal P w K mg base "numbers_of" 2 ["texts", "most"] (spNms K)
theorem split_ne (z : Str) (c : Nat) : ∃ a r, Txt.split z (sg c) = a :: r := by
  cases e : Txt.split z (sg c) with
  | cons a r => exact ⟨a, r, rfl⟩
  | nil =>
    exfalso
    unfold Txt.split at e
    split at e
    · cases e
    · split at e
      · cases e
      · rw [StrLaws.partsBetween_eq] at e
        obtain ⟨p, r, h⟩ := StrLaws.partsFrom_ne z (sg c).length 0 (Builtin.Str.occurrences z (sg c) 0 z.length (z.length + 1))
        rw [h] at e
        cases e
theorem tab_scal {w : Str} {n : Int} : scal (tabV TBL w) (V.int n) = true := by
  unfold tabV
  cases TBL.lookup w <;> rfl
theorem tab_len {w : Str} {n : Nat} : decide (tabV TBL w = V.int (n : Nat)) = decide (TBL.lookup w = some (n : Int)) := by
  unfold tabV
  cases e : TBL.lookup w with
  | none => rw [decide_eq_false (by intro h; cases h), decide_eq_false (by intro h; cases h)]
  | some v =>
    by_cases h : v = (n : Int)
    · rw [decide_eq_true (by rw [h]), decide_eq_true (by rw [h])]
    · rw [decide_eq_false (fun k => h (V.int.inj k)), decide_eq_false (fun k => h (Option.some.inj k))]
theorem ok_sto {f : Addr} {fd : FuncData} (F : Fun K "step_of" "step_of" sSto f fd) (T : TNot mg) (N : KNumb K w mg) (C : CSto P w K mg base) : FnOk P w K mg base CX0 3 f fd ["row"] spSto := by
  refine F.ok scSto (fun vs H Q E h => ?_) (fun cdv A outer s H vs Q E hr h => ?_)
  · obtain ⟨z, rfl, _⟩ := h
    rfl
  · obtain ⟨z, rfl, hz, qn, qs⟩ := h
    obtain ⟨aN, hN, kN⟩ := N.ex
    refine ⟨_, (pss_cons (ps_asg (pe_split (pv 0) pe_str) (pg_starL (n := 2) (i := 1) rfl (pgs_cons (pg_name (i := 1) scSto.nd rfl (Or.inl rfl)) (pgs_cons (pg_name (i := 2) scSto.nd rfl (Or.inl rfl)) pgs_nil))))
      (pss_cons (ps_if (pt_cmpR op_eq (pv 1) (pgS T.mg_PRESS) (nomark _)) (pss_one (ps_ret (pcall C.press_of (hr.mono (by first | decide | omega)) (pa_cons (pv 0) pa_nil)))) pss_nil)
      (pss_cons (ps_set (i := 3) scSto.nd rfl (Or.inl rfl) (pcall C.numbers_of (hr.mono (by first | decide | omega)) (pa_cons (pv 2) (pa_cons (pgI T.mg_FIGURES) pa_nil))))
      (pss_cons (ps_if (PW.pt (pw_or (pt_cmpR op_isN (pv 3) pe_non (nomark _)) (pw_or1 (pt_cmpR op_ne (pe_kget1 (tbl := TBL) (pgR hN) (pv 1) ⟨by rfl, by rfl, by rfl, by rfl⟩) (pe_callB call_len_seq (by rfl) T.z_len PySem.boot_len (pa_cons (pv 3) pa_nil)) (nomark _))))) (pss_one (ps_ret pe_non)) pss_nil)
      (pss_one (ps_ret (pe_tup (pa_cons (pv 1) (StX.pa_star (pv 3) pa_nil))))))))), ?_⟩
    have big : ∀ n : Nat, n ≤ 1000010 → n ≤ sizeLine := fun n h => Nat.le_trans h (by decide)
    obtain ⟨wd, ps, hsp⟩ := split_ne z 32
    obtain ⟨hl, he⟩ := split_parts z 32
    rw [hsp] at hl he
    have hst : stepOf z = if wd = "press" then pressOf z else match numsOf 6 ps with
      | none => none
      | some ns => if TBL.lookup wd = some (ns.length : Int) then some (.str wd :: ns.map fun n => V.int (n : Nat)) else none := by
      unfold stepOf
      rw [hsp]
    refine ⟨_, rfl, ⟨_, rfl⟩, z, sg 32, rfl, rfl, rfl, big _ (by omega), fun p np => ?_⟩
    rw [hsp]
    refine ⟨p, _, rfl, SqL.of upd_same, by decide, by simp, fun D nD => ?_⟩
    have e1 : Ex H (upd (upd H p (.lst ((wd :: ps).map V.str))) D (.lst ((((wd :: ps).map V.str).drop 1).take (((wd :: ps).map V.str).length + 1 - 2)))) := (Ex.new np).trans (Ex.new nD)
    have ed : (((wd :: ps).map V.str).drop 1).take (((wd :: ps).map V.str).length + 1 - 2) = ps.map V.str := by
      rw [List.map_cons, List.drop_one, List.tail_cons, List.length_cons, List.take_of_length_le (by omega)]
    rw [ed] at e1 ⊢
    have hD : upd (upd H p (.lst ((wd :: ps).map V.str))) D (.lst (ps.map V.str)) D = some (.lst (ps.map V.str)) := upd_same
    generalize upd (upd H p (.lst ((wd :: ps).map V.str))) D (.lst (ps.map V.str)) = H1 at e1 hD ⊢
    have ev : ((wd :: ps).map V.str).take 1 ++ [V.ref D] ++ (((wd :: ps).map V.str).drop 1).drop (((wd :: ps).map V.str).length + 1 - 2) = [.str wd, .ref D] := by
      rw [List.map_cons, List.drop_one, List.tail_cons, List.length_cons, List.drop_eq_nil_of_le (by omega)]
      rfl
    rw [ev]
    refine ⟨_, _, rfl, _, _, rfl, rfl, ?_⟩
    refine ⟨_, rfl, rfl, _, rfl, ite2 (fun e => ?_) (fun e => ?_)⟩
    · have e2 : wd = "press" := vstr0.mp e
      rw [if_pos e2] at hst
      refine ⟨_, rfl, z, rfl, by omega, fun h H' e3 => qn (hst.trans h) _ (e1.trans e3), fun xs h q H' e3 n3 h3 => qs xs (hst.trans h) q _ (e1.trans e3) (fresh_back e1 n3) h3⟩
    · have e2 : ¬ wd = "press" := fun k => e (vstr0.mpr k)
      rw [if_neg e2] at hst
      have hl2 : ps.length ≤ z.length := by
        rw [List.length_cons] at hl
        omega
      refine ⟨_, rfl, D, ps, 6, rfl, SqL.of hD, by decide, by omega, fun y hy => ?_, fun h H2 e3 => ?_, fun ns h q H2 e3 n3 h3 => ?_⟩
      · have := (he y (List.mem_cons_of_mem _ hy)).1
        omega
      · rw [h] at hst
        exact ⟨_, rfl, rfl, _, rfl, iteT (qn hst _ (e1.trans e3))⟩
      · rw [h] at hst
        refine ⟨_, rfl, rfl, _, rfl, iteF ?_⟩
        refine ⟨aN, rfl, kN, _, rfl, wd, rfl, _, rfl, q, _, rfl, .inl (SqL.of h3), ?_, _, rfl, ?_⟩
        · exact tab_scal
        · show if (!decide (tabV TBL wd = V.int ((ns.map fun n => V.int (n : Nat)).length : Nat))) = true then _ else _
          rw [List.length_map, tab_len]
          have hst2 : stepOf z = if TBL.lookup wd = some (ns.length : Int) then some (.str wd :: ns.map fun n => V.int (n : Nat)) else none := hst
          by_cases h5 : TBL.lookup wd = some (ns.length : Int)
          · rw [if_pos h5] at hst2
            rw [decide_eq_true h5]
            refine iteF ?_
            refine ⟨_, rfl, _, rfl, q, _, rfl, .inr (SqL.of h3), ?_, fun r nr => ?_⟩
            · have := nums_len h
              show (.str wd :: (ns.map fun n => V.int (n : Nat)) ++ [] : List V).length ≤ _
              simp only [List.append_nil, List.length_cons, List.length_map]
              exact big _ (by omega)
            · exact qs _ hst2 r _ ((e1.trans e3).trans (Ex.new nr)) (fresh_back (e1.trans e3) nr) (by rw [upd_same]; simp)
          · rw [if_neg h5] at hst2
            rw [decide_eq_false h5]
            exact iteT (qn hst2 _ (e1.trans e3))
theorem steps_get : ∀ {rs : List Str} {xs : List (List V)} {i : Nat} {r : Str}, stepsOf rs = some xs → rs[i]? = some r → ∃ x, xs[i]? = some x ∧ stepOf r = some x
  | [], xs, i, r, h, e => by cases e
  | a :: rs, xs, i, r, h, e => by
    unfold stepsOf at h
    cases e1 : stepOf a with
    | none => rw [e1] at h; cases h
    | some x =>
      cases e2 : stepsOf rs with
      | none => rw [e1, e2] at h; cases h
      | some ys =>
        rw [e1, e2] at h
        cases h
        cases i with
        | zero =>
          cases e
          exact ⟨x, rfl, e1⟩
        | succ i => exact steps_get (i := i) e2 e
theorem steps_len : ∀ {rs : List Str} {xs : List (List V)}, stepsOf rs = some xs → xs.length = rs.length
  | [], xs, h => by cases h; rfl
  | a :: rs, xs, h => by
    unfold stepsOf at h
    cases e1 : stepOf a with
    | none => rw [e1] at h; cases h
    | some x =>
      cases e2 : stepsOf rs with
      | none => rw [e1, e2] at h; cases h
      | some ys =>
        rw [e1, e2] at h
        cases h
        rw [List.length_cons, List.length_cons, steps_len e2]
structure CRea (P : Program) (w : World) (K : PySem.W.Frag) (mg : Str → Option Value) (base : Heap) : Prop where
  step_of : Cal P w K mg base "step_of" 3 ["row"] spSto
theorem ok_rea {f : Addr} {fd : FuncData} (F : Fun K "read" "read" sRea f fd) (T : TNot mg) (C : CRea P w K mg base) : FnOk P w K mg base CX0 4 f fd ["text"] spRea := by
  refine F.ok scRea (fun vs H Q E h => ?_) (fun cdv A outer s H vs Q E hr h => ?_)
  · obtain ⟨z, steps, rfl, _⟩ := h
    rfl
  · obtain ⟨z, steps, rfl, hz, hro, q⟩ := h
    refine ⟨_, (pss_cons (ps_if (pt_cmpR op_eq (pv 0) pe_str (nomark _)) (pss_one (ps_ret (pe_lst pa_nil))) pss_nil)
      (pss_cons (ps_set (i := 1) scRea.nd rfl (Or.inl rfl) (pe_lst pa_nil))
      (pss_cons (ps_for PassesOwn.never rfl (pi_enum (by rfl) T.z_enumerate (pa_cons (pe_split (pv 0) pe_str) pa_nil)) (pg_tup rfl (pgs_cons (pg_name (i := 2) scRea.nd rfl (Or.inl rfl)) (pgs_cons (pg_name (i := 3) scRea.nd rfl (Or.inl rfl)) pgs_nil))) (pss_cons (ps_set (i := 4) scRea.nd rfl (Or.inl rfl) (pcall C.step_of (hr.mono (by first | decide | omega)) (pa_cons (pv 3) pa_nil)))
      (pss_cons (ps_if (pt_cmpR op_isN (pv 4) pe_non (nomark _)) pss_never pss_nil)
      (pss_one (ps_expr (pe_bm PySem.F.plainAttrs_list PySem.F.slot_list_append PySem.F.type_list_append mt_append (pv 1) (pa_cons (pv 4) pa_nil)))))))
      (pss_one (ps_ret (pv 1)))))), ?_⟩
    have big : ∀ n : Nat, n ≤ 1000010 → n ≤ sizeLine := fun n h => Nat.le_trans h (by decide)
    refine ⟨_, rfl, rfl, _, rfl, ite2 (fun e => ?_) (fun e => ?_)⟩
    · have e2 : z = "" := vstr0.mp e
      unfold readOf at hro
      rw [if_pos e2] at hro
      cases hro
      exact ⟨Nat.zero_le _, fun l nl => q l [] _ (Ex.new nl) nl upd_same trivial⟩
    · have e2 : ¬ z = "" := fun k => e (vstr0.mpr k)
      unfold readOf at hro
      rw [if_neg e2] at hro
      refine ⟨Nat.zero_le _, fun L nL => ?_⟩
      obtain ⟨hl, he⟩ := split_parts z 10
      refine ⟨_, rfl, ⟨_, rfl⟩, z, sg 10, rfl, rfl, rfl, big _ (by omega), fun p np => ?_⟩
      have hp : upd (upd H L (.lst [])) p (.lst ((Txt.split z (sg 10)).map V.str)) p = some (.lst ((Txt.split z (sg 10)).map V.str)) := upd_same
      have hLp : L ≠ p := ne_of_none (upd_same (H := H) (a := L) (o := .lst [])) np
      have hL : upd (upd H L (.lst [])) p (.lst ((Txt.split z (sg 10)).map V.str)) L = some (.lst []) := by rw [upd_ne hLp, upd_same]
      have e1 : Ex H (upd (upd H L (.lst [])) p (.lst ((Txt.split z (sg 10)).map V.str))) := (Ex.new nL).trans (Ex.new np)
      generalize upd (upd H L (.lst [])) p (.lst ((Txt.split z (sg 10)).map V.str)) = H1 at hp hL e1 ⊢
      have sl := steps_len hro
      generalize Txt.split z (sg 10) = rows at hl he hp hro sl ⊢
      refine ⟨p, _, rfl, SqL.of hp, ?_⟩
      refine for_it (walk_enum (K := K) (a := p) (xs := rows.map V.str)) (fun i σ H' => ∃ c d e us, σ = [some (.str z), some (.ref L), c, d, e] ∧ Ex H H' ∧ H' L = some (.lst us) ∧ H' p = some (.lst (rows.map V.str)) ∧ us.length = i ∧ Tups H' us (steps.take i))
        ⟨_, _, _, [], rfl, e1, hL, hp, rfl, trivial⟩ (fun _ _ _ _ ⟨_, _, _, _, _, _, _, h, _⟩ => SqL.of h) ?_ ?_
      · rintro i x σ H2 H3 hi ⟨c0, d0, e0, us, rfl, x1, x2, x3, x4, x5⟩ ⟨T', a1, a2, rfl, nT, rfl, h1, h2⟩
        have h1 : some (V.int (i : Nat)) = some a1 := h1
        obtain rfl := Option.some.inj h1
        have h2 : (rows.map V.str)[i]? = some a2 := h2
        obtain ⟨r, hr2, rfl⟩ : ∃ r, rows[i]? = some r ∧ a2 = V.str r := by
          rw [List.getElem?_map] at h2
          cases e9 : rows[i]? with
          | none => rw [e9] at h2; cases h2
          | some r =>
            rw [e9] at h2
            exact ⟨r, rfl, (Option.some.inj h2).symm⟩
        obtain ⟨sx, hsx, hso⟩ := steps_get hro hr2
        have hrl := (he r (List.mem_of_getElem? hr2)).1
        have y1 : Ex H2 (upd H2 T' (.tup [.int (i : Nat), .str r])) := Ex.new nT
        refine ⟨T', _, rfl, SqT.of upd_same, rfl, _, _, rfl, _, _, rfl, rfl, ?_⟩
        refine ⟨_, rfl, r, rfl, by omega, (fun h => by rw [hso] at h; cases h), fun xs h t H4 y2 nt ht => ?_⟩
        rw [hso] at h
        cases h
        have y3 := y1.trans y2
        refine ⟨_, rfl, rfl, _, rfl, iteF ?_⟩
        have nL2 : L ≠ t := ne_of_none (y1 _ _ x2) nt
        refine ⟨_, rfl, .inl ⟨rfl, _, SqL.of (y3 _ _ x2)⟩, _, rfl, L, us, _, rfl, rfl, y3 _ _ x2, ?_, _, _, _, _, rfl, ?_, upd_same, ?_, ?_, ?_⟩
        · rw [x4]
          rw [List.length_map] at hi
          exact Nat.lt_of_lt_of_le hi (Nat.le_trans hl (big _ (by omega)))
        · exact ex_set (x1.trans y3) nL
        · rw [upd_ne (Ne.symm hLp)]
          exact y3 _ _ x3
        · rw [List.length_append, x4]
          rfl
        · rw [List.take_add_one, hsx]
          refine Tups.snoc ?_ ((x5.mono (TupEx.ex y3)).mono (TupEx.lst (y3 _ _ x2)))
          rw [upd_ne (Ne.symm nL2)]
          exact ht
      · rintro σ H2 ⟨c0, d0, e0, us, rfl, x1, x2, x3, x4, x5⟩
        have et : steps.take (rows.map V.str).length = steps := by rw [List.length_map, ← sl, List.take_length]
        rw [et] at x5
        exact ⟨_, rfl, q L us H2 x1 nL x2 x5⟩
end
end Vf
namespace Vf
open PySem PySem.Spec PyProof.Rows L2 Evl
/-! ### steps written: the mathematics -/
def partS : V → Str
  | .str z => z
  | .int n => Str.ofString (toString n)
  | _ => ⟨#[]⟩
def PartOk : V → Prop
  | .str z => z.length ≤ 1000
  | .int n => 0 ≤ n ∧ n < 1000000
  | _ => False
def rowS (xs : List V) : Str := Txt.join (sg 32) (xs.map partS)
def textS (steps : List (List V)) : Str := Txt.join (sg 10) (steps.map rowS)
/-- a step that is written and read to the same -/
def StepOK (xs : List V) : Prop :=
  (∃ (n : Nat) (z : Str), xs = [.str "press", .int n, .str z] ∧ n < 1000000 ∧ z.length ≤ 1000 ∧ ∀ c ∈ z.cps.toList, isK c = true) ∨
  ∃ (w : Str) (ns : List Nat), xs = .str w :: ns.map (fun n => V.int (n : Nat)) ∧ TBL.lookup w = some (ns.length : Int) ∧ ∀ n ∈ ns, n < 1000000
theorem partS_int (n : Nat) : partS (.int (n : Nat)) = txt (TL.numL n) := num_txt n
theorem tl_join_row (c : Nat) (ps : List Str) : (Txt.join (sg c) ps).cps.toList = TL.joinL [c] (ps.map TL.tl) := by
  show TL.tl (Txt.join (sg c) ps) = _
  rw [TL.join_eq, TL.tl_join]
  rfl
theorem split_row {ps : List Str} {c : Nat} (hc : c < 256) (hne : ps ≠ []) (h : ∀ z ∈ ps, c ∉ z.cps.toList) : Txt.split (Txt.join (sg c) ps) (sg c) = ps :=
  TL.split_join (s := c) (S := []) rfl (by show (#[c] : Array Nat).all (fun x => decide (x < 256)) = true; simp [hc]) hne h
theorem tbl_facts : (TBL.all fun p => !decide (p.1 = "press") && p.1.cps.toList.all (fun c => decide (97 ≤ c)) && decide (p.1.length ≤ 10)) = true := by decide +kernel
theorem lookup_mem {w : Str} {v : Int} : ∀ {t : List (Str × Int)}, t.lookup w = some v → (w, v) ∈ t
  | [], h => by cases h
  | (x, y) :: t, h => by
    rw [List.lookup_cons] at h
    cases e : w == x with
    | true =>
      rw [e] at h
      have e2 := eq_of_beq e
      subst e2
      cases h
      exact List.mem_cons_self
    | false =>
      rw [e] at h
      exact List.mem_cons_of_mem _ (lookup_mem h)
theorem tbl_word {w : Str} {v : Int} (h : TBL.lookup w = some v) : ¬ w = "press" ∧ (∀ c ∈ w.cps.toList, 97 ≤ c) ∧ w.length ≤ 10 := by
  have q := List.all_eq_true.mp tbl_facts _ (lookup_mem h)
  simp only [Bool.and_eq_true] at q
  obtain ⟨⟨q1, q2⟩, q3⟩ := q
  refine ⟨fun k => ?_, fun c hc => ?_, of_decide_eq_true q3⟩
  · rw [decide_eq_true k] at q1
    cases q1
  · exact of_decide_eq_true (List.all_eq_true.mp q2 c hc)
theorem nums_back : ∀ {ns : List Nat}, (∀ n ∈ ns, n < 1000000) → numsOf 6 (ns.map fun n => partS (.int (n : Nat))) = some ns
  | [], _ => rfl
  | n :: r, h => by
    have h1 : numOf (partS (.int (n : Nat))) 6 = some n := by
      rw [partS_int]
      exact numOf_num (TL.numL_len (by decide) (by have := h n List.mem_cons_self; omega))
    have h2 := nums_back (ns := r) fun k hk => h k (List.mem_cons_of_mem _ hk)
    rw [List.map_cons]
    unfold numsOf
    rw [h1, h2]
theorem key_low32 : (KEY.cps.toList.all fun c => decide (32 ≤ c)) = true := by decide +kernel
theorem isK_low {c : Nat} (h : isK c = true) : 32 ≤ c := of_decide_eq_true (List.all_eq_true.mp key_low32 c (of_decide_eq_true h))
theorem press_low : ((Str.ofString "press").cps.toList.all fun c => decide (97 ≤ c)) = true := by decide +kernel
theorem step_back {xs : List V} (h : StepOK xs) : stepOf (rowS xs) = some xs := by
  rcases h with ⟨n, z, rfl, hn, hz, hk⟩ | ⟨w, ns, rfl, hl, hns⟩
  · have np : (32 : Nat) ∉ (Str.ofString "press").cps.toList := fun k => by
      have := of_decide_eq_true (List.all_eq_true.mp press_low _ k)
      omega
    have nn : (32 : Nat) ∉ TL.numL n := TL.numL_free (.inl (by decide))
    have et : (rowS [.str "press", .int (n : Nat), .str z]).cps.toList = (Str.ofString "press").cps.toList ++ 32 :: (TL.numL n ++ 32 :: z.cps.toList) := by
      unfold rowS
      rw [tl_join_row]
      show TL.joinL [32] [(Str.ofString "press").cps.toList, TL.tl (partS (.int (n : Nat))), z.cps.toList] = _
      rw [partS_int]
      have e : TL.tl (txt (TL.numL n)) = TL.numL n := txt_cps _
      rw [e]
      simp [TL.joinL]
    have hsp : ∃ ps, Txt.split (rowS [.str "press", .int (n : Nat), .str z]) (sg 32) = Str.ofString "press" :: ps := by
      obtain ⟨a, r, e⟩ := split_ne (rowS [.str "press", .int (n : Nat), .str z]) 32
      refine ⟨r, ?_⟩
      have h := TL.split_spl (rowS [.str "press", .int (n : Nat), .str z]) (sg 32) (fun h => nomatch (show ([32] : List Nat) = [] from h)) (kind1 (by decide))
      have e2 : TL.tl (rowS [.str "press", .int (n : Nat), .str z]) = (Str.ofString "press").cps.toList ++ ([32] ++ (TL.numL n ++ 32 :: z.cps.toList)) := et
      rw [e2] at h
      have e3 : TL.spl (TL.tl (sg 32)) 0 [] ((Str.ofString "press").cps.toList ++ ([32] ++ (TL.numL n ++ 32 :: z.cps.toList))) = ([] ++ (Str.ofString "press").cps.toList) :: TL.spl [32] 0 [] (TL.numL n ++ 32 :: z.cps.toList) := TL.spl_part1 (S := []) np
      rw [e3, e] at h
      rw [e]
      congr 1
      exact TL.ext_tl (List.cons.inj h).1
    obtain ⟨ps, hsp⟩ := hsp
    unfold stepOf
    rw [hsp]
    show (if Str.ofString "press" = Str.ofString "press" then pressOf _ else _) = _
    rw [if_pos rfl]
    have hc := splitMax_cut (rowS [.str "press", .int (n : Nat), .str z]) (c := 32) (by decide) 2
    rw [et, cut_free np, cut_free nn, show cutA 32 0 [] z.cps.toList = [[] ++ z.cps.toList] by cases z.cps.toList <;> rfl] at hc
    have hm : Txt.splitMax (rowS [.str "press", .int (n : Nat), .str z]) (sg 32) 2 = [Str.ofString "press", txt (TL.numL n), z] := by
      refine TL.map_tl_inj ?_
      refine hc.trans ?_
      show [[] ++ (Str.ofString "press").cps.toList, [] ++ TL.numL n, [] ++ z.cps.toList] = [(Str.ofString "press").cps.toList, (txt (TL.numL n)).cps.toList, z.cps.toList]
      rw [txt_cps]
      rfl
    unfold pressOf
    rw [hm]
    have h1 : numOf (txt (TL.numL n)) 6 = some n := numOf_num (TL.numL_len (by decide) (by omega))
    show (match numOf (txt (TL.numL n)) 6, wrongAt z.cps.toList with
      | some n, none => some [V.str "press", .int n, .str z]
      | _, _ => none) = _
    rw [h1, wrong_none hk]
  · obtain ⟨w1, w2, w3⟩ := tbl_word hl
    have er : rowS (.str w :: ns.map fun n => V.int (n : Nat)) = Txt.join (sg 32) (w :: ns.map fun n => partS (.int (n : Nat))) := by
      unfold rowS
      rw [List.map_cons, List.map_map]
      rfl
    have hsp : Txt.split (rowS (.str w :: ns.map fun n => V.int (n : Nat))) (sg 32) = w :: ns.map fun n => partS (.int (n : Nat)) := by
      rw [er]
      refine split_row (by decide) (by simp) fun y hy k => ?_
      rcases List.mem_cons.mp hy with rfl | hy
      · have := w2 _ k
        omega
      · obtain ⟨n, _, rfl⟩ := List.mem_map.mp hy
        rw [partS_int, txt_cps] at k
        exact TL.numL_free (.inl (by decide)) k
    unfold stepOf
    rw [hsp]
    show (if w = "press" then _ else match numsOf 6 (ns.map fun n => partS (.int (n : Nat))) with
      | none => none
      | some ns => if TBL.lookup w = some (ns.length : Int) then some (V.str w :: ns.map fun n => V.int (n : Nat)) else none) = _
    rw [if_neg w1, nums_back hns]
    show (if TBL.lookup w = some (ns.length : Int) then _ else none) = _
    rw [if_pos hl]
theorem step_parts {xs : List V} (h : StepOK xs) : xs ≠ [] ∧ xs.length ≤ 5 ∧ (∀ x ∈ xs, PartOk x) ∧ ∃ w r, xs = .str w :: r := by
  rcases h with ⟨n, z, rfl, hn, hz, hk⟩ | ⟨w, ns, rfl, hl, hns⟩
  · refine ⟨by simp, by simp, ?_, _, _, rfl⟩
    intro x hx
    simp only [List.mem_cons, List.mem_nil_iff, or_false] at hx
    rcases hx with rfl | rfl | rfl
    · show (Str.ofString "press").length ≤ 1000
      decide
    · exact ⟨by omega, by omega⟩
    · exact hz
  · obtain ⟨w1, w2, w3⟩ := tbl_word hl
    have h4 : ns.length ≤ 4 := by
      have q := lookup_mem hl
      simp only [TBL, List.mem_cons, Prod.mk.injEq, List.mem_nil_iff, or_false] at q
      omega
    refine ⟨by simp, by simp; omega, ?_, _, _, rfl⟩
    intro x hx
    rcases List.mem_cons.mp hx with rfl | hx
    · exact Nat.le_trans w3 (by decide)
    · obtain ⟨n, hn, rfl⟩ := List.mem_map.mp hx
      have := hns n hn
      exact ⟨by omega, by omega⟩
theorem row_signs {xs : List V} (h : StepOK xs) : ∀ c ∈ (rowS xs).cps.toList, 32 ≤ c := by
  intro c hc
  unfold rowS at hc
  rw [tl_join_row] at hc
  rcases mem_joinL hc with hc | ⟨p, hp, hc⟩
  · have := List.mem_singleton.mp hc
    omega
  · obtain ⟨y, hy, rfl⟩ := List.mem_map.mp hp
    obtain ⟨x, hx, rfl⟩ := List.mem_map.mp hy
    have num : ∀ n : Nat, c ∈ TL.tl (partS (.int (n : Nat))) → 32 ≤ c := fun n k => by
      rw [partS_int] at k
      have k2 : c ∈ (txt (TL.numL n)).cps.toList := k
      rw [txt_cps] at k2
      have := TL.numL_digits n c k2
      omega
    rcases h with ⟨n, z, rfl, hn, hz, hk⟩ | ⟨w, ns, rfl, hl, hns⟩
    · simp only [List.mem_cons, List.mem_nil_iff, or_false] at hx
      rcases hx with rfl | rfl | rfl
      · have := of_decide_eq_true (List.all_eq_true.mp press_low _ hc)
        omega
      · exact num n hc
      · exact isK_low (hk c hc)
    · rcases List.mem_cons.mp hx with rfl | hx
      · have := (tbl_word hl).2.1 c hc
        omega
      · obtain ⟨n, _, rfl⟩ := List.mem_map.mp hx
        exact num n hc
theorem steps_back : ∀ {steps : List (List V)}, (∀ xs ∈ steps, StepOK xs) → stepsOf (steps.map rowS) = some steps
  | [], _ => rfl
  | x :: r, h => by
    rw [List.map_cons]
    unfold stepsOf
    rw [step_back (h x List.mem_cons_self), steps_back fun y hy => h y (List.mem_cons_of_mem _ hy)]
theorem row_ne {xs : List V} (h : StepOK xs) : 0 < (rowS xs).cps.toList.length := by
  have hw : ∃ (w : Str) (r : List V), xs = .str w :: r ∧ 0 < w.cps.toList.length := by
    rcases h with ⟨n, z, rfl, hn, hz, hk⟩ | ⟨w, ns, rfl, hl, hns⟩
    · exact ⟨_, _, rfl, by decide⟩
    · refine ⟨_, _, rfl, ?_⟩
      have q := List.all_eq_true.mp (show (TBL.all fun p => decide (0 < p.1.cps.toList.length)) = true by decide +kernel) _ (lookup_mem hl)
      exact of_decide_eq_true q
  obtain ⟨w, r, rfl, hp⟩ := hw
  unfold rowS
  rw [tl_join_row]
  cases r with
  | nil => simpa [TL.joinL, partS] using hp
  | cons y r =>
    show 0 < (TL.joinL [32] (TL.tl w :: TL.tl (partS y) :: (r.map partS).map TL.tl)).length
    have e : TL.joinL [32] (TL.tl w :: TL.tl (partS y) :: (r.map partS).map TL.tl) = w.cps.toList ++ ([32] ++ TL.joinL [32] (TL.tl (partS y) :: (r.map partS).map TL.tl)) := by simp [TL.joinL]
    rw [e, List.length_append]
    omega
theorem read_back {steps : List (List V)} (h : ∀ xs ∈ steps, StepOK xs) : readOf (textS steps) = some steps := by
  unfold readOf
  cases steps with
  | nil => exact if_pos rfl
  | cons x r =>
    have hne : ¬ textS (x :: r) = "" := fun k => by
      have h1 := row_ne (h x List.mem_cons_self)
      have h2 := congrArg (fun z : Str => z.cps.toList.length) k
      have h3 : (textS (x :: r)).cps.toList.length = 0 := h2
      unfold textS at h3
      rw [tl_join_row] at h3
      cases r with
      | nil =>
        have h4 : (TL.joinL [10] [TL.tl (rowS x)]).length = 0 := h3
        simp [TL.joinL] at h4
        have h5 : (rowS x).cps.toList.length = 0 := by
          show (rowS x).cps.toList.length = 0
          rw [h4]; rfl
        omega
      | cons y r =>
        have h4 : (TL.joinL [10] (TL.tl (rowS x) :: TL.tl (rowS y) :: (r.map rowS).map TL.tl)).length = 0 := h3
        have e : TL.joinL [10] (TL.tl (rowS x) :: TL.tl (rowS y) :: (r.map rowS).map TL.tl) = (rowS x).cps.toList ++ ([10] ++ TL.joinL [10] (TL.tl (rowS y) :: (r.map rowS).map TL.tl)) := by simp [TL.joinL]
        rw [e] at h4
        simp at h4
    rw [if_neg hne]
    have hs : Txt.split (textS (x :: r)) (sg 10) = (x :: r).map rowS := split_row (by decide) (by simp) fun y hy k => by
      obtain ⟨xs, hxs, rfl⟩ := List.mem_map.mp hy
      have := row_signs (h xs hxs) _ k
      omega
    rw [hs]
    exact steps_back h
end Vf
namespace Vf
open PySem PySem.Spec PyProof.Rows L2 Evl
/-! ### steps written: the defs -/
abbrev sRof : Stmt := topS 13
theorem scRof : FnScope ["step", "part"] ["step"] (defScope sRof) := ⟨rfl, rfl, rfl, by decide +kernel, rfl, by decide +kernel, by decide +kernel⟩
abbrev sWri : Stmt := topS 14
theorem scWri : FnScope ["steps", "step"] ["steps"] (defScope sWri) := ⟨rfl, rfl, rfl, by decide +kernel, rfl, by decide +kernel, by decide +kernel⟩
abbrev sLro : Stmt := topS 23
theorem scLro : FnScope ["_law_steps", "_law_found", "_law_step", "_law_row", "_law_part"] ["_law_steps"] (defScope sLro) := ⟨rfl, rfl, rfl, by decide +kernel, rfl, by decide +kernel, by decide +kernel⟩
structure TWri (mg : Str → Option Value) : Prop where
  z_str : mg "str" = none
  z_isinstance : mg "isinstance" = none
def PartsOk (xs : List V) : Prop := xs.length ≤ 10 ∧ (∀ x ∈ xs, PartOk x) ∧ ∃ w r, xs = .str w :: r
theorem StepOK.parts {xs : List V} (h : StepOK xs) : PartsOk xs := by
  obtain ⟨_, h2, h3, h4⟩ := step_parts h
  exact ⟨by omega, h3, h4⟩
theorem part_len {x : V} (h : PartOk x) : (partS x).length ≤ 1000 := by
  cases x with
  | str z => exact h
  | int n =>
    obtain ⟨h0, h1⟩ := (show 0 ≤ n ∧ n < 1000000 from h)
    obtain ⟨m, rfl⟩ := Int.eq_ofNat_of_zero_le h0
    rw [show partS (.int ((m : Nat) : Int)) = txt (TL.numL m) from partS_int m, txt_len]
    exact Nat.le_trans (TL.numL_len (by decide) (show m < 10 ^ 6 by omega)) (by decide)
  | _ => exact h.elim
theorem sums_le {f : V → Str} {m : Nat} : ∀ {xs : List V}, (∀ x ∈ xs, (f x).length ≤ m) → ((xs.map f).map (fun y => y.length)).sum ≤ xs.length * m
  | [], _ => by simp
  | x :: r, h => by
    have h1 := h x List.mem_cons_self
    have h2 := sums_le (f := f) (m := m) (xs := r) fun y hy => h y (List.mem_cons_of_mem _ hy)
    rw [List.map_cons, List.map_cons, List.sum_cons, List.length_cons, Nat.add_mul, Nat.one_mul]
    omega
theorem join_len (c : Nat) (ps : List Str) : (Txt.join (sg c) ps).length ≤ (ps.map (fun y => y.length)).sum + ps.length := by
  rw [TL.join_eq]
  cases ps with
  | nil => simp [Str.join, Str.empty, Str.length]
  | cons a r =>
    rw [PyProof.Rows.len_join_cons]
    have e : r.length * (sg c).length = r.length := by
      show r.length * 1 = _
      omega
    rw [e, List.length_cons]
    omega
theorem row_len {xs : List V} (h : PartsOk xs) : (rowS xs).length ≤ 10010 := by
  have h1 := join_len 32 (xs.map partS)
  have h2 := sums_le (f := partS) (m := 1000) (xs := xs) fun x hx => part_len (h.2.1 x hx)
  have h3 := h.1
  have h4 : xs.length * 1000 ≤ 10 * 1000 := Nat.mul_le_mul_right _ h3
  unfold rowS
  rw [List.length_map] at h1
  omega
theorem text_sum {steps : List (List V)} (h : ∀ xs ∈ steps, PartsOk xs) : ((steps.map rowS).map (fun y => y.length)).sum ≤ steps.length * 10010 := by
  induction steps with
  | nil => simp
  | cons x r ih =>
    have h1 := row_len (h x List.mem_cons_self)
    have h2 := ih fun y hy => h y (List.mem_cons_of_mem _ hy)
    rw [List.map_cons, List.map_cons, List.sum_cons, List.length_cons, Nat.add_mul, Nat.one_mul]
    omega
theorem text_len {steps : List (List V)} (h : ∀ xs ∈ steps, PartsOk xs) (hl : steps.length ≤ 60) : (textS steps).length ≤ 700000 := by
  have h1 := join_len 10 (steps.map rowS)
  have h2 := text_sum h
  have h4 : steps.length * 10010 ≤ 60 * 10010 := Nat.mul_le_mul_right _ hl
  unfold textS
  rw [List.length_map] at h1
  omega
theorem Tups.snd {H : Hp} : ∀ {vs : List V} {xs : List (List V)} {i : Nat} {x : List V}, Tups H vs xs → xs[i]? = some x → ∃ a, vs[i]? = some (.ref a) ∧ H a = some (.tup x)
  | v :: vs, y :: xs, 0, u, h, e => by
    obtain ⟨a, h1, h2⟩ := h.1
    cases e
    exact ⟨a, by rw [h1]; rfl, h2⟩
  | v :: vs, y :: xs, i + 1, u, h, e => Tups.snd (i := i) h.2 e
  | [], [], _, _, _, e => by cases e
  | [], _ :: _, _, _, h, _ => h.elim
  | _ :: _, [], _, _, h, _ => h.elim
def spRof (K : PySem.W.Frag) : Sp := fun vs H Q _ => ∃ (a : Addr) (xs : List V), vs = [.ref a] ∧ SqT K H a xs ∧ PartsOk xs ∧ ∀ H', Ex H H' → Q (.str (rowS xs)) H'
def spWri (K : PySem.W.Frag) : Sp := fun vs H Q _ => ∃ (a : Addr) (us : List V) (steps : List (List V)), vs = [.ref a] ∧ SqL K H a us ∧ Tups H us steps ∧ (∀ xs ∈ steps, PartsOk xs) ∧ steps.length ≤ 60 ∧ ∀ H', Ex H H' → Q (.str (textS steps)) H'
section
variable {P : Program} {w : World} {K : PySem.W.Frag} {mg : Str → Option Value} {base : Heap}
theorem ok_rof {f : Addr} {fd : FuncData} (F : Fun K "row_of" "row_of" sRof f fd) (T : TWri mg) : FnOk P w K mg base CX0 1 f fd ["step"] (spRof K) := by
  refine F.ok scRof (fun vs H Q E h => ?_) (fun cdv A outer s H vs Q E hr h => ?_)
  · obtain ⟨a, xs, rfl, _⟩ := h
    rfl
  · obtain ⟨a, xs, rfl, hS, hP, q⟩ := h
    refine ⟨_, (pss_one (ps_ret (pe_join pe_str (pe_lc (own := [("part", 1)]) (g := gName 1) (tt := tYes) rfl scRof.nd (pi_tup (pv 0)) (blkOk_by (own := [("part", 1)]) (N := ["step", "part"]) (sc := defScope sRof) (by decide +kernel)) (fun _ _ _ _ _ => pg_name (i := 1) scRof.nd rfl (Or.inl rfl)) (fun _ _ _ _ _ => pts_nil) (fun _ _ _ _ _ => (pe_callTy call_str_any (by rfl) T.z_str boot_str (pa_cons (pv 1) pa_nil))))))), ?_⟩
    refine ⟨⟨_, rfl⟩, _, rfl, a, rfl, ⟨_, hS⟩, fun D hD => ?_⟩
    refine lc_it (walk_tup (K := K) (a := a) (xs := xs)) (fun i H' => Ex H H' ∧ H' D = some (.lst (((xs.take i).map partS).map V.str))) ⟨Ex.new hD, upd_same⟩ (fun i H' _ h => ex_t h.1 hS) ?_ ?_
    · rintro i x H2 H3 hi ⟨e, hp⟩ ⟨rfl, hx⟩
      have hPx := hP.2.1 x (List.mem_of_getElem? hx)
      have fin : ∃ acc, H3 D = some (.lst acc) ∧ acc.length < sizeLine ∧ Ex H (upd H3 D (.lst (acc ++ [.str (partS x)]))) ∧ (upd H3 D (.lst (acc ++ [.str (partS x)]))) D = some (.lst (((xs.take (i + 1)).map partS).map V.str)) := by
        refine ⟨_, hp, ?_, ex_set e hD, ?_⟩
        · rw [List.length_map, List.length_map, List.length_take]
          exact Nat.lt_of_le_of_lt (Nat.min_le_right _ _) (Nat.lt_of_le_of_lt hP.1 (by decide))
        · rw [upd_same, List.take_add_one, hx, List.map_append, List.map_append]
          rfl
      refine ⟨rfl, yes_lc ?_⟩
      cases x with
      | str z => exact ⟨_, rfl, .inr ⟨z, rfl, fin⟩⟩
      | int n =>
        obtain ⟨h0, h1⟩ := (show 0 ≤ n ∧ n < 1000000 from hPx)
        obtain ⟨m, rfl⟩ := Int.eq_ofNat_of_zero_le h0
        exact ⟨_, rfl, .inl ⟨_, rfl, log_small (n := m) (by omega), fin⟩⟩
      | _ => exact hPx.elim
    · rintro H2 ⟨e, hp⟩
      rw [List.take_length] at hp
      refine ⟨_, D, xs.map partS, rfl, rfl, .inl (SqL.of hp), ?_, q _ e⟩
      have h2 := sums_le (f := partS) (m := 1000) (xs := xs) fun x hx => part_len (hP.2.1 x hx)
      have h3 := hP.1
      have h4 : xs.length * 1000 ≤ 10 * 1000 := Nat.mul_le_mul_right _ h3
      show _ + (xs.map partS).length * 1 ≤ _
      rw [List.length_map]
      omega
structure CWri (P : Program) (w : World) (K : PySem.W.Frag) (mg : Str → Option Value) (base : Heap) : Prop where
  row_of : Cal P w K mg base "row_of" 1 ["step"] (spRof K)
theorem ok_wri {f : Addr} {fd : FuncData} (F : Fun K "written" "written" sWri f fd) (C : CWri P w K mg base) : FnOk P w K mg base CX0 2 f fd ["steps"] (spWri K) := by
  refine F.ok scWri (fun vs H Q E h => ?_) (fun cdv A outer s H vs Q E hr h => ?_)
  · obtain ⟨a, us, steps, rfl, _⟩ := h
    rfl
  · obtain ⟨a, us, steps, rfl, hS, hT, hP, hl, q⟩ := h
    refine ⟨_, (pss_one (ps_ret (pe_join pe_str (pe_lc (own := [("step", 1)]) (g := gName 1) (tt := tYes) rfl scWri.nd (pi_list (pv 0)) (blkOk_by (own := [("step", 1)]) (N := ["steps", "step"]) (sc := defScope sWri) (by decide +kernel)) (fun _ _ _ _ _ => pg_name (i := 1) scWri.nd rfl (Or.inl rfl)) (fun _ _ _ _ _ => pts_nil) (fun _ _ _ _ _ => (pcall C.row_of (hr.mono (by first | decide | omega)) (pa_cons (pv 1) pa_nil))))))), ?_⟩
    have hlen := hT.len
    refine ⟨⟨_, rfl⟩, _, rfl, a, rfl, ⟨_, hS⟩, fun D hD => ?_⟩
    refine lc_it (walk_list (K := K) (a := a) (xs := us)) (fun i H' => Ex H H' ∧ H' D = some (.lst (((steps.take i).map rowS).map V.str))) ⟨Ex.new hD, upd_same⟩ (fun i H' _ h => ex_l h.1 hS) ?_ ?_
    · rintro i x H2 H3 hi ⟨e, hp⟩ ⟨rfl, hx⟩
      obtain ⟨t, xs, rfl, ht, hxs⟩ := hT.get hx
      refine ⟨rfl, yes_lc ?_⟩
      refine ⟨_, rfl, t, xs, rfl, SqT.of (e _ _ ht), hP xs (List.mem_of_getElem? hxs), fun H4 e4 => ?_⟩
      refine ⟨_, e4 _ _ hp, ?_, ex_set (e.trans e4) hD, ?_⟩
      · rw [List.length_map, List.length_map, List.length_take]
        exact Nat.lt_of_le_of_lt (Nat.min_le_right _ _) (Nat.lt_of_le_of_lt hl (by decide))
      · rw [upd_same, List.take_add_one, hxs, List.map_append, List.map_append]
        rfl
    · rintro H2 ⟨e, hp⟩
      rw [hlen, List.take_length] at hp
      refine ⟨_, D, steps.map rowS, rfl, rfl, .inl (SqL.of hp), ?_, q _ e⟩
      have h2 := text_sum hP
      have h4 : steps.length * 10010 ≤ 60 * 10010 := Nat.mul_le_mul_right _ hl
      show _ + (steps.map rowS).length * 1 ≤ _
      rw [List.length_map]
      omega
/-! ### the law's own rows -/
theorem rowS_snoc (v : V) (r : List V) (x : V) : rowS (v :: (r ++ [x])) = (rowS (v :: r) ++ Str.ofString " ") ++ partS x := by
  show (⟨((r ++ [x]).map partS).foldl (fun (acc : Array Nat) (p : Str) => acc ++ (sg 32).cps ++ p.cps) (partS v).cps⟩ : Str) = _
  rw [List.map_append, List.foldl_append]
  rfl
theorem ok_lro {f : Addr} {fd : FuncData} (F : Fun K "_law_rows" "_law_rows" sLro f fd) (T : TWri mg) : FnOk P w K mg base CX0 1 f fd ["_law_steps"] (spWri K) := by
  refine F.ok scLro (fun vs H Q E h => ?_) (fun cdv A outer s H vs Q E hr h => ?_)
  · obtain ⟨a, us, steps, rfl, _⟩ := h
    rfl
  · obtain ⟨a, us, steps, rfl, hS, hT, hP, hl, q⟩ := h
    refine ⟨_, (pss_cons (ps_set (i := 1) scLro.nd rfl (Or.inl rfl) (pe_lst pa_nil))
      (pss_cons (ps_for PassesOwn.never rfl (pi_list (pv 0)) (pg_name (i := 2) scLro.nd rfl (Or.inl rfl)) (pss_cons (ps_set (i := 3) scLro.nd rfl (Or.inl rfl) (pe_ix ix_tup (pv 2) pe_int (fun _ _ => rfl)))
      (pss_cons (ps_for PassesOwn.never rfl (pi_tup (pe_slice sl_tup (pv 2) (po_some pe_int) po_none)) (pg_name (i := 4) scLro.nd rfl (Or.inl rfl)) (pss_one (ps_set (i := 3) scLro.nd rfl (Or.inl rfl) (pe_op op_add_str (pe_op op_add_str (pv 3) pe_str) (pe_ifExp (pt_val (pe_callB call_isi (by rfl) T.z_isinstance boot_isinstance (pa_cons (pv 4) (pa_cons (pe_bltn (v := .ty "str") (by rfl) T.z_str boot_str rfl) pa_nil)))) (pv 4) (pe_callTy call_str_any (by rfl) T.z_str boot_str (pa_cons (pv 4) pa_nil)))))))
      (pss_one (ps_expr (pe_bm PySem.F.plainAttrs_list PySem.F.slot_list_append PySem.F.type_list_append mt_append (pv 1) (pa_cons (pv 3) pa_nil)))))))
      (pss_one (ps_ret (pe_join pe_str (pv 1)))))), ?_⟩
    have hlen := hT.len
    refine ⟨Nat.zero_le _, fun D hD => ?_⟩
    refine ⟨_, rfl, a, rfl, ⟨_, ex_l (Ex.new hD) hS⟩, ?_⟩
    refine for_it (walk_list (K := K) (a := a) (xs := us)) (fun i σ H' => ∃ c d e, σ = [some (.ref a), some (.ref D), c, d, e] ∧ Ex H H' ∧ H' D = some (.lst (((steps.take i).map rowS).map V.str)))
      ⟨_, _, _, rfl, Ex.new hD, upd_same⟩ (fun i σ H' _ ⟨_, _, _, _, e, _⟩ => ex_l e hS) ?_ ?_
    · rintro i x σ H2 H3 hi ⟨c0, d0, e0, rfl, e, hp⟩ ⟨rfl, hx⟩
      obtain ⟨t, xs, rfl, ht, hxs⟩ := hT.get hx
      have hPx := hP xs (List.mem_of_getElem? hxs)
      obtain ⟨wv, r, rfl⟩ := hPx.2.2
      have ht2 := e _ _ ht
      refine ⟨_, rfl, t, _, _, _, rfl, rfl, SqT.of ht2, atI_nat (j := 0) rfl, ?_⟩
      refine ⟨_, rfl, _, rfl, t, _, rfl, SqT.of ht2, ?_, fun p np => ?_⟩
      · rintro ⟨h1, _⟩
        have e1 : HT.sIx (V.str wv :: r).length 0 (some 1) = 1 := by
          rw [show (some (1 : Int)) = some ((1 : Nat) : Int) from rfl, HT.sIx_nat, List.length_cons]
          omega
        omega
      have ec : cutV (V.str wv :: r) (some 1) none = r := by
        unfold cutV
        have e1 : HT.sIx (V.str wv :: r).length 0 (some 1) = 1 := by
          rw [show (some (1 : Int)) = some ((1 : Nat) : Int) from rfl, HT.sIx_nat, List.length_cons]
          omega
        rw [e1, HT.sIx_none, List.drop_one, List.tail_cons, List.length_cons]
        exact List.take_of_length_le (by omega)
      rw [ec]
      have npD : D ≠ p := ne_of_none hp np
      have y1 : Ex H3 (upd H3 p (.tup r)) := Ex.new np
      have hp1 := y1 _ _ hp
      have hpp : upd H3 p (.tup r) p = some (.tup r) := upd_same
      have e1 := e.trans y1
      generalize upd H3 p (.tup r) = H4 at y1 hp1 hpp e1 ⊢
      refine ⟨p, rfl, ⟨_, SqT.of hpp⟩, ?_⟩
      refine for_it (walk_tup (K := K) (a := p) (xs := r)) (fun j σ H' => ∃ e, σ = [some (.ref a), some (.ref D), some (.ref t), some (.str (rowS (.str wv :: r.take j))), e] ∧ H' = H4)
        ⟨_, rfl, rfl⟩ (fun i σ H' _ ⟨_, _, e⟩ => by rw [e]; exact SqT.of hpp) ?_ ?_
      · rintro j x σ H5 H6 hj ⟨e0, rfl, rfl⟩ ⟨rfl, hxj⟩
        have hPj := hPx.2.1 x (List.mem_cons_of_mem _ (List.mem_of_getElem? hxj))
        have hl1 := row_len (xs := .str wv :: r.take j) ⟨by
            have := hPx.1
            rw [List.length_cons] at this ⊢
            rw [List.length_take]
            omega, fun y hy => by
            rcases List.mem_cons.mp hy with rfl | hy
            · exact hPx.2.1 _ List.mem_cons_self
            · exact hPx.2.1 _ (List.mem_cons_of_mem _ (List.mem_of_mem_take hy)), _, _, rfl⟩
        have hl2 := part_len hPj
        have big : ∀ n : Nat, n ≤ 20000 → n ≤ sizeLine := fun n h => Nat.le_trans h (by decide)
        have d1 : (Str.ofString " ").length = 1 := rfl
        have fin : ∃ e, [some (V.ref a), some (V.ref D), some (V.ref t), some (V.str ((rowS (.str wv :: r.take j) ++ Str.ofString " ") ++ partS x)), some x] = [some (V.ref a), some (V.ref D), some (V.ref t), some (V.str (rowS (.str wv :: r.take (j + 1)))), e] ∧ H6 = H6 := by
          refine ⟨some x, ?_, rfl⟩
          rw [List.take_add_one, hxj, ← rowS_snoc]
          rfl
        refine ⟨_, rfl, _, _, rfl, rfl, big _ (by omega), ?_⟩
        cases x with
        | str z =>
          have h9 : z.length ≤ 1000 := hPj
          refine ⟨_, rfl, ?_⟩
          refine ⟨_, .ty "str", _, _, true, rfl, .ty "str", (.base (.str z)), kit_ty (show kitB "str" "str" = some true by decide +kernel), ?_⟩
          refine ⟨_, rfl, iteT ⟨_, rfl, _, _, rfl, rfl, big _ ?_, fin⟩⟩
          rw [Str.length_append]
          omega
        | int n =>
          obtain ⟨h0, h1⟩ := (show 0 ≤ n ∧ n < 1000000 from hPj)
          obtain ⟨m, rfl⟩ := Int.eq_ofNat_of_zero_le h0
          refine ⟨_, rfl, ?_⟩
          refine ⟨_, .ty "str", _, _, false, rfl, .ty "str", (.base (.int _)), kit_ty (show kitB "int" "str" = some false by decide +kernel), ?_⟩
          refine ⟨_, rfl, iteF ⟨_, rfl, .inl ⟨_, rfl, log_small (n := m) (by omega), _, _, rfl, rfl, big _ ?_, fin⟩⟩⟩
          have h9 : (Str.ofString (toString ((m : Nat) : Int))).length ≤ 1000 := hl2
          rw [Str.length_append]
          omega
        | _ => exact hPj.elim
      · rintro σ H5 ⟨e0, rfl, rfl⟩
        rw [List.take_length]
        refine ⟨_, rfl, .inl ⟨rfl, _, SqL.of hp1⟩, _, rfl, D, _, _, rfl, rfl, hp1, ?_, _, _, _, rfl, ex_set e1 hD, ?_⟩
        · rw [List.length_map, List.length_map, List.length_take]
          exact Nat.lt_of_le_of_lt (Nat.min_le_right _ _) (Nat.lt_of_le_of_lt hl (by decide))
        · rw [upd_same, List.take_add_one, hxs, List.map_append, List.map_append]
          rfl
    · rintro σ H2 ⟨c0, d0, e0, rfl, e, hp⟩
      rw [hlen, List.take_length] at hp
      refine ⟨⟨_, rfl⟩, _, rfl, _, D, steps.map rowS, rfl, rfl, .inl (SqL.of hp), ?_, q _ e⟩
      have h2 := text_sum hP
      have h4 : steps.length * 10010 ≤ 60 * 10010 := Nat.mul_le_mul_right _ hl
      show _ + (steps.map rowS).length * 1 ≤ _
      rw [List.length_map]
      omega
end
end Vf
namespace Vf
open PySem PySem.Spec PyProof.Rows L2 Evl
/-! ### a drawn step -/
abbrev sAny : Stmt := topS 22
theorem scAny : FnScope ["_law_box", "_law_numbers", "_law_every", "_law_signs", "_law_some", "_law_k"] ["_law_box"] (defScope sAny) := ⟨rfl, rfl, rfl, by decide +kernel, rfl, by decide +kernel, by decide +kernel⟩
structure TAny (mg : Str → Option Value) : Prop where
  z_range : mg "range" = none
  z_tuple : mg "tuple" = none
def evA : Str := litOf ((defBody sAny).getD 1 (.Pass ⟨0, 0, 0, 0⟩))
theorem evA_len : evA.cps.toList.length = 39 := by decide +kernel
theorem evA_ok : ∀ c ∈ evA.cps.toList, isK c = true := by
  have h : (evA.cps.toList.all isK) = true := by decide +kernel
  exact List.all_eq_true.mp h
def spAny : Sp := fun vs H Q _ => ∃ (b l : Addr), vs = [.ref b] ∧ Box H b l ∧ ∀ (p : Addr) (xs : List V) (H' : Hp), Ex H H' → H' p = some (.tup xs) → StepOK xs → Q (.ref p) H'
section
variable {P : Program} {w : World} {K : PySem.W.Frag} {mg : Str → Option Value} {base : Heap}
theorem ok_any {f : Addr} {fd : FuncData} (F : Fun K "_law_anystep" "_law_anystep" sAny f fd) (T : TAny mg) (C : CTak P w K mg base) : FnOk P w K mg base CX0 2 f fd ["_law_box"] spAny := by
  refine F.ok scAny (fun vs H Q E h => ?_) (fun cdv A outer s H vs Q E hr h => ?_)
  · obtain ⟨b, l, rfl, _⟩ := h
    rfl
  · obtain ⟨b, l, rfl, B, q⟩ := h
    refine ⟨_, (pss_cons (ps_setLc (i := 1) (own := [("_law_k", 5)]) (g := gName 5) (tt := tYes) (by rfl) scAny.nd rfl rfl (sw_true rfl rfl rfl (by decide +kernel)) (pi_range1 rfl T.z_range (pa_cons pe_int pa_nil)) (blkOk_by (own := [("_law_k", 5)]) (N := ["_law_box", "_law_numbers", "_law_every", "_law_signs", "_law_some", "_law_k"]) (sc := defScope sAny) (by decide +kernel)) (fun _ _ _ _ _ => pg_name (i := 5) scAny.nd rfl (Or.inl rfl)) (fun _ _ _ _ _ => pts_nil) (fun _ _ _ _ _ => (pe_ix (r := rIxL K) ix_list (pe_lst (pa_cons (pcall C.law_take (hr.mono (by first | decide | omega)) (pa_cons (pv 0) (pa_cons pe_int pa_nil))) (pa_cons (pcall C.law_take (hr.mono (by first | decide | omega)) (pa_cons (pv 0) (pa_cons (pe_op op_pow pe_int pe_int) pa_nil))) pa_nil))) (pcall C.law_take (hr.mono (by first | decide | omega)) (pa_cons (pv 0) (pa_cons pe_int pa_nil))) (fun _ _ => rfl))))
      (pss_cons (ps_set (i := 2) scAny.nd rfl (Or.inr rfl) pe_str)
      (pss_cons (ps_set (i := 3) scAny.nd rfl (Or.inl rfl) (pe_join pe_str (pe_lc (own := [("_law_k", 5)]) (g := gName 5) (tt := tYes) rfl scAny.nd (pi_range1 rfl T.z_range (pa_cons (pcall C.law_take (hr.mono (by first | decide | omega)) (pa_cons (pv 0) (pa_cons (pe_ix ix_list (pe_lst (pa_cons pe_int (pa_cons pe_int (pa_cons pe_int pa_nil)))) (pcall C.law_take (hr.mono (by first | decide | omega)) (pa_cons (pv 0) (pa_cons pe_int pa_nil))) (fun _ _ => rfl)) pa_nil))) pa_nil)) (blkOk_by (own := [("_law_k", 5)]) (N := ["_law_box", "_law_numbers", "_law_every", "_law_signs", "_law_some", "_law_k"]) (sc := defScope sAny) (by decide +kernel)) (fun _ _ _ _ _ => pg_name (i := 5) scAny.nd rfl (Or.inl rfl)) (fun _ _ _ _ _ => pts_nil) (fun _ _ _ _ _ => (pe_ix ix_str (pv 2) (pcall C.law_take (hr.mono (by first | decide | omega)) (pa_cons (pv 0) (pa_cons pe_int pa_nil))) (fun _ _ => rfl))))))
      (pss_cons (ps_set (i := 4) scAny.nd rfl (Or.inl rfl) (pe_lst (pa_cons (pe_op op_catT (pe_tup (pa_cons pe_str pa_nil)) (pe_callTy call_tuple_of (by rfl) T.z_tuple boot_tuple (pa_cons (pv 1) pa_nil))) (pa_cons (pe_tup (pa_cons pe_str (pa_cons (pe_ix ix_list (pv 1) pe_int (fun _ _ => rfl)) (pa_cons (pv 3) pa_nil)))) (pa_cons (pe_tup (pa_cons pe_str (pa_cons (pe_ix ix_list (pv 1) pe_int (fun _ _ => rfl)) (pa_cons (pv 3) pa_nil)))) pa_nil)))))
      (pss_cons (ps_expr (pe_bm PySem.F.plainAttrs_list PySem.F.slot_list_append PySem.F.type_list_append mt_append (pv 4) (pa_cons (pe_tup (pa_cons pe_str (pa_cons (pe_ix ix_list (pv 1) pe_int (fun _ _ => rfl)) pa_nil))) pa_nil)))
      (pss_cons (ps_set (i := 4) scAny.nd rfl (Or.inl rfl) (pe_op op_cat (pv 4) (pe_lst (pa_cons (pe_op op_catT (pe_tup (pa_cons pe_str pa_nil)) (pe_callTy call_tuple_of (by rfl) T.z_tuple boot_tuple (pa_cons (pe_slice sl_list (pv 1) po_none (po_some pe_int)) pa_nil))) (pa_cons (pe_tup (pa_cons pe_str (pa_cons (pe_ix ix_list (pv 1) pe_int (fun _ _ => rfl)) pa_nil))) (pa_cons (pe_tup (pa_cons pe_str pa_nil)) (pa_cons (pe_tup (pa_cons pe_str pa_nil)) (pa_cons (pe_tup (pa_cons pe_str pa_nil)) pa_nil))))))))
      (pss_cons (ps_set (i := 4) scAny.nd rfl (Or.inl rfl) (pe_op op_cat (pv 4) (pe_lst (pa_cons (pe_tup (pa_cons pe_str (pa_cons (pe_ix ix_list (pv 1) pe_int (fun _ _ => rfl)) pa_nil))) (pa_cons (pe_tup (pa_cons pe_str (pa_cons (pe_ix ix_list (pv 1) pe_int (fun _ _ => rfl)) pa_nil))) (pa_cons (pe_tup (pa_cons pe_str (pa_cons (pe_ix ix_list (pv 1) pe_int (fun _ _ => rfl)) pa_nil))) (pa_cons (pe_tup (pa_cons pe_str (pa_cons (pe_ix ix_list (pv 1) pe_int (fun _ _ => rfl)) (pa_cons (pe_ix ix_list (pv 1) pe_int (fun _ _ => rfl)) pa_nil)))) pa_nil)))))))
      (pss_one (ps_ret (pe_ix ix_list (pv 4) (pcall C.law_take (hr.mono (by first | decide | omega)) (pa_cons (pv 0) (pa_cons pe_int pa_nil))) (fun _ _ => rfl))))))))))), ?_⟩
    have p6 : (10 : Int) ^ (6 : Int).toNat = 1000000 := by decide
    refine ⟨4, rfl, by decide, by decide, fun D nD => ?_⟩
    refine lc_it walk_range (fun i H' => Ex H H' ∧ ∃ ns : List Nat, ns.length = i ∧ (∀ n ∈ ns, n < 1000000) ∧ H' D = some (.lst (ns.map fun n => V.int (n : Nat)))) ⟨Ex.new nD, [], rfl, (fun _ h => nomatch h), upd_same⟩ (fun _ _ _ _ => trivial) ?_ ?_
    · rintro i x H2 H3 hi ⟨e, ns, hl, hns, hp⟩ ⟨rfl, rfl⟩
      refine ⟨rfl, yes_lc ?_⟩
      refine ⟨_, rfl, b, l, 10, rfl, B.ex e, by decide, by decide, fun u1 H4 e4 u10 u11 => ?_⟩
      refine ⟨_, rfl, _, _, rfl, rfl, ⟨by decide, by decide, by decide⟩, b, l, _, rfl, (B.ex e).ex e4, by decide, by decide, fun u2 H5 e5 u20 u21 => ?_⟩
      rw [p6] at u21
      refine ⟨(by show 2 ≤ sizeLine; decide), fun t nt => ?_⟩
      have x1 : Ex H3 (upd H5 t (.lst [.int u1, .int u2])) := (e4.trans e5).trans (Ex.new nt)
      have ht : upd H5 t (.lst [.int u1, .int u2]) t = some (.lst [.int u1, .int u2]) := upd_same
      generalize upd H5 t (.lst [.int u1, .int u2]) = H6 at x1 ht ⊢
      refine ⟨_, rfl, b, l, 2, rfl, (B.ex e).ex x1, by decide, by decide, fun u3 H7 e7 u30 u31 => ?_⟩
      obtain ⟨m, hm, hm2⟩ : ∃ m : Nat, atI [V.int u1, V.int u2] u3 = some (.int (m : Nat)) ∧ m < 1000000 := by
        rcases (show u3 = 0 ∨ u3 = 1 by omega) with rfl | rfl
        · exact ⟨u1.toNat, by rw [Int.toNat_of_nonneg u10]; rfl, by omega⟩
        · exact ⟨u2.toNat, by rw [Int.toNat_of_nonneg u20]; rfl, by omega⟩
      have hp7 := e7 _ _ (x1 _ _ hp)
      refine ⟨t, _, _, _, rfl, rfl, SqL.of (e7 _ _ ht), hm, _, hp7, ?_, ex_set ((e.trans x1).trans e7) nD, ns ++ [m], ?_, fun n hn => ?_, ?_⟩
      · rw [List.length_map, hl]
        exact Nat.lt_of_lt_of_le hi (by decide)
      · rw [List.length_append, hl]; rfl
      · rcases List.mem_append.mp hn with hn | hn
        · exact hns n hn
        · rw [List.mem_singleton.mp hn]; exact hm2
      · rw [upd_same, List.map_append]; rfl
    rintro H2 ⟨e2, ns, hl, hns, hp⟩
    obtain ⟨n0, n1, n2, n3, rfl⟩ : ∃ a b c d, ns = [a, b, c, d] := by
      match ns, hl with
      | [a, b, c, d], _ => exact ⟨a, b, c, d, rfl⟩
    have hn0 := hns n0 (by simp)
    have hn1 := hns n1 (by simp)
    have hn2 := hns n2 (by simp)
    have hn3 := hns n3 (by simp)
    have hD : H2 D = some (.lst [.int (n0 : Nat), .int (n1 : Nat), .int (n2 : Nat), .int (n3 : Nat)]) := hp
    clear hp hns hl
    have B2 := B.ex e2
    refine ⟨⟨_, rfl⟩, _, rfl, (by show 3 ≤ sizeLine; decide), fun t nt => ?_⟩
    have x1 : Ex H2 (upd H2 t (.lst [.int 2, .int 9, .int 30])) := Ex.new nt
    have ht : upd H2 t (.lst [.int 2, .int 9, .int 30]) t = some (.lst [.int 2, .int 9, .int 30]) := upd_same
    generalize upd H2 t (.lst [.int 2, .int 9, .int 30]) = H3 at x1 ht ⊢
    refine ⟨_, rfl, b, l, 3, rfl, B2.ex x1, by decide, by decide, fun k H4 e4 k0 k1 => ?_⟩
    obtain ⟨m, hm, hm0, hm2⟩ : ∃ m : Int, atI [V.int 2, V.int 9, V.int 30] k = some (.int m) ∧ 0 < m ∧ m ≤ 30 := by
      rcases (show k = 0 ∨ k = 1 ∨ k = 2 by omega) with rfl | rfl | rfl
      · exact ⟨2, rfl, by decide, by decide⟩
      · exact ⟨9, rfl, by decide, by decide⟩
      · exact ⟨30, rfl, by decide, by decide⟩
    refine ⟨t, _, _, _, rfl, rfl, SqL.of (e4 _ _ ht), hm, b, l, m, rfl, (B2.ex x1).ex e4, hm0, by omega, fun n H5 e5 q0 q1 => ?_⟩
    have x5 := (x1.trans e4).trans e5
    refine ⟨n, rfl, by omega, by omega, fun D2 nD2 => ?_⟩
    refine lc_it walk_range (fun i H' => Ex H2 H' ∧ ∃ cs : List Nat, cs.length = i ∧ (∀ c ∈ cs, isK c = true) ∧ H' D2 = some (.lst ((cs.map sg).map V.str))) ⟨x5.trans (Ex.new nD2), [], rfl, (fun _ h => nomatch h), upd_same⟩ (fun _ _ _ _ => trivial) ?_ ?_
    · rintro i x G H3 hi ⟨e, cs, hl, hc, hp⟩ ⟨rfl, rfl⟩
      refine ⟨rfl, yes_lc ?_⟩
      refine ⟨.str evA, rfl, _, rfl, b, l, 39, rfl, B2.ex e, by decide, by decide, fun k H4 e4 k0 k1 => ?_⟩
      have hk : k.toNat < evA.cps.toList.length := by rw [evA_len]; omega
      refine ⟨evA, k, evA.cps.toList[k.toNat], rfl, rfl, by decide +kernel, at_ix (z := k) (j := k.toNat) (by omega) (List.getElem?_eq_getElem hk), _, e4 _ _ hp, ?_, ex_set (e.trans e4) (fresh_back x5 nD2), cs ++ [evA.cps.toList[k.toNat]], ?_, fun c hm => ?_, ?_⟩
      · rw [List.length_map, List.length_map, hl]
        exact Nat.lt_of_lt_of_le hi (Nat.le_trans (m := 2000) (by omega) (by decide))
      · rw [List.length_append, hl]
        rfl
      · rcases List.mem_append.mp hm with hm | hm
        · exact hc c hm
        · rw [List.mem_singleton.mp hm]
          exact evA_ok _ (List.getElem_mem hk)
      · rw [upd_same, List.map_append, List.map_append]
        rfl
    rintro G0 ⟨eG, cs, hl, hc, hp⟩
    refine ⟨_, D2, cs.map sg, rfl, rfl, .inl (SqL.of hp), ?_, ?_⟩
    · rw [sg_sum, List.length_map]
      show cs.length + cs.length * 0 ≤ _
      omega
    have ej : Txt.join (Str.ofString "") (cs.map sg) = txt cs := join0 cs
    rw [ej]
    have hz : (txt cs).length ≤ 1000 := by rw [txt_len, hl]; omega
    have hk : ∀ c ∈ (txt cs).cps.toList, isK c = true := fun c h => by rw [txt_cps] at h; exact hc c h
    generalize txt cs = z at hz hk ⊢
    clear hp ej hl hc
    have hD := eG _ _ hD
    refine ⟨(by show 1 ≤ sizeLine; decide), fun a1 m_a1 => ?_⟩
    have x_a1 : Ex G0 (upd G0 a1 (.tup [.str "come"])) := Ex.new m_a1
    replace hD := x_a1 _ _ hD
    have h_a1 : upd G0 a1 (.tup [.str "come"]) a1 = some (.tup [.str "come"]) := upd_same
    replace eG := eG.trans x_a1
    generalize upd G0 a1 (.tup [.str "come"]) = G1 at hD h_a1 eG x_a1 ⊢
    clear x_a1
    refine ⟨_, rfl, D, _, rfl, .inl ⟨SqL.of hD, fun a2 m_a2 => ?_⟩⟩
    have x_a2 : Ex G1 (upd G1 a2 (.tup [.int (n0 : Nat), .int (n1 : Nat), .int (n2 : Nat), .int (n3 : Nat)])) := Ex.new m_a2
    replace hD := x_a2 _ _ hD
    replace h_a1 := x_a2 _ _ h_a1
    have h_a2 : upd G1 a2 (.tup [.int (n0 : Nat), .int (n1 : Nat), .int (n2 : Nat), .int (n3 : Nat)]) a2 = some (.tup [.int (n0 : Nat), .int (n1 : Nat), .int (n2 : Nat), .int (n3 : Nat)]) := upd_same
    replace eG := eG.trans x_a2
    generalize upd G1 a2 (.tup [.int (n0 : Nat), .int (n1 : Nat), .int (n2 : Nat), .int (n3 : Nat)]) = G2 at hD h_a1 h_a2 eG x_a2 ⊢
    clear x_a2
    refine ⟨a1, a2, _, _, rfl, rfl, SqT.of h_a1, SqT.of h_a2, (by simp), (by show 5 ≤ sizeLine; decide), (fun h => by cases h), fun _ a3 m_a3 => ?_⟩
    have x_a3 : Ex G2 (upd G2 a3 (.tup ([.str "come"] ++ [.int (n0 : Nat), .int (n1 : Nat), .int (n2 : Nat), .int (n3 : Nat)]))) := Ex.new m_a3
    replace hD := x_a3 _ _ hD
    replace h_a1 := x_a3 _ _ h_a1
    replace h_a2 := x_a3 _ _ h_a2
    have h_a3 : upd G2 a3 (.tup ([.str "come"] ++ [.int (n0 : Nat), .int (n1 : Nat), .int (n2 : Nat), .int (n3 : Nat)])) a3 = some (.tup ([.str "come"] ++ [.int (n0 : Nat), .int (n1 : Nat), .int (n2 : Nat), .int (n3 : Nat)])) := upd_same
    replace eG := eG.trans x_a3
    generalize upd G2 a3 (.tup ([.str "come"] ++ [.int (n0 : Nat), .int (n1 : Nat), .int (n2 : Nat), .int (n3 : Nat)])) = G3 at hD h_a1 h_a2 h_a3 eG x_a3 ⊢
    clear x_a3
    refine ⟨_, rfl, D, _, _, _, rfl, rfl, SqL.of hD, atI_nat (j := 0) rfl, _, rfl, (by show 3 ≤ sizeLine; decide), fun a4 m_a4 => ?_⟩
    have x_a4 : Ex G3 (upd G3 a4 (.tup [.str "press", .int (n0 : Nat), .str z])) := Ex.new m_a4
    replace hD := x_a4 _ _ hD
    replace h_a1 := x_a4 _ _ h_a1
    replace h_a2 := x_a4 _ _ h_a2
    replace h_a3 := x_a4 _ _ h_a3
    have h_a4 : upd G3 a4 (.tup [.str "press", .int (n0 : Nat), .str z]) a4 = some (.tup [.str "press", .int (n0 : Nat), .str z]) := upd_same
    replace eG := eG.trans x_a4
    generalize upd G3 a4 (.tup [.str "press", .int (n0 : Nat), .str z]) = G4 at hD h_a1 h_a2 h_a3 h_a4 eG x_a4 ⊢
    clear x_a4
    refine ⟨_, rfl, D, _, _, _, rfl, rfl, SqL.of hD, atI_nat (j := 1) rfl, _, rfl, (by show 3 ≤ sizeLine; decide), fun a5 m_a5 => ?_⟩
    have x_a5 : Ex G4 (upd G4 a5 (.tup [.str "press", .int (n1 : Nat), .str z])) := Ex.new m_a5
    replace hD := x_a5 _ _ hD
    replace h_a1 := x_a5 _ _ h_a1
    replace h_a2 := x_a5 _ _ h_a2
    replace h_a3 := x_a5 _ _ h_a3
    replace h_a4 := x_a5 _ _ h_a4
    have h_a5 : upd G4 a5 (.tup [.str "press", .int (n1 : Nat), .str z]) a5 = some (.tup [.str "press", .int (n1 : Nat), .str z]) := upd_same
    replace eG := eG.trans x_a5
    generalize upd G4 a5 (.tup [.str "press", .int (n1 : Nat), .str z]) = G5 at hD h_a1 h_a2 h_a3 h_a4 h_a5 eG x_a5 ⊢
    clear x_a5
    refine ⟨(by show 3 ≤ sizeLine; decide), fun l1 m_l1 => ?_⟩
    have nl1 : H2 l1 = none := fresh_back eG m_l1
    have x_l1 : Ex G5 (upd G5 l1 (.lst [.ref a3, .ref a4, .ref a5])) := Ex.new m_l1
    replace hD := x_l1 _ _ hD
    replace h_a1 := x_l1 _ _ h_a1
    replace h_a2 := x_l1 _ _ h_a2
    replace h_a3 := x_l1 _ _ h_a3
    replace h_a4 := x_l1 _ _ h_a4
    replace h_a5 := x_l1 _ _ h_a5
    have h_l1 : upd G5 l1 (.lst [.ref a3, .ref a4, .ref a5]) l1 = some (.lst [.ref a3, .ref a4, .ref a5]) := upd_same
    replace eG := eG.trans x_l1
    generalize upd G5 l1 (.lst [.ref a3, .ref a4, .ref a5]) = G6 at hD h_a1 h_a2 h_a3 h_a4 h_a5 h_l1 eG x_l1 ⊢
    clear x_l1
    refine ⟨_, rfl, .inl ⟨rfl, _, SqL.of h_l1⟩, _, rfl, D, _, _, _, rfl, rfl, SqL.of hD, atI_nat (j := 0) rfl, (by show 2 ≤ sizeLine; decide), fun a6 m_a6 => ?_⟩
    have x_a6 : Ex G6 (upd G6 a6 (.tup [.str "leave", .int (n0 : Nat)])) := Ex.new m_a6
    replace hD := x_a6 _ _ hD
    replace h_a1 := x_a6 _ _ h_a1
    replace h_a2 := x_a6 _ _ h_a2
    replace h_a3 := x_a6 _ _ h_a3
    replace h_a4 := x_a6 _ _ h_a4
    replace h_a5 := x_a6 _ _ h_a5
    replace h_l1 := x_a6 _ _ h_l1
    have h_a6 : upd G6 a6 (.tup [.str "leave", .int (n0 : Nat)]) a6 = some (.tup [.str "leave", .int (n0 : Nat)]) := upd_same
    replace eG := eG.trans x_a6
    generalize upd G6 a6 (.tup [.str "leave", .int (n0 : Nat)]) = G7 at hD h_a1 h_a2 h_a3 h_a4 h_a5 h_l1 h_a6 eG x_a6 ⊢
    clear x_a6
    refine ⟨l1, _, _, rfl, rfl, h_l1, (by show 3 < sizeLine; decide), ?_⟩
    have n_l1 : H2 l1 = none := nl1
    replace hD : upd G7 l1 (.lst ([.ref a3, .ref a4, .ref a5] ++ [.ref a6])) D = _ := (upd_ne (by rintro rfl; rw [hD] at h_l1; cases h_l1)).trans hD
    replace h_a1 : upd G7 l1 (.lst ([.ref a3, .ref a4, .ref a5] ++ [.ref a6])) a1 = _ := (upd_ne (by rintro rfl; rw [h_a1] at h_l1; cases h_l1)).trans h_a1
    replace h_a2 : upd G7 l1 (.lst ([.ref a3, .ref a4, .ref a5] ++ [.ref a6])) a2 = _ := (upd_ne (by rintro rfl; rw [h_a2] at h_l1; cases h_l1)).trans h_a2
    replace h_a3 : upd G7 l1 (.lst ([.ref a3, .ref a4, .ref a5] ++ [.ref a6])) a3 = _ := (upd_ne (by rintro rfl; rw [h_a3] at h_l1; cases h_l1)).trans h_a3
    replace h_a4 : upd G7 l1 (.lst ([.ref a3, .ref a4, .ref a5] ++ [.ref a6])) a4 = _ := (upd_ne (by rintro rfl; rw [h_a4] at h_l1; cases h_l1)).trans h_a4
    replace h_a5 : upd G7 l1 (.lst ([.ref a3, .ref a4, .ref a5] ++ [.ref a6])) a5 = _ := (upd_ne (by rintro rfl; rw [h_a5] at h_l1; cases h_l1)).trans h_a5
    replace h_a6 : upd G7 l1 (.lst ([.ref a3, .ref a4, .ref a5] ++ [.ref a6])) a6 = _ := (upd_ne (by rintro rfl; rw [h_a6] at h_l1; cases h_l1)).trans h_a6
    have h_l1 : upd G7 l1 (.lst ([.ref a3, .ref a4, .ref a5] ++ [.ref a6])) l1 = some (.lst ([.ref a3, .ref a4, .ref a5] ++ [.ref a6])) := upd_same
    have eG : Ex H2 (upd G7 l1 (.lst ([.ref a3, .ref a4, .ref a5] ++ [.ref a6]))) := ex_set eG n_l1
    generalize upd G7 l1 (.lst ([.ref a3, .ref a4, .ref a5] ++ [.ref a6])) = G8 at hD h_a1 h_a2 h_a3 h_a4 h_a5 h_a6 h_l1 eG ⊢
    refine ⟨_, rfl, (by show 1 ≤ sizeLine; decide), fun b1 m_b1 => ?_⟩
    have x_b1 : Ex G8 (upd G8 b1 (.tup [.str "size"])) := Ex.new m_b1
    replace hD := x_b1 _ _ hD
    replace h_a1 := x_b1 _ _ h_a1
    replace h_a2 := x_b1 _ _ h_a2
    replace h_a3 := x_b1 _ _ h_a3
    replace h_a4 := x_b1 _ _ h_a4
    replace h_a5 := x_b1 _ _ h_a5
    replace h_a6 := x_b1 _ _ h_a6
    replace h_l1 := x_b1 _ _ h_l1
    have h_b1 : upd G8 b1 (.tup [.str "size"]) b1 = some (.tup [.str "size"]) := upd_same
    replace eG := eG.trans x_b1
    generalize upd G8 b1 (.tup [.str "size"]) = G9 at hD h_a1 h_a2 h_a3 h_a4 h_a5 h_a6 h_l1 h_b1 eG x_b1 ⊢
    clear x_b1
    refine ⟨_, rfl, _, rfl, D, _, rfl, SqL.of hD, fun b0 m_b0 => ?_⟩
    have x_b0 : Ex G9 (upd G9 b0 (.lst (cutV [.int (n0 : Nat), .int (n1 : Nat), .int (n2 : Nat), .int (n3 : Nat)] none (some 3)))) := Ex.new m_b0
    replace hD := x_b0 _ _ hD
    replace h_a1 := x_b0 _ _ h_a1
    replace h_a2 := x_b0 _ _ h_a2
    replace h_a3 := x_b0 _ _ h_a3
    replace h_a4 := x_b0 _ _ h_a4
    replace h_a5 := x_b0 _ _ h_a5
    replace h_a6 := x_b0 _ _ h_a6
    replace h_l1 := x_b0 _ _ h_l1
    replace h_b1 := x_b0 _ _ h_b1
    have h_b0 : upd G9 b0 (.lst (cutV [.int (n0 : Nat), .int (n1 : Nat), .int (n2 : Nat), .int (n3 : Nat)] none (some 3))) b0 = some (.lst (cutV [.int (n0 : Nat), .int (n1 : Nat), .int (n2 : Nat), .int (n3 : Nat)] none (some 3))) := upd_same
    replace eG := eG.trans x_b0
    generalize upd G9 b0 (.lst (cutV [.int (n0 : Nat), .int (n1 : Nat), .int (n2 : Nat), .int (n3 : Nat)] none (some 3))) = G10 at hD h_a1 h_a2 h_a3 h_a4 h_a5 h_a6 h_l1 h_b1 h_b0 eG x_b0 ⊢
    clear x_b0
    rw [show cutV [.int (n0 : Nat), .int (n1 : Nat), .int (n2 : Nat), .int (n3 : Nat)] none (some 3) = [.int (n0 : Nat), .int (n1 : Nat), .int (n2 : Nat)] from rfl] at h_b0
    refine ⟨b0, _, rfl, .inl ⟨SqL.of h_b0, fun b2 m_b2 => ?_⟩⟩
    have x_b2 : Ex G10 (upd G10 b2 (.tup [.int (n0 : Nat), .int (n1 : Nat), .int (n2 : Nat)])) := Ex.new m_b2
    replace hD := x_b2 _ _ hD
    replace h_a1 := x_b2 _ _ h_a1
    replace h_a2 := x_b2 _ _ h_a2
    replace h_a3 := x_b2 _ _ h_a3
    replace h_a4 := x_b2 _ _ h_a4
    replace h_a5 := x_b2 _ _ h_a5
    replace h_a6 := x_b2 _ _ h_a6
    replace h_l1 := x_b2 _ _ h_l1
    replace h_b1 := x_b2 _ _ h_b1
    replace h_b0 := x_b2 _ _ h_b0
    have h_b2 : upd G10 b2 (.tup [.int (n0 : Nat), .int (n1 : Nat), .int (n2 : Nat)]) b2 = some (.tup [.int (n0 : Nat), .int (n1 : Nat), .int (n2 : Nat)]) := upd_same
    replace eG := eG.trans x_b2
    generalize upd G10 b2 (.tup [.int (n0 : Nat), .int (n1 : Nat), .int (n2 : Nat)]) = G11 at hD h_a1 h_a2 h_a3 h_a4 h_a5 h_a6 h_l1 h_b1 h_b0 h_b2 eG x_b2 ⊢
    clear x_b2
    refine ⟨b1, b2, _, _, rfl, rfl, SqT.of h_b1, SqT.of h_b2, (by simp), (by show 4 ≤ sizeLine; decide), (fun h => by cases h), fun _ b3 m_b3 => ?_⟩
    have x_b3 : Ex G11 (upd G11 b3 (.tup ([.str "size"] ++ [.int (n0 : Nat), .int (n1 : Nat), .int (n2 : Nat)]))) := Ex.new m_b3
    replace hD := x_b3 _ _ hD
    replace h_a1 := x_b3 _ _ h_a1
    replace h_a2 := x_b3 _ _ h_a2
    replace h_a3 := x_b3 _ _ h_a3
    replace h_a4 := x_b3 _ _ h_a4
    replace h_a5 := x_b3 _ _ h_a5
    replace h_a6 := x_b3 _ _ h_a6
    replace h_l1 := x_b3 _ _ h_l1
    replace h_b1 := x_b3 _ _ h_b1
    replace h_b0 := x_b3 _ _ h_b0
    replace h_b2 := x_b3 _ _ h_b2
    have h_b3 : upd G11 b3 (.tup ([.str "size"] ++ [.int (n0 : Nat), .int (n1 : Nat), .int (n2 : Nat)])) b3 = some (.tup ([.str "size"] ++ [.int (n0 : Nat), .int (n1 : Nat), .int (n2 : Nat)])) := upd_same
    replace eG := eG.trans x_b3
    generalize upd G11 b3 (.tup ([.str "size"] ++ [.int (n0 : Nat), .int (n1 : Nat), .int (n2 : Nat)])) = G12 at hD h_a1 h_a2 h_a3 h_a4 h_a5 h_a6 h_l1 h_b1 h_b0 h_b2 h_b3 eG x_b3 ⊢
    clear x_b3
    refine ⟨_, rfl, D, _, _, _, rfl, rfl, SqL.of hD, atI_nat (j := 0) rfl, (by show 2 ≤ sizeLine; decide), fun b4 m_b4 => ?_⟩
    have x_b4 : Ex G12 (upd G12 b4 (.tup [.str "gone", .int (n0 : Nat)])) := Ex.new m_b4
    replace hD := x_b4 _ _ hD
    replace h_a1 := x_b4 _ _ h_a1
    replace h_a2 := x_b4 _ _ h_a2
    replace h_a3 := x_b4 _ _ h_a3
    replace h_a4 := x_b4 _ _ h_a4
    replace h_a5 := x_b4 _ _ h_a5
    replace h_a6 := x_b4 _ _ h_a6
    replace h_l1 := x_b4 _ _ h_l1
    replace h_b1 := x_b4 _ _ h_b1
    replace h_b0 := x_b4 _ _ h_b0
    replace h_b2 := x_b4 _ _ h_b2
    replace h_b3 := x_b4 _ _ h_b3
    have h_b4 : upd G12 b4 (.tup [.str "gone", .int (n0 : Nat)]) b4 = some (.tup [.str "gone", .int (n0 : Nat)]) := upd_same
    replace eG := eG.trans x_b4
    generalize upd G12 b4 (.tup [.str "gone", .int (n0 : Nat)]) = G13 at hD h_a1 h_a2 h_a3 h_a4 h_a5 h_a6 h_l1 h_b1 h_b0 h_b2 h_b3 h_b4 eG x_b4 ⊢
    clear x_b4
    refine ⟨(by show 1 ≤ sizeLine; decide), fun b5 m_b5 => ?_⟩
    have x_b5 : Ex G13 (upd G13 b5 (.tup [.str "beat"])) := Ex.new m_b5
    replace hD := x_b5 _ _ hD
    replace h_a1 := x_b5 _ _ h_a1
    replace h_a2 := x_b5 _ _ h_a2
    replace h_a3 := x_b5 _ _ h_a3
    replace h_a4 := x_b5 _ _ h_a4
    replace h_a5 := x_b5 _ _ h_a5
    replace h_a6 := x_b5 _ _ h_a6
    replace h_l1 := x_b5 _ _ h_l1
    replace h_b1 := x_b5 _ _ h_b1
    replace h_b0 := x_b5 _ _ h_b0
    replace h_b2 := x_b5 _ _ h_b2
    replace h_b3 := x_b5 _ _ h_b3
    replace h_b4 := x_b5 _ _ h_b4
    have h_b5 : upd G13 b5 (.tup [.str "beat"]) b5 = some (.tup [.str "beat"]) := upd_same
    replace eG := eG.trans x_b5
    generalize upd G13 b5 (.tup [.str "beat"]) = G14 at hD h_a1 h_a2 h_a3 h_a4 h_a5 h_a6 h_l1 h_b1 h_b0 h_b2 h_b3 h_b4 h_b5 eG x_b5 ⊢
    clear x_b5
    refine ⟨(by show 1 ≤ sizeLine; decide), fun b6 m_b6 => ?_⟩
    have x_b6 : Ex G14 (upd G14 b6 (.tup [.str "send"])) := Ex.new m_b6
    replace hD := x_b6 _ _ hD
    replace h_a1 := x_b6 _ _ h_a1
    replace h_a2 := x_b6 _ _ h_a2
    replace h_a3 := x_b6 _ _ h_a3
    replace h_a4 := x_b6 _ _ h_a4
    replace h_a5 := x_b6 _ _ h_a5
    replace h_a6 := x_b6 _ _ h_a6
    replace h_l1 := x_b6 _ _ h_l1
    replace h_b1 := x_b6 _ _ h_b1
    replace h_b0 := x_b6 _ _ h_b0
    replace h_b2 := x_b6 _ _ h_b2
    replace h_b3 := x_b6 _ _ h_b3
    replace h_b4 := x_b6 _ _ h_b4
    replace h_b5 := x_b6 _ _ h_b5
    have h_b6 : upd G14 b6 (.tup [.str "send"]) b6 = some (.tup [.str "send"]) := upd_same
    replace eG := eG.trans x_b6
    generalize upd G14 b6 (.tup [.str "send"]) = G15 at hD h_a1 h_a2 h_a3 h_a4 h_a5 h_a6 h_l1 h_b1 h_b0 h_b2 h_b3 h_b4 h_b5 h_b6 eG x_b6 ⊢
    clear x_b6
    refine ⟨(by show 1 ≤ sizeLine; decide), fun b7 m_b7 => ?_⟩
    have x_b7 : Ex G15 (upd G15 b7 (.tup [.str "settle"])) := Ex.new m_b7
    replace hD := x_b7 _ _ hD
    replace h_a1 := x_b7 _ _ h_a1
    replace h_a2 := x_b7 _ _ h_a2
    replace h_a3 := x_b7 _ _ h_a3
    replace h_a4 := x_b7 _ _ h_a4
    replace h_a5 := x_b7 _ _ h_a5
    replace h_a6 := x_b7 _ _ h_a6
    replace h_l1 := x_b7 _ _ h_l1
    replace h_b1 := x_b7 _ _ h_b1
    replace h_b0 := x_b7 _ _ h_b0
    replace h_b2 := x_b7 _ _ h_b2
    replace h_b3 := x_b7 _ _ h_b3
    replace h_b4 := x_b7 _ _ h_b4
    replace h_b5 := x_b7 _ _ h_b5
    replace h_b6 := x_b7 _ _ h_b6
    have h_b7 : upd G15 b7 (.tup [.str "settle"]) b7 = some (.tup [.str "settle"]) := upd_same
    replace eG := eG.trans x_b7
    generalize upd G15 b7 (.tup [.str "settle"]) = G16 at hD h_a1 h_a2 h_a3 h_a4 h_a5 h_a6 h_l1 h_b1 h_b0 h_b2 h_b3 h_b4 h_b5 h_b6 h_b7 eG x_b7 ⊢
    clear x_b7
    refine ⟨(by show 5 ≤ sizeLine; decide), fun l2 m_l2 => ?_⟩
    have x_l2 : Ex G16 (upd G16 l2 (.lst [.ref b3, .ref b4, .ref b5, .ref b6, .ref b7])) := Ex.new m_l2
    replace hD := x_l2 _ _ hD
    replace h_a1 := x_l2 _ _ h_a1
    replace h_a2 := x_l2 _ _ h_a2
    replace h_a3 := x_l2 _ _ h_a3
    replace h_a4 := x_l2 _ _ h_a4
    replace h_a5 := x_l2 _ _ h_a5
    replace h_a6 := x_l2 _ _ h_a6
    replace h_l1 := x_l2 _ _ h_l1
    replace h_b1 := x_l2 _ _ h_b1
    replace h_b0 := x_l2 _ _ h_b0
    replace h_b2 := x_l2 _ _ h_b2
    replace h_b3 := x_l2 _ _ h_b3
    replace h_b4 := x_l2 _ _ h_b4
    replace h_b5 := x_l2 _ _ h_b5
    replace h_b6 := x_l2 _ _ h_b6
    replace h_b7 := x_l2 _ _ h_b7
    have h_l2 : upd G16 l2 (.lst [.ref b3, .ref b4, .ref b5, .ref b6, .ref b7]) l2 = some (.lst [.ref b3, .ref b4, .ref b5, .ref b6, .ref b7]) := upd_same
    replace eG := eG.trans x_l2
    generalize upd G16 l2 (.lst [.ref b3, .ref b4, .ref b5, .ref b6, .ref b7]) = G17 at hD h_a1 h_a2 h_a3 h_a4 h_a5 h_a6 h_l1 h_b1 h_b0 h_b2 h_b3 h_b4 h_b5 h_b6 h_b7 h_l2 eG x_l2 ⊢
    clear x_l2
    refine ⟨l1, l2, _, _, rfl, rfl, h_l1, h_l2, (by show 9 ≤ sizeLine; decide), fun l3 m_l3 => ?_⟩
    have x_l3 : Ex G17 (upd G17 l3 (.lst (([.ref a3, .ref a4, .ref a5] ++ [.ref a6]) ++ [.ref b3, .ref b4, .ref b5, .ref b6, .ref b7]))) := Ex.new m_l3
    replace hD := x_l3 _ _ hD
    replace h_a1 := x_l3 _ _ h_a1
    replace h_a2 := x_l3 _ _ h_a2
    replace h_a3 := x_l3 _ _ h_a3
    replace h_a4 := x_l3 _ _ h_a4
    replace h_a5 := x_l3 _ _ h_a5
    replace h_a6 := x_l3 _ _ h_a6
    replace h_l1 := x_l3 _ _ h_l1
    replace h_b1 := x_l3 _ _ h_b1
    replace h_b0 := x_l3 _ _ h_b0
    replace h_b2 := x_l3 _ _ h_b2
    replace h_b3 := x_l3 _ _ h_b3
    replace h_b4 := x_l3 _ _ h_b4
    replace h_b5 := x_l3 _ _ h_b5
    replace h_b6 := x_l3 _ _ h_b6
    replace h_b7 := x_l3 _ _ h_b7
    replace h_l2 := x_l3 _ _ h_l2
    have h_l3 : upd G17 l3 (.lst (([.ref a3, .ref a4, .ref a5] ++ [.ref a6]) ++ [.ref b3, .ref b4, .ref b5, .ref b6, .ref b7])) l3 = some (.lst (([.ref a3, .ref a4, .ref a5] ++ [.ref a6]) ++ [.ref b3, .ref b4, .ref b5, .ref b6, .ref b7])) := upd_same
    replace eG := eG.trans x_l3
    generalize upd G17 l3 (.lst (([.ref a3, .ref a4, .ref a5] ++ [.ref a6]) ++ [.ref b3, .ref b4, .ref b5, .ref b6, .ref b7])) = G18 at hD h_a1 h_a2 h_a3 h_a4 h_a5 h_a6 h_l1 h_b1 h_b0 h_b2 h_b3 h_b4 h_b5 h_b6 h_b7 h_l2 h_l3 eG x_l3 ⊢
    clear x_l3
    refine ⟨_, rfl, _, rfl, D, _, _, _, rfl, rfl, SqL.of hD, atI_nat (j := 0) rfl, (by show 2 ≤ sizeLine; decide), fun c1 m_c1 => ?_⟩
    have x_c1 : Ex G18 (upd G18 c1 (.tup [.str "carry", .int (n0 : Nat)])) := Ex.new m_c1
    replace hD := x_c1 _ _ hD
    replace h_a1 := x_c1 _ _ h_a1
    replace h_a2 := x_c1 _ _ h_a2
    replace h_a3 := x_c1 _ _ h_a3
    replace h_a4 := x_c1 _ _ h_a4
    replace h_a5 := x_c1 _ _ h_a5
    replace h_a6 := x_c1 _ _ h_a6
    replace h_l1 := x_c1 _ _ h_l1
    replace h_b1 := x_c1 _ _ h_b1
    replace h_b0 := x_c1 _ _ h_b0
    replace h_b2 := x_c1 _ _ h_b2
    replace h_b3 := x_c1 _ _ h_b3
    replace h_b4 := x_c1 _ _ h_b4
    replace h_b5 := x_c1 _ _ h_b5
    replace h_b6 := x_c1 _ _ h_b6
    replace h_b7 := x_c1 _ _ h_b7
    replace h_l2 := x_c1 _ _ h_l2
    replace h_l3 := x_c1 _ _ h_l3
    have h_c1 : upd G18 c1 (.tup [.str "carry", .int (n0 : Nat)]) c1 = some (.tup [.str "carry", .int (n0 : Nat)]) := upd_same
    replace eG := eG.trans x_c1
    generalize upd G18 c1 (.tup [.str "carry", .int (n0 : Nat)]) = G19 at hD h_a1 h_a2 h_a3 h_a4 h_a5 h_a6 h_l1 h_b1 h_b0 h_b2 h_b3 h_b4 h_b5 h_b6 h_b7 h_l2 h_l3 h_c1 eG x_c1 ⊢
    clear x_c1
    refine ⟨_, rfl, D, _, _, _, rfl, rfl, SqL.of hD, atI_nat (j := 0) rfl, (by show 2 ≤ sizeLine; decide), fun c2 m_c2 => ?_⟩
    have x_c2 : Ex G19 (upd G19 c2 (.tup [.str "lose", .int (n0 : Nat)])) := Ex.new m_c2
    replace hD := x_c2 _ _ hD
    replace h_a1 := x_c2 _ _ h_a1
    replace h_a2 := x_c2 _ _ h_a2
    replace h_a3 := x_c2 _ _ h_a3
    replace h_a4 := x_c2 _ _ h_a4
    replace h_a5 := x_c2 _ _ h_a5
    replace h_a6 := x_c2 _ _ h_a6
    replace h_l1 := x_c2 _ _ h_l1
    replace h_b1 := x_c2 _ _ h_b1
    replace h_b0 := x_c2 _ _ h_b0
    replace h_b2 := x_c2 _ _ h_b2
    replace h_b3 := x_c2 _ _ h_b3
    replace h_b4 := x_c2 _ _ h_b4
    replace h_b5 := x_c2 _ _ h_b5
    replace h_b6 := x_c2 _ _ h_b6
    replace h_b7 := x_c2 _ _ h_b7
    replace h_l2 := x_c2 _ _ h_l2
    replace h_l3 := x_c2 _ _ h_l3
    replace h_c1 := x_c2 _ _ h_c1
    have h_c2 : upd G19 c2 (.tup [.str "lose", .int (n0 : Nat)]) c2 = some (.tup [.str "lose", .int (n0 : Nat)]) := upd_same
    replace eG := eG.trans x_c2
    generalize upd G19 c2 (.tup [.str "lose", .int (n0 : Nat)]) = G20 at hD h_a1 h_a2 h_a3 h_a4 h_a5 h_a6 h_l1 h_b1 h_b0 h_b2 h_b3 h_b4 h_b5 h_b6 h_b7 h_l2 h_l3 h_c1 h_c2 eG x_c2 ⊢
    clear x_c2
    refine ⟨_, rfl, D, _, _, _, rfl, rfl, SqL.of hD, atI_nat (j := 1) rfl, (by show 2 ≤ sizeLine; decide), fun c3 m_c3 => ?_⟩
    have x_c3 : Ex G20 (upd G20 c3 (.tup [.str "twice", .int (n1 : Nat)])) := Ex.new m_c3
    replace hD := x_c3 _ _ hD
    replace h_a1 := x_c3 _ _ h_a1
    replace h_a2 := x_c3 _ _ h_a2
    replace h_a3 := x_c3 _ _ h_a3
    replace h_a4 := x_c3 _ _ h_a4
    replace h_a5 := x_c3 _ _ h_a5
    replace h_a6 := x_c3 _ _ h_a6
    replace h_l1 := x_c3 _ _ h_l1
    replace h_b1 := x_c3 _ _ h_b1
    replace h_b0 := x_c3 _ _ h_b0
    replace h_b2 := x_c3 _ _ h_b2
    replace h_b3 := x_c3 _ _ h_b3
    replace h_b4 := x_c3 _ _ h_b4
    replace h_b5 := x_c3 _ _ h_b5
    replace h_b6 := x_c3 _ _ h_b6
    replace h_b7 := x_c3 _ _ h_b7
    replace h_l2 := x_c3 _ _ h_l2
    replace h_l3 := x_c3 _ _ h_l3
    replace h_c1 := x_c3 _ _ h_c1
    replace h_c2 := x_c3 _ _ h_c2
    have h_c3 : upd G20 c3 (.tup [.str "twice", .int (n1 : Nat)]) c3 = some (.tup [.str "twice", .int (n1 : Nat)]) := upd_same
    replace eG := eG.trans x_c3
    generalize upd G20 c3 (.tup [.str "twice", .int (n1 : Nat)]) = G21 at hD h_a1 h_a2 h_a3 h_a4 h_a5 h_a6 h_l1 h_b1 h_b0 h_b2 h_b3 h_b4 h_b5 h_b6 h_b7 h_l2 h_l3 h_c1 h_c2 h_c3 eG x_c3 ⊢
    clear x_c3
    refine ⟨_, rfl, D, _, _, _, rfl, rfl, SqL.of hD, atI_nat (j := 0) rfl, _, rfl, D, _, _, _, rfl, rfl, SqL.of hD, atI_nat (j := 1) rfl, (by show 3 ≤ sizeLine; decide), fun c4 m_c4 => ?_⟩
    have x_c4 : Ex G21 (upd G21 c4 (.tup [.str "cut", .int (n0 : Nat), .int (n1 : Nat)])) := Ex.new m_c4
    replace hD := x_c4 _ _ hD
    replace h_a1 := x_c4 _ _ h_a1
    replace h_a2 := x_c4 _ _ h_a2
    replace h_a3 := x_c4 _ _ h_a3
    replace h_a4 := x_c4 _ _ h_a4
    replace h_a5 := x_c4 _ _ h_a5
    replace h_a6 := x_c4 _ _ h_a6
    replace h_l1 := x_c4 _ _ h_l1
    replace h_b1 := x_c4 _ _ h_b1
    replace h_b0 := x_c4 _ _ h_b0
    replace h_b2 := x_c4 _ _ h_b2
    replace h_b3 := x_c4 _ _ h_b3
    replace h_b4 := x_c4 _ _ h_b4
    replace h_b5 := x_c4 _ _ h_b5
    replace h_b6 := x_c4 _ _ h_b6
    replace h_b7 := x_c4 _ _ h_b7
    replace h_l2 := x_c4 _ _ h_l2
    replace h_l3 := x_c4 _ _ h_l3
    replace h_c1 := x_c4 _ _ h_c1
    replace h_c2 := x_c4 _ _ h_c2
    replace h_c3 := x_c4 _ _ h_c3
    have h_c4 : upd G21 c4 (.tup [.str "cut", .int (n0 : Nat), .int (n1 : Nat)]) c4 = some (.tup [.str "cut", .int (n0 : Nat), .int (n1 : Nat)]) := upd_same
    replace eG := eG.trans x_c4
    generalize upd G21 c4 (.tup [.str "cut", .int (n0 : Nat), .int (n1 : Nat)]) = G22 at hD h_a1 h_a2 h_a3 h_a4 h_a5 h_a6 h_l1 h_b1 h_b0 h_b2 h_b3 h_b4 h_b5 h_b6 h_b7 h_l2 h_l3 h_c1 h_c2 h_c3 h_c4 eG x_c4 ⊢
    clear x_c4
    refine ⟨(by show 4 ≤ sizeLine; decide), fun l4 m_l4 => ?_⟩
    have x_l4 : Ex G22 (upd G22 l4 (.lst [.ref c1, .ref c2, .ref c3, .ref c4])) := Ex.new m_l4
    replace hD := x_l4 _ _ hD
    replace h_a1 := x_l4 _ _ h_a1
    replace h_a2 := x_l4 _ _ h_a2
    replace h_a3 := x_l4 _ _ h_a3
    replace h_a4 := x_l4 _ _ h_a4
    replace h_a5 := x_l4 _ _ h_a5
    replace h_a6 := x_l4 _ _ h_a6
    replace h_l1 := x_l4 _ _ h_l1
    replace h_b1 := x_l4 _ _ h_b1
    replace h_b0 := x_l4 _ _ h_b0
    replace h_b2 := x_l4 _ _ h_b2
    replace h_b3 := x_l4 _ _ h_b3
    replace h_b4 := x_l4 _ _ h_b4
    replace h_b5 := x_l4 _ _ h_b5
    replace h_b6 := x_l4 _ _ h_b6
    replace h_b7 := x_l4 _ _ h_b7
    replace h_l2 := x_l4 _ _ h_l2
    replace h_l3 := x_l4 _ _ h_l3
    replace h_c1 := x_l4 _ _ h_c1
    replace h_c2 := x_l4 _ _ h_c2
    replace h_c3 := x_l4 _ _ h_c3
    replace h_c4 := x_l4 _ _ h_c4
    have h_l4 : upd G22 l4 (.lst [.ref c1, .ref c2, .ref c3, .ref c4]) l4 = some (.lst [.ref c1, .ref c2, .ref c3, .ref c4]) := upd_same
    replace eG := eG.trans x_l4
    generalize upd G22 l4 (.lst [.ref c1, .ref c2, .ref c3, .ref c4]) = G23 at hD h_a1 h_a2 h_a3 h_a4 h_a5 h_a6 h_l1 h_b1 h_b0 h_b2 h_b3 h_b4 h_b5 h_b6 h_b7 h_l2 h_l3 h_c1 h_c2 h_c3 h_c4 h_l4 eG x_l4 ⊢
    clear x_l4
    refine ⟨l3, l4, _, _, rfl, rfl, h_l3, h_l4, (by show 13 ≤ sizeLine; decide), fun l5 m_l5 => ?_⟩
    have x_l5 : Ex G23 (upd G23 l5 (.lst ((([.ref a3, .ref a4, .ref a5] ++ [.ref a6]) ++ [.ref b3, .ref b4, .ref b5, .ref b6, .ref b7]) ++ [.ref c1, .ref c2, .ref c3, .ref c4]))) := Ex.new m_l5
    replace hD := x_l5 _ _ hD
    replace h_a1 := x_l5 _ _ h_a1
    replace h_a2 := x_l5 _ _ h_a2
    replace h_a3 := x_l5 _ _ h_a3
    replace h_a4 := x_l5 _ _ h_a4
    replace h_a5 := x_l5 _ _ h_a5
    replace h_a6 := x_l5 _ _ h_a6
    replace h_l1 := x_l5 _ _ h_l1
    replace h_b1 := x_l5 _ _ h_b1
    replace h_b0 := x_l5 _ _ h_b0
    replace h_b2 := x_l5 _ _ h_b2
    replace h_b3 := x_l5 _ _ h_b3
    replace h_b4 := x_l5 _ _ h_b4
    replace h_b5 := x_l5 _ _ h_b5
    replace h_b6 := x_l5 _ _ h_b6
    replace h_b7 := x_l5 _ _ h_b7
    replace h_l2 := x_l5 _ _ h_l2
    replace h_l3 := x_l5 _ _ h_l3
    replace h_c1 := x_l5 _ _ h_c1
    replace h_c2 := x_l5 _ _ h_c2
    replace h_c3 := x_l5 _ _ h_c3
    replace h_c4 := x_l5 _ _ h_c4
    replace h_l4 := x_l5 _ _ h_l4
    have h_l5 : upd G23 l5 (.lst ((([.ref a3, .ref a4, .ref a5] ++ [.ref a6]) ++ [.ref b3, .ref b4, .ref b5, .ref b6, .ref b7]) ++ [.ref c1, .ref c2, .ref c3, .ref c4])) l5 = some (.lst ((([.ref a3, .ref a4, .ref a5] ++ [.ref a6]) ++ [.ref b3, .ref b4, .ref b5, .ref b6, .ref b7]) ++ [.ref c1, .ref c2, .ref c3, .ref c4])) := upd_same
    replace eG := eG.trans x_l5
    generalize upd G23 l5 (.lst ((([.ref a3, .ref a4, .ref a5] ++ [.ref a6]) ++ [.ref b3, .ref b4, .ref b5, .ref b6, .ref b7]) ++ [.ref c1, .ref c2, .ref c3, .ref c4])) = G24 at hD h_a1 h_a2 h_a3 h_a4 h_a5 h_a6 h_l1 h_b1 h_b0 h_b2 h_b3 h_b4 h_b5 h_b6 h_b7 h_l2 h_l3 h_c1 h_c2 h_c3 h_c4 h_l4 h_l5 eG x_l5 ⊢
    clear x_l5
    refine ⟨_, rfl, _, rfl, b, l, 13, rfl, B2.ex eG, by decide, by decide, fun k Hz ez k0 k1 => ?_⟩
    have fin : ∀ (p : Addr) (xs : List V), G24 p = some (.tup xs) → StepOK xs → Q (.ref p) Hz := fun p xs h1 h2 => q p xs Hz ((e2.trans eG).trans ez) (ez _ _ h1) h2
    have wd : ∀ (w : Str) (ns : List Nat), TBL.lookup w = some (ns.length : Int) → (∀ n ∈ ns, n < 1000000) → StepOK (.str w :: ns.map fun n => V.int (n : Nat)) := fun w ns h1 h2 => .inr ⟨w, ns, rfl, h1, h2⟩
    have pr : ∀ n : Nat, n < 1000000 → StepOK [.str "press", .int (n : Nat), .str z] := fun n h => .inl ⟨n, z, rfl, h, hz, hk⟩
    have m1 : ∀ a : Nat, a < 1000000 → ∀ n ∈ [a], n < 1000000 := fun a h n hn => by rw [List.mem_singleton.mp hn]; exact h
    obtain ⟨p, xs, hat, h1, h2⟩ : ∃ (p : Addr) (xs : List V), (((([.ref a3, .ref a4, .ref a5] ++ [.ref a6]) ++ [.ref b3, .ref b4, .ref b5, .ref b6, .ref b7]) ++ [.ref c1, .ref c2, .ref c3, .ref c4]) : List V)[k.toNat]? = some (.ref p) ∧ G24 p = some (.tup xs) ∧ StepOK xs := by
      have hk13 : k.toNat < 13 := by omega
      clear fin k0 k1
      generalize k.toNat = j at hk13 ⊢
      match j, hk13 with
      | 0, _ => exact ⟨a3, _, rfl, h_a3, wd "come" [n0, n1, n2, n3] rfl (by simp only [List.mem_cons, List.mem_nil_iff, or_false]; rintro n (rfl | rfl | rfl | rfl) <;> assumption)⟩
      | 1, _ => exact ⟨a4, _, rfl, h_a4, pr n0 hn0⟩
      | 2, _ => exact ⟨a5, _, rfl, h_a5, pr n1 hn1⟩
      | 3, _ => exact ⟨a6, _, rfl, h_a6, wd "leave" [n0] rfl (m1 n0 hn0)⟩
      | 4, _ => exact ⟨b3, _, rfl, h_b3, wd "size" [n0, n1, n2] rfl (by simp only [List.mem_cons, List.mem_nil_iff, or_false]; rintro n (rfl | rfl | rfl) <;> assumption)⟩
      | 5, _ => exact ⟨b4, _, rfl, h_b4, wd "gone" [n0] rfl (m1 n0 hn0)⟩
      | 6, _ => exact ⟨b5, _, rfl, h_b5, wd "beat" [] rfl (fun _ h => nomatch h)⟩
      | 7, _ => exact ⟨b6, _, rfl, h_b6, wd "send" [] rfl (fun _ h => nomatch h)⟩
      | 8, _ => exact ⟨b7, _, rfl, h_b7, wd "settle" [] rfl (fun _ h => nomatch h)⟩
      | 9, _ => exact ⟨c1, _, rfl, h_c1, wd "carry" [n0] rfl (m1 n0 hn0)⟩
      | 10, _ => exact ⟨c2, _, rfl, h_c2, wd "lose" [n0] rfl (m1 n0 hn0)⟩
      | 11, _ => exact ⟨c3, _, rfl, h_c3, wd "twice" [n1] rfl (m1 n1 hn1)⟩
      | 12, _ => exact ⟨c4, _, rfl, h_c4, wd "cut" [n0, n1] rfl (by simp only [List.mem_cons, List.mem_nil_iff, or_false]; rintro n (rfl | rfl) <;> assumption)⟩
      | n + 13, h => exact absurd h (by omega)
    exact ⟨l5, _, _, _, rfl, rfl, SqL.of (ez _ _ h_l5), at_ix (z := k) (j := k.toNat) (by omega) hat, fin p xs h1 h2⟩
end
end Vf
namespace Vf
open PySem PySem.Spec PyProof.Rows L2 Evl
/-! ### steps as data -/
def partD : V → PyData
  | .str z => .str z
  | .int n => .int n
  | _ => .none
def stepD (xs : List V) : PyData := .tuple (xs.map partD)
def stepsD (steps : List (List V)) : PyData := .list (steps.map stepD)
theorem dp_parts {K : PySem.W.Frag} {H : Hp} : ∀ {xs : List V}, (∀ x ∈ xs, PartOk x) → DpAll K H xs (xs.map partD)
  | [], _ => .nil
  | x :: r, h => by
    have h1 := h x List.mem_cons_self
    have h2 := dp_parts (K := K) (H := H) (xs := r) fun y hy => h y (List.mem_cons_of_mem _ hy)
    cases x with
    | str z => exact .cons (.str z) h2
    | int n => exact .cons (.int n) h2
    | _ => exact h1.elim
theorem dp_steps {K : PySem.W.Frag} {H : Hp} : ∀ {us : List V} {steps : List (List V)}, Tups H us steps → (∀ xs ∈ steps, PartsOk xs) → DpAll K H us (steps.map stepD)
  | [], [], _, _ => .nil
  | u :: us, x :: r, h, hp => by
    obtain ⟨a, rfl, h1⟩ := h.1
    exact .cons (.tup (SqT.of h1) (dp_parts (hp x List.mem_cons_self).2.1)) (dp_steps h.2 fun y hy => hp y (List.mem_cons_of_mem _ hy))
  | [], _ :: _, h, _ => h.elim
  | _ :: _, [], h, _ => h.elim
theorem key_asc : (KEY.cps.toList.all fun c => decide (c < 128)) = true := by decide +kernel
theorem isK_asc {c : Nat} (h : isK c = true) : c < 128 := of_decide_eq_true (List.all_eq_true.mp key_asc c (of_decide_eq_true h))
theorem tbl_asc : (TBL.all fun p => p.1.cps.toList.all fun c => decide (c < 128)) = true := by decide +kernel
theorem press_asc : ((Str.ofString "press").cps.toList.all fun c => decide (c < 128)) = true := by decide +kernel
theorem num_asc (n : Nat) : Asc (partS (.int (n : Nat))) := fun c hc => by
  rw [partS_int, txt_cps] at hc
  have := TL.numL_digits n c hc
  omega
theorem step_asc {xs : List V} (h : StepOK xs) : ∀ x ∈ xs, Asc (partS x) := by
  intro x hx
  rcases h with ⟨n, z, rfl, hn, hz, hk⟩ | ⟨w, ns, rfl, hl, hns⟩
  · simp only [List.mem_cons, List.mem_nil_iff, or_false] at hx
    rcases hx with rfl | rfl | rfl
    · exact fun c hc => of_decide_eq_true (List.all_eq_true.mp press_asc c hc)
    · exact num_asc n
    · exact fun c hc => isK_asc (hk c hc)
  · rcases List.mem_cons.mp hx with rfl | hx
    · exact fun c hc => of_decide_eq_true (List.all_eq_true.mp (List.all_eq_true.mp tbl_asc _ (lookup_mem hl)) c hc)
    · obtain ⟨n, _, rfl⟩ := List.mem_map.mp hx
      exact num_asc n
theorem join_asc {c : Nat} (hc : c < 128) {ps : List Str} (h : ∀ z ∈ ps, Asc z) : Asc (Txt.join (sg c) ps) := fun d hd => by
  rw [tl_join_row] at hd
  rcases mem_joinL hd with hd | ⟨p, hp, hd⟩
  · rw [List.mem_singleton.mp hd]; exact hc
  · obtain ⟨y, hy, rfl⟩ := List.mem_map.mp hp
    exact h y hy d hd
theorem text_asc {steps : List (List V)} (h : ∀ xs ∈ steps, StepOK xs) : Asc (textS steps) := by
  refine join_asc (by decide) fun z hz => ?_
  obtain ⟨xs, hxs, rfl⟩ := List.mem_map.mp hz
  refine join_asc (by decide) fun y hy => ?_
  obtain ⟨x, hx, rfl⟩ := List.mem_map.mp hy
  exact step_asc (h xs hxs) x hx
theorem good_step {xs : List V} (h : StepOK xs) : good 2 (stepD xs) = true := by
  obtain ⟨_, h2, h3, _⟩ := step_parts h
  show (decide ((xs.map partD).length ≤ 16777216) && (xs.map partD).all (good 1)) = true
  rw [List.length_map, decide_eq_true (by omega), Bool.true_and, List.all_eq_true]
  intro d hd
  obtain ⟨x, hx, rfl⟩ := List.mem_map.mp hd
  have ha := step_asc h x hx
  have hp := h3 x hx
  cases x with
  | str z => exact lay_str ha
  | int n => rfl
  | _ => exact hp.elim
theorem good_steps {steps : List (List V)} (h : ∀ xs ∈ steps, StepOK xs) (hl : steps.length ≤ 60) : good 3 (stepsD steps) = true := by
  show (decide ((steps.map stepD).length ≤ 16777216) && (steps.map stepD).all (good 2)) = true
  rw [List.length_map, decide_eq_true (by omega), Bool.true_and, List.all_eq_true]
  intro d hd
  obtain ⟨x, hx, rfl⟩ := List.mem_map.mp hd
  exact good_step (h x hx)
end Vf
namespace Vf
open PySem PySem.Spec PyProof.Rows L2 Evl
/-! ### the law -/
abbrev sL16 : Stmt := topS 24
theorem scL16 : FnScope ["_law_script", "_law_box", "_law_turn", "_law_steps", "_law_text", "_law_handed", "_law_found", "_law_k"] ["_law_script"] (defScope sL16) := ⟨rfl, rfl, rfl, by decide +kernel, rfl, by decide +kernel, by decide +kernel⟩
structure TLaw (mg : Str → Option Value) : Prop where
  z_range : mg "range" = none
  z_list : mg "list" = none
structure CLaw (P : Program) (w : World) (K : PySem.W.Frag) (mg : Str → Option Value) (base : Heap) : Prop where
  law_begun : Cal P w K mg base "_law_begun" 1 ["_law_script"] (spBeg K)
  law_take : Cal P w K mg base "_law_take" 1 ["_law_box", "_law_many"] spTak
  law_alike : Cal P w K mg base "_law_alike" 4 ["_law_found", "_law_due"] (spAli K 3)
  law_anystep : Cal P w K mg base "_law_anystep" 2 ["_law_box"] spAny
  law_rows : Cal P w K mg base "_law_rows" 1 ["_law_steps"] (spWri K)
  written : Cal P w K mg base "written" 2 ["steps"] (spWri K)
  read : Cal P w K mg base "read" 4 ["text"] spRea
def spLaw (K : PySem.W.Frag) : Sp := fun vs H Q _ => ∃ (a : Addr) (ns : List Int), vs = [.ref a] ∧ SqL K H a (ns.map V.int) ∧ ns.length ≤ 63 ∧ ∀ H', Q (.bl true) H'
section
variable {P : Program} {w : World} {K : PySem.W.Frag} {mg : Str → Option Value} {base : Heap}
theorem ok_law {f : Addr} {fd : FuncData} (F : Fun K "law" "law" sL16 f fd) (T : TLaw mg) (C : CLaw P w K mg base) : FnOk P w K mg base CX0 5 f fd ["_law_script"] (spLaw K) := by
  refine F.ok scL16 (fun vs H Q E h => ?_) (fun cdv A outer s H vs Q E hr h => ?_)
  · obtain ⟨a, ns, rfl, _⟩ := h
    rfl
  · obtain ⟨a, ns, rfl, hS, hlen, q⟩ := h
    refine ⟨_, (pss_cons (ps_set (i := 1) scL16.nd rfl (Or.inr rfl) (pcall C.law_begun (hr.mono (by first | decide | omega)) (pa_cons (pv 0) pa_nil)))
      (pss_cons (ps_for PassesOwn.never rfl (pi_range1 rfl T.z_range (pa_cons pe_int pa_nil)) (pg_name (i := 2) scL16.nd rfl (Or.inl rfl)) (pss_cons (ps_setLc (i := 3) (own := [("_law_k", 7)]) (g := gName 7) (tt := tYes) (by rfl) scL16.nd rfl rfl (sw_true rfl rfl rfl (by decide +kernel)) (pi_range1 rfl T.z_range (pa_cons (pcall C.law_take (hr.mono (by first | decide | omega)) (pa_cons (pv 1) (pa_cons pe_int pa_nil))) pa_nil)) (blkOk_by (own := [("_law_k", 7)]) (N := ["_law_script", "_law_box", "_law_turn", "_law_steps", "_law_text", "_law_handed", "_law_found", "_law_k"]) (sc := defScope sL16) (by decide +kernel)) (fun _ _ _ _ _ => pg_name (i := 7) scL16.nd rfl (Or.inl rfl)) (fun _ _ _ _ _ => pts_nil) (fun _ _ _ _ _ => (pcall C.law_anystep (hr.mono (by first | decide | omega)) (pa_cons (pv 1) pa_nil))))
      (pss_cons (ps_set (i := 4) scL16.nd rfl (Or.inl rfl) (pcall C.law_rows (hr.mono (by first | decide | omega)) (pa_cons (pv 3) pa_nil)))
      (pss_cons (ps_set (i := 5) scL16.nd rfl (Or.inl rfl) (pe_callTy call_list_of (by rfl) T.z_list boot_list (pa_cons (pv 3) pa_nil)))
      (pss_cons (ps_if (PW.pt (pw_or (pt_not (pt_val (pcall C.law_alike (hr.mono (by first | decide | omega)) (pa_cons (pcall C.written (hr.mono (by first | decide | omega)) (pa_cons (pv 5) pa_nil)) (pa_cons (pv 4) pa_nil))))) (pw_or1 (pt_cmpR (op_neD hr.units) (pv 5) (pv 3) (nomark _))))) (pss_one (ps_ret pe_bl)) pss_nil)
      (pss_cons (ps_set (i := 6) scL16.nd rfl (Or.inl rfl) (pcall C.read (hr.mono (by first | decide | omega)) (pa_cons (pv 4) pa_nil)))
      (pss_cons (ps_if (PW.pt (pw_or (pt_not (pt_val (pcall C.law_alike (hr.mono (by first | decide | omega)) (pa_cons (pv 6) (pa_cons (pv 3) pa_nil))))) (pw_or1 (pt_cmpR op_ne (pcall C.written (hr.mono (by first | decide | omega)) (pa_cons (pv 6) pa_nil)) (pv 4) (nomark _))))) (pss_one (ps_ret pe_bl)) pss_nil)
      (pss_cons (ps_expr (pe_bm PySem.F.plainAttrs_list PySem.F.slot_list_append PySem.F.type_list_append mt_append (pv 6) (pa_cons (pe_tup pa_nil) pa_nil)))
      (pss_one (ps_if (pt_not (pt_val (pcall C.law_alike (hr.mono (by first | decide | omega)) (pa_cons (pcall C.read (hr.mono (by first | decide | omega)) (pa_cons (pv 4) pa_nil)) (pa_cons (pv 3) pa_nil))))) (pss_one (ps_ret pe_bl)) pss_nil))))))))))
      (pss_one (ps_ret pe_bl)))), ?_⟩
    refine ⟨_, rfl, a, ns, rfl, hS, hlen, fun b l Hb e0 B0 => ?_⟩
    refine ⟨6, rfl, by decide, by decide, ?_⟩
    refine for_it walk_range (fun i σ H' => ∃ c2 c3 c4 c5 c6 c7, σ = [some (.ref a), some (.ref b), c2, c3, c4, c5, c6, c7] ∧ Ex Hb H') ⟨_, _, _, _, _, _, rfl, .refl _⟩ (fun _ _ _ _ _ => trivial) ?_ ?_
    · rintro i x σ H1 H1' hi ⟨c2, c3, c4, c5, c6, c7, rfl, x1⟩ ⟨rfl, rfl⟩
      have B1 := B0.ex x1
      -- the steps
      refine ⟨_, rfl, b, l, 10, rfl, B1, by decide, by decide, fun n H2 e2 n0 n1 => ?_⟩
      refine ⟨n, rfl, by omega, by omega, fun D nD => ?_⟩
      refine lc_it walk_range (fun i H' => Ex H1' H' ∧ ∃ us steps, steps.length = i ∧ (∀ xs ∈ steps, StepOK xs) ∧ H' D = some (.lst us) ∧ Tups H' us steps) ⟨e2.trans (Ex.new nD), [], [], rfl, (fun _ h => nomatch h), upd_same, trivial⟩ (fun _ _ _ _ => trivial) ?_ ?_
      · rintro j x H3 H3' hj ⟨e, us, steps, hl, hs, hp, hT⟩ ⟨rfl, rfl⟩
        refine ⟨rfl, yes_lc ?_⟩
        refine ⟨_, rfl, b, l, rfl, B1.ex e, fun p xs H4 e4 h4 h5 => ?_⟩
        have hlu := hT.len
        refine ⟨_, e4 _ _ hp, ?_, ex_set (e.trans e4) (fresh_back e2 nD), us ++ [.ref p], steps ++ [xs], ?_, ?_, upd_same, ?_⟩
        · rw [hlu, hl]
          exact Nat.lt_of_lt_of_le hj (Nat.le_trans (m := 2000) (by omega) (by decide))
        · rw [List.length_append, hl]; rfl
        · intro y hy
          rcases List.mem_append.mp hy with hy | hy
          · exact hs y hy
          · rw [List.mem_singleton.mp hy]; exact h5
        · have npD : p ≠ D := by rintro rfl; rw [e4 _ _ hp] at h4; cases h4
          refine Tups.snoc ?_ ((hT.mono (TupEx.ex e4)).mono (TupEx.lst (e4 _ _ hp)))
          rw [upd_ne npD]
          exact h4
      rintro H3 ⟨e3, us, steps, hl, hs, hD, hT⟩
      have hl60 : steps.length ≤ 60 := by omega
      have hps : ∀ xs ∈ steps, PartsOk xs := fun xs h => (hs xs h).parts
      have big : ∀ n : Nat, n ≤ 1000010 → n ≤ sizeLine := fun n h => Nat.le_trans h (by decide)
      have tl := text_len hps hl60
      have g1 : good 3 (.str (textS steps)) = true := lay_str (text_asc hs)
      have g3 := good_steps hs hl60
      have rb := read_back hs
      clear hl e2 n0 n1
      -- the text
      refine ⟨_, rfl, D, us, steps, rfl, SqL.of hD, hT, hps, hl60, fun H4 e4 => ?_⟩
      have x4 := e3.trans e4
      have hD4 := e4 _ _ hD
      have hT4 := hT.mono (TupEx.ex e4)
      refine ⟨_, rfl, D, us, rfl, .inl (SqL.of hD4), fun L nL => ?_⟩
      have y5 : Ex H4 (upd H4 L (.lst us)) := Ex.new nL
      have hL5 : upd H4 L (.lst us) L = some (.lst us) := upd_same
      generalize upd H4 L (.lst us) = H5 at y5 hL5 ⊢
      have x5 := x4.trans y5
      have hD5 := y5 _ _ hD4
      have hT5 := hT4.mono (TupEx.ex y5)
      -- written
      refine ⟨_, rfl, L, us, steps, rfl, SqL.of hL5, hT5, hps, hl60, fun H6 e6 => ?_⟩
      have x6 := x5.trans e6
      have hD6 := e6 _ _ hD5
      have hL6 := e6 _ _ hL5
      have hT6 := hT5.mono (TupEx.ex e6)
      refine ⟨_, rfl, .str (textS steps), .str (textS steps), .str (textS steps), rfl, .str _, .str _, g1, by decide, _, rfl, iteF ?_⟩
      refine ⟨_, rfl, _, rfl, stepsD steps, stepsD steps, .lst (SqL.of hL6) (dp_steps hT6 hps), .lst (SqL.of hD6) (dp_steps hT6 hps), sh_of' g3 (by decide), sh_of' g3 (by decide), _, rfl, ?_⟩
      rw [SeqAt.eqv_refl _ (good_lay _ _ g3).1]
      refine iteF ?_
      -- read
      refine ⟨_, rfl, textS steps, steps, rfl, by omega, rb, fun R us2 H7 e7 nR hR hT7 => ?_⟩
      have x7 := x6.trans e7
      have hD7 := e7 _ _ hD6
      have hT7b := hT6.mono (TupEx.ex e7)
      refine ⟨_, rfl, _, rfl, .ref R, .ref D, stepsD steps, rfl, .lst (SqL.of hR) (dp_steps hT7 hps), .lst (SqL.of hD7) (dp_steps hT7b hps), g3, by decide, _, rfl, iteF ?_⟩
      refine ⟨_, rfl, R, us2, steps, rfl, SqL.of hR, hT7, hps, hl60, fun H8 e8 => ?_⟩
      have x8 := x7.trans e8
      refine ⟨_, rfl, rfl, _, rfl, ite2 (fun z => ?_) (fun _ => ?_)⟩
      · have z2 : (!decide (V.str (textS steps) = V.str (textS steps))) = true := z
        rw [decide_eq_true rfl] at z2
        cases z2
      have hR8 := e8 _ _ hR
      have hD8 := e8 _ _ hD7
      have hT8 := hT7b.mono (TupEx.ex e8)
      refine ⟨_, rfl, .inl ⟨rfl, _, SqL.of hR8⟩, Nat.zero_le _, fun t nt => ?_⟩
      have y9 : Ex H8 (upd H8 t (.tup [])) := Ex.new nt
      generalize upd H8 t (.tup []) = H9 at y9 ⊢
      have hR9 := y9 _ _ hR8
      have hD9 := y9 _ _ hD8
      have hT9 := hT8.mono (TupEx.ex y9)
      have hlu := hT7.len
      refine ⟨R, us2, _, rfl, rfl, hR9, ?_, ?_⟩
      · rw [hlu]
        exact Nat.lt_of_le_of_lt hl60 (by decide)
      have nRD : D ≠ R := by rintro rfl; rw [hD6] at nR; cases nR
      have x10 : Ex H1' (upd H9 R (.lst (us2 ++ [.ref t]))) := ex_set (x8.trans y9) (fresh_back x6 nR)
      have hD10 : upd H9 R (.lst (us2 ++ [.ref t])) D = some (.lst us) := (upd_ne nRD).trans hD9
      have hT10 : Tups (upd H9 R (.lst (us2 ++ [.ref t]))) us steps := hT9.mono (TupEx.lst hR9)
      generalize upd H9 R (.lst (us2 ++ [.ref t])) = H10 at x10 hD10 hT10 ⊢
      -- read once more
      refine ⟨_, rfl, textS steps, steps, rfl, by omega, rb, fun R2 us3 H11 e11 nR2 hR2 hT11 => ?_⟩
      have x11 := x10.trans e11
      have hD11 := e11 _ _ hD10
      have hT11b := hT10.mono (TupEx.ex e11)
      refine ⟨_, rfl, .ref R2, .ref D, stepsD steps, rfl, .lst (SqL.of hR2) (dp_steps hT11 hps), .lst (SqL.of hD11) (dp_steps hT11b hps), g3, by decide, _, rfl, iteF ?_⟩
      exact ⟨_, _, _, _, _, _, rfl, x1.trans x11⟩
    · rintro σ H' ⟨c2, c3, c4, c5, c6, c7, rfl, x1⟩
      exact q _
end
end Vf
namespace Vf
open PySem PySem.Spec PyProof.Rows L2 Evl
/-! ### what the top has written -/
theorem all_mk {l : PySem.W.OpenLaw} {w : World} {K : PySem.W.Frag} {h : Heap} {mg : Str → Option Value} {fa f1 f2 f3 f4 f5 f6 f7 f8 f9 f10 f11 f12 f13 f14 aT_NUMBERS : Addr} (X : K.In h) (G : h.Ns mainGlobals mg) (hfa : mg "law" = some (.ref fa))
    {od1 an1 od2 an2 od3 an3 od4 an4 od5 an5 od6 an6 od7 an7 od8 an8 od9 an9 od10 an10 od11 an11 od12 an12 od13 an13 od14 an14 : Option Addr} {sl1 sl2 sl3 sl4 sl5 sl6 sl7 sl8 sl9 sl10 sl11 sl12 sl13 sl14 : Array (Option Value)} {oc1 kV1 dc1 pm1 cd1 ct1 oc2 kV2 dc2 pm2 cd2 ct2 oc3 kV3 dc3 pm3 cd3 ct3 oc4 kV4 dc4 pm4 cd4 ct4 oc5 kV5 dc5 pm5 cd5 ct5 oc6 kV6 dc6 pm6 cd6 ct6 oc7 kV7 dc7 pm7 cd7 ct7 oc8 kV8 dc8 pm8 cd8 ct8 oc9 kV9 dc9 pm9 cd9 ct9 oc10 kV10 dc10 pm10 cd10 ct10 oc11 kV11 dc11 pm11 cd11 ct11 oc12 kV12 dc12 pm12 cd12 ct12 oc13 kV13 dc13 pm13 cd13 ct13 oc14 kV14 dc14 pm14 cd14 ct14 : Value} {t_KEYS t_PRESS t_FIGURES : Tok} {eT_NUMBERS : Array DictEntry} {nT_NUMBERS : Nat}
    (a1 : PySem.W.nsIn K mainGlobals "_law_begun" = some (some (.ref f1))) (l1 : K.lookup f1 = some ⟨oc1, od1, .func (PySem.W.fnOf "_law_begun" "_law_begun" (defArgs sBeg) (defBody sBeg) (defScope sBeg) .none kV1 dc1 pm1 an1 cd1 ct1), sl1⟩) (c1 : PySem.W.codeIn K cd1 "_law_begun" = true) (k1 : PySem.W.keepIn K (.ref f1) = true)
    (a2 : PySem.W.nsIn K mainGlobals "_law_take" = some (some (.ref f2))) (l2 : K.lookup f2 = some ⟨oc2, od2, .func (PySem.W.fnOf "_law_take" "_law_take" (defArgs sTak) (defBody sTak) (defScope sTak) .none kV2 dc2 pm2 an2 cd2 ct2), sl2⟩) (c2 : PySem.W.codeIn K cd2 "_law_take" = true) (k2 : PySem.W.keepIn K (.ref f2) = true)
    (a3 : PySem.W.nsIn K mainGlobals "_law_alike" = some (some (.ref f3))) (l3 : K.lookup f3 = some ⟨oc3, od3, .func (PySem.W.fnOf "_law_alike" "_law_alike" (defArgs sAli) (defBody sAli) (defScope sAli) .none kV3 dc3 pm3 an3 cd3 ct3), sl3⟩) (c3 : PySem.W.codeIn K cd3 "_law_alike" = true) (k3 : PySem.W.keepIn K (.ref f3) = true)
    (a4 : PySem.W.nsIn K mainGlobals "number_of" = some (some (.ref f4))) (l4 : K.lookup f4 = some ⟨oc4, od4, .func (PySem.W.fnOf "number_of" "number_of" (defArgs sNum) (defBody sNum) (defScope sNum) .none kV4 dc4 pm4 an4 cd4 ct4), sl4⟩) (c4 : PySem.W.codeIn K cd4 "number_of" = true) (k4 : PySem.W.keepIn K (.ref f4) = true)
    (a5 : PySem.W.nsIn K mainGlobals "wrong_place" = some (some (.ref f5))) (l5 : K.lookup f5 = some ⟨oc5, od5, .func (PySem.W.fnOf "wrong_place" "wrong_place" (defArgs sWrp) (defBody sWrp) (defScope sWrp) .none kV5 dc5 pm5 an5 cd5 ct5), sl5⟩) (c5 : PySem.W.codeIn K cd5 "wrong_place" = true) (k5 : PySem.W.keepIn K (.ref f5) = true)
    (a6 : PySem.W.nsIn K mainGlobals "numbers_of" = some (some (.ref f6))) (l6 : K.lookup f6 = some ⟨oc6, od6, .func (PySem.W.fnOf "numbers_of" "numbers_of" (defArgs sNms) (defBody sNms) (defScope sNms) .none kV6 dc6 pm6 an6 cd6 ct6), sl6⟩) (c6 : PySem.W.codeIn K cd6 "numbers_of" = true) (k6 : PySem.W.keepIn K (.ref f6) = true)
    (a7 : PySem.W.nsIn K mainGlobals "press_of" = some (some (.ref f7))) (l7 : K.lookup f7 = some ⟨oc7, od7, .func (PySem.W.fnOf "press_of" "press_of" (defArgs sPro) (defBody sPro) (defScope sPro) .none kV7 dc7 pm7 an7 cd7 ct7), sl7⟩) (c7 : PySem.W.codeIn K cd7 "press_of" = true) (k7 : PySem.W.keepIn K (.ref f7) = true)
    (a8 : PySem.W.nsIn K mainGlobals "step_of" = some (some (.ref f8))) (l8 : K.lookup f8 = some ⟨oc8, od8, .func (PySem.W.fnOf "step_of" "step_of" (defArgs sSto) (defBody sSto) (defScope sSto) .none kV8 dc8 pm8 an8 cd8 ct8), sl8⟩) (c8 : PySem.W.codeIn K cd8 "step_of" = true) (k8 : PySem.W.keepIn K (.ref f8) = true)
    (a9 : PySem.W.nsIn K mainGlobals "read" = some (some (.ref f9))) (l9 : K.lookup f9 = some ⟨oc9, od9, .func (PySem.W.fnOf "read" "read" (defArgs sRea) (defBody sRea) (defScope sRea) .none kV9 dc9 pm9 an9 cd9 ct9), sl9⟩) (c9 : PySem.W.codeIn K cd9 "read" = true) (k9 : PySem.W.keepIn K (.ref f9) = true)
    (a10 : PySem.W.nsIn K mainGlobals "row_of" = some (some (.ref f10))) (l10 : K.lookup f10 = some ⟨oc10, od10, .func (PySem.W.fnOf "row_of" "row_of" (defArgs sRof) (defBody sRof) (defScope sRof) .none kV10 dc10 pm10 an10 cd10 ct10), sl10⟩) (c10 : PySem.W.codeIn K cd10 "row_of" = true) (k10 : PySem.W.keepIn K (.ref f10) = true)
    (a11 : PySem.W.nsIn K mainGlobals "written" = some (some (.ref f11))) (l11 : K.lookup f11 = some ⟨oc11, od11, .func (PySem.W.fnOf "written" "written" (defArgs sWri) (defBody sWri) (defScope sWri) .none kV11 dc11 pm11 an11 cd11 ct11), sl11⟩) (c11 : PySem.W.codeIn K cd11 "written" = true) (k11 : PySem.W.keepIn K (.ref f11) = true)
    (a12 : PySem.W.nsIn K mainGlobals "_law_rows" = some (some (.ref f12))) (l12 : K.lookup f12 = some ⟨oc12, od12, .func (PySem.W.fnOf "_law_rows" "_law_rows" (defArgs sLro) (defBody sLro) (defScope sLro) .none kV12 dc12 pm12 an12 cd12 ct12), sl12⟩) (c12 : PySem.W.codeIn K cd12 "_law_rows" = true) (k12 : PySem.W.keepIn K (.ref f12) = true)
    (a13 : PySem.W.nsIn K mainGlobals "_law_anystep" = some (some (.ref f13))) (l13 : K.lookup f13 = some ⟨oc13, od13, .func (PySem.W.fnOf "_law_anystep" "_law_anystep" (defArgs sAny) (defBody sAny) (defScope sAny) .none kV13 dc13 pm13 an13 cd13 ct13), sl13⟩) (c13 : PySem.W.codeIn K cd13 "_law_anystep" = true) (k13 : PySem.W.keepIn K (.ref f13) = true)
    (a14 : PySem.W.nsIn K mainGlobals "law" = some (some (.ref f14))) (l14 : K.lookup f14 = some ⟨oc14, od14, .func (PySem.W.fnOf "law" "law" (defArgs sL16) (defBody sL16) (defScope sL16) .none kV14 dc14 pm14 an14 cd14 ct14), sl14⟩) (c14 : PySem.W.codeIn K cd14 "law" = true) (k14 : PySem.W.keepIn K (.ref f14) = true)
    (gT_NUMBERS : PySem.W.nsIn K mainGlobals "NUMBERS" = some (some (.ref aT_NUMBERS))) (lT_NUMBERS : K.lookup aT_NUMBERS = some ⟨.type "dict", none, .dict eT_NUMBERS nT_NUMBERS, #[]⟩) (kT_NUMBERS : PySem.W.KeysLit w.params eT_NUMBERS.toList) (rT_NUMBERS : TabRows eT_NUMBERS.toList TBL) (sT_NUMBERS : (aT_NUMBERS == sysModules) = false)
    (z_list : PySem.W.nsIn K mainGlobals "list" = some none)
    (z_int : PySem.W.nsIn K mainGlobals "int" = some none)
    (z_len : PySem.W.nsIn K mainGlobals "len" = some none)
    (z_bool : PySem.W.nsIn K mainGlobals "bool" = some none)
    (z_str : PySem.W.nsIn K mainGlobals "str" = some none)
    (z_tuple : PySem.W.nsIn K mainGlobals "tuple" = some none)
    (z_isinstance : PySem.W.nsIn K mainGlobals "isinstance" = some none)
    (z_range : PySem.W.nsIn K mainGlobals "range" = some none)
    (z_enumerate : PySem.W.nsIn K mainGlobals "enumerate" = some none)
    (mg_KEYS : PySem.W.nsIn K mainGlobals "KEYS" = some (some (.str KEY t_KEYS)))
    (mg_PRESS : PySem.W.nsIn K mainGlobals "PRESS" = some (some (.str "press" t_PRESS)))
    (mg_FIGURES : PySem.W.nsIn K mainGlobals "FIGURES" = some (some (.int 6 t_FIGURES)))
    : ∃ fd : FuncData, (∀ (s : Shared) (v : Value), BindsTo s fd ⟨[v], []⟩ [("_law_script", v)]) ∧ ∀ base : Heap, K.In base → base.Ns mainGlobals mg → FnOk l.prog w K mg base CX0 5 fa fd ["_law_script"] (spLaw K) := by
  have e := hfa.symm.trans (PySem.W.mg_of X G a14)
  cases e
  have FBeg := fun_mk (st := sBeg) l1 c1 k1
  have bBeg := FBeg.binds (ps := ["_law_script"]) fun _ _ _ _ _ _ us hl => match us, hl with | [_], _ => rfl
  have mBeg := PySem.W.mg_of X G a1
  have FTak := fun_mk (st := sTak) l2 c2 k2
  have bTak := FTak.binds (ps := ["_law_box", "_law_many"]) fun _ _ _ _ _ _ us hl => match us, hl with | [_, _], _ => rfl
  have mTak := PySem.W.mg_of X G a2
  have FAli := fun_mk (st := sAli) l3 c3 k3
  have bAli := FAli.binds (ps := ["_law_found", "_law_due"]) fun _ _ _ _ _ _ us hl => match us, hl with | [_, _], _ => rfl
  have mAli := PySem.W.mg_of X G a3
  have FNum := fun_mk (st := sNum) l4 c4 k4
  have bNum := FNum.binds (ps := ["text", "most"]) fun _ _ _ _ _ _ us hl => match us, hl with | [_, _], _ => rfl
  have mNum := PySem.W.mg_of X G a4
  have FWrp := fun_mk (st := sWrp) l5 c5 k5
  have bWrp := FWrp.binds (ps := ["signs"]) fun _ _ _ _ _ _ us hl => match us, hl with | [_], _ => rfl
  have mWrp := PySem.W.mg_of X G a5
  have FNms := fun_mk (st := sNms) l6 c6 k6
  have bNms := FNms.binds (ps := ["texts", "most"]) fun _ _ _ _ _ _ us hl => match us, hl with | [_, _], _ => rfl
  have mNms := PySem.W.mg_of X G a6
  have FPro := fun_mk (st := sPro) l7 c7 k7
  have bPro := FPro.binds (ps := ["row"]) fun _ _ _ _ _ _ us hl => match us, hl with | [_], _ => rfl
  have mPro := PySem.W.mg_of X G a7
  have FSto := fun_mk (st := sSto) l8 c8 k8
  have bSto := FSto.binds (ps := ["row"]) fun _ _ _ _ _ _ us hl => match us, hl with | [_], _ => rfl
  have mSto := PySem.W.mg_of X G a8
  have FRea := fun_mk (st := sRea) l9 c9 k9
  have bRea := FRea.binds (ps := ["text"]) fun _ _ _ _ _ _ us hl => match us, hl with | [_], _ => rfl
  have mRea := PySem.W.mg_of X G a9
  have FRof := fun_mk (st := sRof) l10 c10 k10
  have bRof := FRof.binds (ps := ["step"]) fun _ _ _ _ _ _ us hl => match us, hl with | [_], _ => rfl
  have mRof := PySem.W.mg_of X G a10
  have FWri := fun_mk (st := sWri) l11 c11 k11
  have bWri := FWri.binds (ps := ["steps"]) fun _ _ _ _ _ _ us hl => match us, hl with | [_], _ => rfl
  have mWri := PySem.W.mg_of X G a11
  have FLro := fun_mk (st := sLro) l12 c12 k12
  have bLro := FLro.binds (ps := ["_law_steps"]) fun _ _ _ _ _ _ us hl => match us, hl with | [_], _ => rfl
  have mLro := PySem.W.mg_of X G a12
  have FAny := fun_mk (st := sAny) l13 c13 k13
  have bAny := FAny.binds (ps := ["_law_box"]) fun _ _ _ _ _ _ us hl => match us, hl with | [_], _ => rfl
  have mAny := PySem.W.mg_of X G a13
  have FL16 := fun_mk (st := sL16) l14 c14 k14
  have bL16 := FL16.binds (ps := ["_law_script"]) fun _ _ _ _ _ _ us hl => match us, hl with | [_], _ => rfl
  have mL16 := PySem.W.mg_of X G a14
  have KNumb_ : KNumb K w mg := ⟨_, PySem.W.mg_of X G gT_NUMBERS, ⟨_, _, lT_NUMBERS, kT_NUMBERS, rT_NUMBERS, sT_NUMBERS⟩⟩
  have TBeg_ : TBeg mg := ⟨PySem.W.mg_none_of X G z_list, PySem.W.mg_none_of X G z_int, PySem.W.mg_none_of X G z_len⟩
  have TAli_ : TAli mg := ⟨PySem.W.mg_none_of X G z_bool, PySem.W.mg_none_of X G z_int, PySem.W.mg_none_of X G z_str, PySem.W.mg_none_of X G z_list, PySem.W.mg_none_of X G z_tuple, PySem.W.mg_none_of X G z_isinstance, PySem.W.mg_none_of X G z_len, PySem.W.mg_none_of X G z_range⟩
  have TFig_ : TFig mg := ⟨PySem.W.mg_none_of X G z_enumerate, ⟨_, PySem.W.mg_of X G mg_KEYS⟩, PySem.W.mg_none_of X G z_len, PySem.W.mg_none_of X G z_int⟩
  have TNot_ : TNot mg := ⟨PySem.W.mg_none_of X G z_len, PySem.W.mg_none_of X G z_enumerate, ⟨_, PySem.W.mg_of X G mg_PRESS⟩, ⟨_, PySem.W.mg_of X G mg_FIGURES⟩⟩
  have TWri_ : TWri mg := ⟨PySem.W.mg_none_of X G z_str, PySem.W.mg_none_of X G z_isinstance⟩
  have TAny_ : TAny mg := ⟨PySem.W.mg_none_of X G z_range, PySem.W.mg_none_of X G z_tuple⟩
  have TLaw_ : TLaw mg := ⟨PySem.W.mg_none_of X G z_range, PySem.W.mg_none_of X G z_list⟩
  refine ⟨PySem.W.fnOf "law" "law" (defArgs sL16) (defBody sL16) (defScope sL16) .none kV14 dc14 pm14 an14 cd14 ct14, fun s v => ?_, fun base _ _ => ?_⟩
  case refine_2 =>
    have cBeg : Cal l.prog w K mg base "_law_begun" 1 _ (spBeg K) := ⟨⟨_, _, ok_begun FBeg TBeg_, mBeg, FBeg.kp, bBeg⟩⟩
    have cTak : Cal l.prog w K mg base "_law_take" 1 _ spTak := ⟨⟨_, _, ok_take2 FTak, mTak, FTak.kp, bTak⟩⟩
    have cNum : Cal l.prog w K mg base "number_of" 1 _ spNum := ⟨⟨_, _, ok_num FNum TFig_, mNum, FNum.kp, bNum⟩⟩
    have cWrp : Cal l.prog w K mg base "wrong_place" 1 _ spWrp := ⟨⟨_, _, ok_wrp FWrp TFig_, mWrp, FWrp.kp, bWrp⟩⟩
    have cNms : Cal l.prog w K mg base "numbers_of" 2 _ (spNms K) := ⟨⟨_, _, ok_nms FNms ⟨cNum⟩, mNms, FNms.kp, bNms⟩⟩
    have cPro : Cal l.prog w K mg base "press_of" 2 _ spPro := ⟨⟨_, _, ok_pro FPro TNot_ ⟨cNum, cWrp⟩, mPro, FPro.kp, bPro⟩⟩
    have cSto : Cal l.prog w K mg base "step_of" 3 _ spSto := ⟨⟨_, _, ok_sto FSto TNot_ KNumb_ ⟨cPro, cNms⟩, mSto, FSto.kp, bSto⟩⟩
    have cAli : Cal l.prog w K mg base "_law_alike" 4 _ (spAli K 3) := ⟨⟨_, _, ok_alike FAli TAli_ mAli bAli 3, mAli, FAli.kp, bAli⟩⟩
    have cRea : Cal l.prog w K mg base "read" 4 _ spRea := ⟨⟨_, _, ok_rea FRea TNot_ ⟨cSto⟩, mRea, FRea.kp, bRea⟩⟩
    have cRof : Cal l.prog w K mg base "row_of" 1 _ (spRof K) := ⟨⟨_, _, ok_rof FRof TWri_, mRof, FRof.kp, bRof⟩⟩
    have cWri : Cal l.prog w K mg base "written" 2 _ (spWri K) := ⟨⟨_, _, ok_wri FWri ⟨cRof⟩, mWri, FWri.kp, bWri⟩⟩
    have cLro : Cal l.prog w K mg base "_law_rows" 1 _ (spWri K) := ⟨⟨_, _, ok_lro FLro TWri_, mLro, FLro.kp, bLro⟩⟩
    have cAny : Cal l.prog w K mg base "_law_anystep" 2 _ spAny := ⟨⟨_, _, ok_any FAny TAny_ ⟨cTak⟩, mAny, FAny.kp, bAny⟩⟩
    exact ok_law FL16 TLaw_ ⟨cBeg, cTak, cAli, cAny, cLro, cWri, cRea⟩
  case refine_1 => exact .of_eq rfl
theorem walk {l : PySem.W.OpenLaw} {q : Program} {loose : List Str} {XP : (Str → Option Value) → Heap → Prop} {YP : World → Heap → Prop} {d : DefRec} {K : Params → PySem.W.Frag} (hn : l.most = some 63) (hdf : d.params.defaults = [])
    (hY : ∀ (w : World) (h : Heap), YP w h → (K w.params).In h)
    (F : ∀ (w : World) (mg : Str → Option Value) (fa : Addr) (h : Heap), (K w.params).In h → h.Ns mainGlobals mg → mg d.name = some (.ref fa) →
      ∃ fd : FuncData, (∀ (s : Shared) (u : Value), BindsTo s fd ⟨[u], []⟩ [("_law_script", u)]) ∧ ∀ base : Heap, (K w.params).In base → base.Ns mainGlobals mg → FnOk l.prog w (K w.params) mg base CX0 5 fa fd ["_law_script"] (spLaw (K w.params))) :
    PySem.W.WalkO q loose XP YP l.row.toRowW d [] (fun f vs => PySem.call f vs) :=
  L2.walk_of (n := 63) (k := 5) (x := "_law_script") (CX := fun _ => CX0) (sp := fun w => spLaw (K w.params)) hn (by decide) hdf ⟨rfl, by decide, by decide⟩ hY F (fun _ _ a ns hl _ hS => ⟨a, ns, rfl, hS, hl, fun _ => rfl⟩) fun _ _ _ _ _ z => z
end Vf
open PySem PySem.W PyProof.Rows in
set_option maxRecDepth 100000 in
set_option maxHeartbeats 0 in
theorem PySem.Challenge.cw_attachhall_k16_steps_written_holds : PySem.Challenge.rw_attachhall_k16_steps_written.Holds := by
  w_on; o_law; k_head; (case hw => w_witness2)
  k_fill
  refine Vf.walk (l := PySem.Challenge.rw_attachhall_k16_steps_written) rfl rfl (fun w h Y => PySem.W.kIn_of Y) ?F
  case F =>
    intro w mg fa h KX G hmg
    refine' Vf.all_mk KX G hmg ?a1 ?l1 ?c1 ?k1 ?a2 ?l2 ?c2 ?k2 ?a3 ?l3 ?c3 ?k3 ?a4 ?l4 ?c4 ?k4 ?a5 ?l5 ?c5 ?k5 ?a6 ?l6 ?c6 ?k6 ?a7 ?l7 ?c7 ?k7 ?a8 ?l8 ?c8 ?k8 ?a9 ?l9 ?c9 ?k9 ?a10 ?l10 ?c10 ?k10 ?a11 ?l11 ?c11 ?k11 ?a12 ?l12 ?c12 ?k12 ?a13 ?l13 ?c13 ?k13 ?a14 ?l14 ?c14 ?k14 ?gT_NUMBERS ?lT_NUMBERS ?kT_NUMBERS ?rT_NUMBERS ?sT_NUMBERS ?z_list ?z_int ?z_len ?z_bool ?z_str ?z_tuple ?z_isinstance ?z_range ?z_enumerate ?mg_KEYS ?mg_PRESS ?mg_FIGURES
    (case a1 => k_is)
    (case l1 => k_is)
    (case c1 => k_is)
    (case k1 => k_is)
    (case a2 => k_is)
    (case l2 => k_is)
    (case c2 => k_is)
    (case k2 => k_is)
    (case a3 => k_is)
    (case l3 => k_is)
    (case c3 => k_is)
    (case k3 => k_is)
    (case a4 => k_is)
    (case l4 => k_is)
    (case c4 => k_is)
    (case k4 => k_is)
    (case a5 => k_is)
    (case l5 => k_is)
    (case c5 => k_is)
    (case k5 => k_is)
    (case a6 => k_is)
    (case l6 => k_is)
    (case c6 => k_is)
    (case k6 => k_is)
    (case a7 => k_is)
    (case l7 => k_is)
    (case c7 => k_is)
    (case k7 => k_is)
    (case a8 => k_is)
    (case l8 => k_is)
    (case c8 => k_is)
    (case k8 => k_is)
    (case a9 => k_is)
    (case l9 => k_is)
    (case c9 => k_is)
    (case k9 => k_is)
    (case a10 => k_is)
    (case l10 => k_is)
    (case c10 => k_is)
    (case k10 => k_is)
    (case a11 => k_is)
    (case l11 => k_is)
    (case c11 => k_is)
    (case k11 => k_is)
    (case a12 => k_is)
    (case l12 => k_is)
    (case c12 => k_is)
    (case k12 => k_is)
    (case a13 => k_is)
    (case l13 => k_is)
    (case c13 => k_is)
    (case k13 => k_is)
    (case a14 => k_is)
    (case l14 => k_is)
    (case c14 => k_is)
    (case k14 => k_is)
    (case gT_NUMBERS => k_is)
    (case lT_NUMBERS => k_is)
    (case kT_NUMBERS => repeat (first | exact trivial | refine ⟨⟨_, _, rfl, rfl⟩, ?_⟩))
    (case rT_NUMBERS => repeat (first | exact trivial | refine ⟨⟨_, _, rfl, rfl⟩, ?_⟩))
    (case sT_NUMBERS => rfl)
    (case z_list => k_is)
    (case z_int => k_is)
    (case z_len => k_is)
    (case z_bool => k_is)
    (case z_str => k_is)
    (case z_tuple => k_is)
    (case z_isinstance => k_is)
    (case z_range => k_is)
    (case z_enumerate => k_is)
    (case mg_KEYS => k_is)
    (case mg_PRESS => k_is)
    (case mg_FIGURES => k_is)
#print axioms PySem.Challenge.cw_attachhall_k16_steps_written_holds
