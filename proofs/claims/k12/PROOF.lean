import PyProof.Rows.All
import Wide.All
import OpenK.AllK
import Wide.FinOn
import HandS.ForMost
import HandS.Evl
import HandS.IsInst
import HandS.FStr
import HandS.StrMore
import HandS.AnyAll
import HandS.Walk
import HandS.Replace
import HandS.EndTab
import HandS.Style
import HandS.Small
import HandS.Flow
import HandS.Star
import HandS.More
import KE.GoesMore
import KE.KUnpackStar
import HandS.NoneIn
import HandS.RaiseMore
import HandS.StrSplit
import PySem.Challenge.RW_attachhall_k12_sessions_of_one_name
import HandS.Head2
import HandS.SetFor
import HandS.Strs
import HandS.Zip
import PyProof.Rows.MatchSeqLen
import PyProof.Rows.TupIter
import HandS.Steps
import HandS.DictComp
import HandS.Dict
import HandS.Lambda
import HandS.ExcIs
import HandS.ExcField
import HandS.Exc
import HandS.WordsExc
import HandS.ExcOwn
import HandS.Small
import HandS.FStr
set_option Elab.async false
set_option linter.all false
set_option maxRecDepth 100000
set_option maxHeartbeats 4000000
namespace Vf
open PySem PySem.Spec PyProof.Rows L2 Evl
/-! ### a def of the text that may be called by its name -/
structure Cal (P : Program) (w : World) (K : PySem.W.Frag) (mg : Str → Option Value) (base : Heap) (x : Str) (k : Nat) (ps : List Str) (sp : Sp) : Prop where
  ex : ∃ (f : Addr) (fd : FuncData), FnOk P w K mg base CX0 k f fd ps sp ∧ mg x = some (.ref f) ∧ PySem.W.keepIn K (.ref f) = true ∧ Binds K fd ps []
theorem Cal.mono {P : Program} {w : World} {K : PySem.W.Frag} {mg : Str → Option Value} {base : Heap} {x : Str} {k j : Nat} {ps : List Str} {sp : Sp} (c : Cal P w K mg base x k ps sp) (h : k ≤ j) : Cal P w K mg base x j ps sp := by
  obtain ⟨f, fd, F, a, b, c⟩ := c.ex
  exact ⟨f, fd, F.mono h, a, b, c⟩
theorem Cal.imp {P : Program} {w : World} {K : PySem.W.Frag} {mg : Str → Option Value} {base : Heap} {x : Str} {k : Nat} {ps : List Str} {sp sp' : Sp} (c : Cal P w K mg base x k ps sp)
    (h : ∀ vs H Q E, sp' vs H Q E → sp vs H Q E) : Cal P w K mg base x k ps sp' := by
  obtain ⟨f, fd, F, a, b, c⟩ := c.ex
  exact ⟨f, fd, F.imp h, a, b, c⟩
section
variable {X : Cx} {x : Str} {k : Nat} {ps : List Str} {sp : Sp} {e : Expr} {es : List Expr} {t : TA} {p pos : Pos}
theorem pcall (c : Cal X.prog X.w X.K X.mg X.base x k ps sp) (hr : Room k X.A) (ha : PA X (e :: es) t) (hg : Gl X x := by rfl)
    (hdb : (x == ("__debug__" : Str)) = false := by decide) (he : starEach (e :: es) X.env = (false, eval e X.env) :: starEach es X.env := by rfl) (hpl : (backTo pos (starEach es X.env)).any (·.1) = false := by rfl) :
    PE X (.Call (.Name x p) (e :: es) [] pos) (tCall sp [] E0 t) := by
  obtain ⟨f, fd, F, hm, hk, hb⟩ := c.ex
  exact pe_call F hr hg hm hk hb .nil pass0 ha hdb he hpl
theorem pcall0 (c : Cal X.prog X.w X.K X.mg X.base x k ps sp) (hr : Room k X.A) (hg : Gl X x := by rfl)
    (hdb : (x == ("__debug__" : Str)) = false := by decide) :
    PE X (.Call (.Name x p) [] [] pos) (tCall sp [] E0 tNil) := by
  obtain ⟨f, fd, F, hm, hk, hb⟩ := c.ex
  exact pe_call0 F hr hg hm hk hb .nil pass0 hdb
end
/-! ### a constant of the module -/
section
variable {X : Cx} {x : Str} {pos : Pos}
theorem pgI {i : Int} (h : ∃ t, X.mg x = some (.int i t)) (hg : Gl X x := by rfl) (hdb : (x == ("__debug__" : Str)) = false := by decide) : PE X (.Name x pos) (tC (.int i)) := by
  obtain ⟨t, h⟩ := h
  exact pe_glob hg h ⟨_, rfl⟩ hdb
theorem pgS {i : Str} (h : ∃ t, X.mg x = some (.str i t)) (hg : Gl X x := by rfl) (hdb : (x == ("__debug__" : Str)) = false := by decide) : PE X (.Name x pos) (tC (.str i)) := by
  obtain ⟨t, h⟩ := h
  exact pe_glob hg h ⟨_, rfl⟩ hdb
end
theorem yes_lc {σ : L2.St} {H : Hp} {f g : Hp → Prop} (h : f H) : tYes σ H (fun b H3 => if b = true then f H3 else g H3) := by
  show if true = true then f H else g H
  rw [if_pos rfl]
  exact h
/-! ### two addresses apart, a heap that grows -/
theorem ne_new {H : Hp} {a p : Addr} {o : HO} (h : H a = some o) (n : H p = none) : a ≠ p := ne_of_none h n
theorem ex_set {H H1 : Hp} {p : Addr} {o : HO} (e : Ex H H1) (n : H p = none) : Ex H (upd H1 p o) := Ex.mut e n
/-! ### the box of numbers, hidden: which numbers it holds is left open -/
def lstObj (its : List Value) (n : Nat) : Obj := { cls := .type "list", data := .seq its.toArray n }
def BoxO (b l : Addr) : HO := .ext fun h => ∃ (z : Int) (its : List Value) (n : Nat), Vals [.ref l, .int z] its ∧ h.get? b = some (lstObj its n)
def IntsO (l : Addr) : HO := .ext fun h => ∃ (ns : List Int) (its : List Value) (n : Nat), ns.length ≤ sizeLine ∧ Vals (ns.map V.int) its ∧ h.get? l = some (lstObj its n)
/-- the box stands at b, its numbers at l -/
def Box (H : Hp) (b l : Addr) : Prop := b ≠ l ∧ H b = some (BoxO b l) ∧ H l = some (IntsO l)
theorem Box.ex {H H' : Hp} {b l : Addr} (h : Box H b l) (e : Ex H H') : Box H' b l := ⟨h.1, e _ _ h.2.1, e _ _ h.2.2⟩
def opened (H : Hp) (b l : Addr) (z : Int) (ns : List Int) : Hp := upd (upd H l (.lst (ns.map V.int))) b (.lst [.ref l, .int z])
def closed (H : Hp) (b l : Addr) : Hp := upd (upd H l (IntsO l)) b (BoxO b l)
section
variable {P : Program} {w : World} {H H' : Hp} {h h' : Heap} {b l a : Addr} {z : Int} {ns : List Int}
theorem upd2_ne {o u : HO} (h1 : a ≠ b) (h2 : a ≠ l) : upd (upd H l o) b u a = H a := by rw [upd_ne h1, upd_ne h2]
theorem own_ne {o : HO} {φ : Heap → Prop} (hb : H b = some (.ext φ)) (h : H a = some o) (n : ∀ φ, o ≠ .ext φ) : a ≠ b := by
  rintro rfl
  rw [hb] at h
  exact n _ (Option.some.inj h).symm
theorem hok_open (x : HOk P w H h) (B : Box H b l) : ∃ z ns, HOk P w (opened H b l z ns) h := by
  obtain ⟨hne, hb, hl⟩ := B
  obtain ⟨⟨z, its, n, r, g⟩, _⟩ := (show ObjOk P w H h b (BoxO b l) from x b _ hb)
  obtain ⟨⟨ns, its', n', hz, r', g'⟩, _⟩ := (show ObjOk P w H h l (IntsO l) from x l _ hl)
  refine ⟨z, ns, fun a o e => ?_⟩
  unfold opened at e
  by_cases h1 : a = b
  · subst h1
    rw [upd_same] at e
    cases e
    exact ⟨by show 2 ≤ sizeLine; decide, its, n, r, g⟩
  · rw [upd_ne h1] at e
    by_cases h2 : a = l
    · subst h2
      rw [upd_same] at e
      cases e
      exact ⟨by rw [List.length_map]; exact hz, its', n', r', g'⟩
    · rw [upd_ne h2] at e
      refine (x a o e).stay (fun _ _ _ q => q) (fun c q => ?_) (fun c xs q => ?_)
      · unfold opened
        rw [upd2_ne (own_ne hb q (fun _ z => by cases z)) (own_ne hl q (fun _ z => by cases z))]
        exact q
      · unfold opened
        rw [upd2_ne (own_ne hb q (fun _ z => by cases z)) (own_ne hl q (fun _ z => by cases z))]
        exact q
theorem lst_ne {o : HO} {xs : List V} (hb : H b = some (.lst xs)) (h : H a = some o) (n : ∀ xs, o ≠ .lst xs) : a ≠ b := by
  rintro rfl
  rw [hb] at h
  exact n _ (Option.some.inj h).symm
theorem hok_close (x : HOk P w H h) (hb : H b = some (.lst [.ref l, .int z])) (hl : H l = some (.lst (ns.map V.int))) : HOk P w (closed H b l) h := by
  obtain ⟨_, its, n, r, g⟩ := (show ObjOk P w H h b (.lst _) from x b _ hb)
  obtain ⟨hz, its', n', r', g'⟩ := (show ObjOk P w H h l (.lst _) from x l _ hl)
  intro a o e
  unfold closed at e
  by_cases h1 : a = b
  · subst h1
    rw [upd_same] at e
    cases e
    exact ⟨⟨z, its, n, r, g⟩, ⟨_, g⟩, fun h1 h2 ⟨z, its, n, r, g⟩ k => ⟨z, its, n, r, k _ g⟩⟩
  · rw [upd_ne h1] at e
    by_cases h2 : a = l
    · subst h2
      rw [upd_same] at e
      cases e
      exact ⟨⟨ns, its', n', by rw [List.length_map] at hz; exact hz, r', g'⟩, ⟨_, g'⟩, fun h1 h2 ⟨ns, its, n, hz, r, g⟩ k => ⟨ns, its, n, hz, r, k _ g⟩⟩
    · rw [upd_ne h2] at e
      refine (x a o e).stay (fun _ _ _ q => q) (fun c q => ?_) (fun c xs q => ?_)
      · unfold closed
        rw [upd2_ne (lst_ne hb q (fun _ z => by cases z)) (lst_ne hl q (fun _ z => by cases z))]
        exact q
      · unfold closed
        rw [upd2_ne (lst_ne hb q (fun _ z => by cases z)) (lst_ne hl q (fun _ z => by cases z))]
        exact q
theorem un_hide {fs ex : List Addr} {H2 : Hp} (B : Box H b l) (u : Un fs ex (opened H b l z ns) H2 h h') : Un fs ex H (closed H2 b l) h h' := by
  obtain ⟨hne, hb, hl⟩ := B
  have none_ne : ∀ c, H c = none → c ≠ b ∧ c ≠ l := fun c q => ⟨fun e => (by rw [e, hb] at q; cases q), fun e => (by rw [e, hl] at q; cases q)⟩
  have non : ∀ c, H c = none → opened H b l z ns c = none := fun c q => by
    unfold opened
    rw [upd2_ne (none_ne c q).1 (none_ne c q).2]
    exact q
  have ne2 : ∀ c o, H c = some o → (∀ φ, o ≠ .ext φ) → c ≠ b ∧ c ≠ l := fun c o q n => ⟨own_ne hb q n, own_ne hl q n⟩
  refine ⟨fun c o q n => u.keep c o q (non c n), fun c o q n => u.slot c o q (non c n), fun c o q n hx => ?_, u.there, fun c xs q => ?_, fun c o v q => ?_, fun c ps q => ?_⟩
  · unfold closed
    rw [upd2_ne (none_ne c n).1 (none_ne c n).2]
    exact u.free c o q (non c n) hx
  · have d := ne2 c _ q (fun _ z => by cases z)
    unfold closed
    rw [upd2_ne d.1 d.2]
    exact u.tups c xs (by unfold opened; rw [upd2_ne d.1 d.2]; exact q)
  · have d := ne2 c _ q (fun _ z => by cases z)
    unfold closed
    rw [upd2_ne d.1 d.2]
    exact u.frzs c o v (by unfold opened; rw [upd2_ne d.1 d.2]; exact q)
  · have d := ne2 c _ q (fun _ z => by cases z)
    unfold closed
    rw [upd2_ne d.1 d.2]
    exact u.tbls c ps (by unfold opened; rw [upd2_ne d.1 d.2]; exact q)
theorem ex_new2 {H2 : Hp} (e : Ex H H2) (n1 : H b = none) (n2 : H l = none) : Ex H (closed H2 b l) := fun c o q => by
  have d1 : c ≠ b := ne_of_none q n1
  have d2 : c ≠ l := ne_of_none q n2
  unfold closed
  rw [upd2_ne d1 d2]
  exact e c o q
theorem un_new {fs : List Addr} {H2 : Hp} (u : Un fs [] H H2 h h') (n1 : H b = none) (n2 : H l = none) (hb : H2 b = some (.lst [.ref l, .int z])) (hl : H2 l = some (.lst (ns.map V.int))) : Un fs [] H (closed H2 b l) h h' := by
  have old : ∀ c o, h.get? c = some o → H c = none → c ≠ b ∧ c ≠ l := fun c o q n => by
    have f := u.free c o q n (by simp)
    exact ⟨fun e => (by rw [e, hb] at f; cases f), fun e => (by rw [e, hl] at f; cases f)⟩
  have ne2 : ∀ c o, H c = some o → c ≠ b ∧ c ≠ l := fun c o q => ⟨ne_of_none q n1, ne_of_none q n2⟩
  refine ⟨u.keep, u.slot, fun c o q n hx => ?_, u.there, fun c xs q => ?_, fun c o v q => ?_, fun c ps q => ?_⟩
  · unfold closed
    rw [upd2_ne (old c o q n).1 (old c o q n).2]
    exact u.free c o q n hx
  · have d := ne2 c _ q
    unfold closed
    rw [upd2_ne d.1 d.2]
    exact u.tups c xs q
  · have d := ne2 c _ q
    unfold closed
    rw [upd2_ne d.1 d.2]
    exact u.frzs c o v q
  · have d := ne2 c _ q
    unfold closed
    rw [upd2_ne d.1 d.2]
    exact u.tbls c ps q
theorem ex_hide {H2 : Hp} (B : Box H b l) (e : ∀ c o, c ≠ b → c ≠ l → H c = some o → H2 c = some o) : Ex H (closed H2 b l) := by
  obtain ⟨hne, hb, hl⟩ := B
  intro c o q
  unfold closed
  by_cases h1 : c = b
  · subst h1
    rw [upd_same, ← hb]
    exact q
  · rw [upd_ne h1]
    by_cases h2 : c = l
    · subst h2
      rw [upd_same, ← hl]
      exact q
    · rw [upd_ne h2]
      exact e c o h1 h2 q
end
/-- what a def that works upon the open box promises -/
def spOpen (R : V → Prop) (pre : List V → Prop) : Sp := fun vs H Q _ => ∃ (b l : Addr) (z : Int) (ns : List Int) (rest : List V), vs = .ref b :: rest ∧ pre rest ∧ b ≠ l ∧ H b = some (.lst [.ref l, .int z]) ∧ H l = some (.lst (ns.map V.int)) ∧
  ∀ (v : V) (H' : Hp) (z' : Int) (ns' : List Int), R v → (∀ c o, c ≠ b → c ≠ l → H c = some o → H' c = some o) → H' b = some (.lst [.ref l, .int z']) → H' l = some (.lst (ns'.map V.int)) → Q v H'
/-- what it promises where the box is hidden -/
def spHid (R : V → Prop) (pre : List V → Prop) : Sp := fun vs H Q _ => ∃ (b l : Addr) (rest : List V), vs = .ref b :: rest ∧ pre rest ∧ Box H b l ∧ ∀ (v : V) (H' : Hp), R v → Ex H H' → Q v H'
section
variable {P : Program} {w : World} {K : PySem.W.Frag} {mg : Str → Option Value} {base : Heap}
theorem hide_fn {k : Nat} {f : Addr} {fd : FuncData} {ps : List Str} {R : List V → V → Prop} {pre : List V → Prop} (F : ∀ r0, pre r0 → FnOk P w K mg base CX0 k f fd ps (spOpen (R r0) fun r => r = r0)) (hl : ∀ r, pre r → r.length + 1 = ps.length) :
    FnOk P w K mg base CX0 k f fd ps (fun vs H Q _ => ∃ (b l : Addr) (rest : List V), vs = .ref b :: rest ∧ pre rest ∧ Box H b l ∧ ∀ (v : V) (H' : Hp), R rest v → Ex H H' → Q v H') := by
  refine ⟨fun vs H Q E h => ?_, fun A outer s H args us vs Q E hr e0 hb hv h => ?_⟩
  · obtain ⟨b, l, rest, rfl, hp, _⟩ := h
    exact hl _ hp
  · obtain ⟨b, l, rest, rfl, hp, B, q⟩ := h
    obtain ⟨z, ns, ok⟩ := hok_open e0.hok B
    have non : ∀ c, H c = none → opened H b l z ns c = none := fun c n => by
      have h1 : c ≠ b := fun e => by rw [e, B.2.1] at n; cases n
      have h2 : c ≠ l := fun e => by rw [e, B.2.2] at n; cases n
      unfold opened
      rw [upd2_ne h1 h2]
      exact n
    have e1 : Env0 P w K mg base A outer s (opened H b l z ns) := ⟨e0.frames, e0.mod, fun c o g => ⟨(e0.bs c o g).1, non c (e0.bs c o g).2⟩, e0.bsz, e0.funs, fun c g => non c (e0.frf c g), ok, e0.bare⟩
    refine codeAny_mono ((F rest hp).run A outer s (opened H b l z ns) args us (.ref b :: rest) (fun v H2 => Q v (closed H2 b l) ∧ ∃ z ns, H2 b = some (.lst [.ref l, .int z]) ∧ H2 l = some (.lst (ns.map V.int))) E hr e1 hb hv ⟨b, l, z, ns, rest, rfl, rfl, B.1, upd_same, ?_, fun v H' z' ns' hR hk h1 h2 => ⟨?_, z', ns', h1, h2⟩⟩) fun r s' hq => ?_
    · unfold opened
      rw [upd_ne (Ne.symm B.1), upd_same]
    · refine q v _ hR (ex_hide B fun c o h1 h2 g => hk c o h1 h2 ?_)
      unfold opened
      rw [upd2_ne h1 h2]
      exact g
    · cases r with
      | error e => exact hq
      | ok fl =>
        cases fl with
        | ret u =>
          obtain ⟨v, H2, os, bare, un, hok, rv, q2, z2, ns2, hb2, hl2⟩ := hq
          exact ⟨v, closed H2 b l, os, bare, un_hide B un, hok_close hok hb2 hl2, rv, q2⟩
        | next => exact hq
        | brk => exact hq
        | cont => exact hq
end
end Vf
namespace Vf
open PySem PySem.Spec PyProof.Rows L2 Evl
/-! ### data -/
theorem sq_ex {K : PySem.W.Frag} {H H' : Hp} {a : Addr} {xs : List V} (e : Ex H H') (h : SqL K H a xs) : SqL K H' a xs := ex_l e h
theorem dp_ints {K : PySem.W.Frag} {H : Hp} : ∀ ns : List Int, DpAll K H (ns.map V.int) (ns.map PyData.int)
  | [] => .nil
  | n :: r => .cons (.int n) (dp_ints r)
theorem dp_strs {K : PySem.W.Frag} {H : Hp} : ∀ ns : List Str, DpAll K H (ns.map V.str) (ns.map PyData.str)
  | [] => .nil
  | n :: r => .cons (.str n) (dp_strs r)
theorem flat_ints : ∀ ns : List Int, (PyData.canLayAll0 (ns.map PyData.int) = true) ∧ PyData.depthAll (ns.map PyData.int) = 0
  | [] => ⟨rfl, rfl⟩
  | n :: r => by
    obtain ⟨h1, h2⟩ := flat_ints r
    refine ⟨?_, ?_⟩
    · show (true && PyData.canLayAll0 (r.map PyData.int)) = true
      rw [h1]; rfl
    · show max 0 (PyData.depthAll (r.map PyData.int)) = 0
      rw [h2]; rfl
theorem sh_ints (ns : List Int) : SeqAt.shaped (.list (ns.map PyData.int)) = true := by
  obtain ⟨h1, h2⟩ := flat_ints ns
  show (PyData.canLayAll0 (ns.map PyData.int) && decide (PyData.depthAll (ns.map PyData.int) + 1 ≤ 64)) = true
  rw [h1, h2]; rfl
def good : Nat → PyData → Bool
  | _, .none => true
  | _, .bool _ => true
  | _, .int _ => true
  | _, .str x => PyData.canLay0 (.str x)
  | _, .dict _ => false
  | 0, .list _ => false
  | 0, .tuple _ => false
  | n + 1, .list xs => decide (xs.length ≤ 16777216) && xs.all (good n)
  | n + 1, .tuple xs => decide (xs.length ≤ 16777216) && xs.all (good n)
theorem good_all {n : Nat} (ih : ∀ d, good n d = true → PyData.canLay0 d = true ∧ PyData.depth d ≤ n) : ∀ xs : List PyData, xs.all (good n) = true → PyData.canLayAll0 xs = true ∧ PyData.depthAll xs ≤ n
  | [], _ => ⟨rfl, Nat.zero_le _⟩
  | x :: r, h => by
    rw [List.all_cons, Bool.and_eq_true] at h
    obtain ⟨h1, h2⟩ := ih x h.1
    obtain ⟨h3, h4⟩ := good_all ih r h.2
    refine ⟨?_, Nat.max_le.mpr ⟨h2, h4⟩⟩
    show (PyData.canLay0 x && PyData.canLayAll0 r) = true
    rw [h1, h3]; rfl
theorem good_lay : ∀ (n : Nat) (d : PyData), good n d = true → PyData.canLay0 d = true ∧ PyData.depth d ≤ n
  | n, .none, _ => ⟨rfl, Nat.zero_le _⟩
  | n, .bool _, _ => ⟨rfl, Nat.zero_le _⟩
  | n, .int _, _ => ⟨rfl, Nat.zero_le _⟩
  | n, .str x, h => ⟨by cases n <;> exact h, Nat.zero_le _⟩
  | n, .dict _, h => by cases n <;> cases h
  | 0, .list _, h => by cases h
  | 0, .tuple _, h => by cases h
  | n + 1, .list xs, h => by
    obtain ⟨h1, h2⟩ := good_all (good_lay n) xs (Bool.and_eq_true_iff.mp (show (decide (xs.length ≤ 16777216) && xs.all (good n)) = true from h)).2
    exact ⟨h1, Nat.succ_le_succ h2⟩
  | n + 1, .tuple xs, h => by
    obtain ⟨h1, h2⟩ := good_all (good_lay n) xs (Bool.and_eq_true_iff.mp (show (decide (xs.length ≤ 16777216) && xs.all (good n)) = true from h)).2
    exact ⟨h1, Nat.succ_le_succ h2⟩
theorem sh_of' {d : PyData} {n : Nat} (h : good n d = true) (hn : n ≤ 60) : SeqAt.shaped d = true := by
  obtain ⟨h1, h2⟩ := good_lay n d h
  show (PyData.canLay0 d && decide (PyData.depth d ≤ 64)) = true
  rw [h1, decide_eq_true (by omega)]
  rfl
theorem good_get {n : Nat} {xs : List PyData} {i : Nat} {d : PyData} (h : (decide (xs.length ≤ 16777216) && xs.all (good n)) = true) (e : xs[i]? = some d) : good n d = true :=
  List.all_eq_true.mp (Bool.and_eq_true_iff.mp h).2 d (List.mem_of_getElem? e)
theorem good_len {n : Nat} {xs : List PyData} (h : (decide (xs.length ≤ 16777216) && xs.all (good n)) = true) : xs.length ≤ 16777216 := of_decide_eq_true (Bool.and_eq_true_iff.mp h).1
theorem seq0 {α : Type} (x : α) (r : List α) : seqIndex? 0 (x :: r).length = some 0 := by
  have h : (0 : Int) < ((x :: r).length : Nat) := by rw [List.length_cons]; omega
  have e : (seqIndex? 0 (x :: r).length) = (if decide ((0 : Int) ≤ 0) && decide ((0 : Int) < ((x :: r).length : Nat)) then some (0 : Int).toNat else none) := rfl
  rw [e, decide_eq_true h]
  rfl
theorem eqv_nil (ns : List Int) : PyData.eqv (.list (ns.map PyData.int)) (.list []) = decide (ns = []) := by
  cases ns with
  | nil => rfl
  | cons n r => rfl
end Vf
namespace Vf
open PySem PySem.Spec PyProof.Rows L2 Evl
theorem at_ix {α : Type} {xs : List α} {z : Int} {j : Nat} {v : α} (e : z = (j : Int)) (h : xs[j]? = some v) : atI xs z = some v := by
  rw [e]
  exact atI_nat h
/-! ### texts by their signs -/
def txt (l : List Nat) : Str := ⟨l.toArray⟩
theorem txt_len (l : List Nat) : (txt l).length = l.length := by show l.toArray.size = _; simp
theorem txt_cps (l : List Nat) : (txt l).cps.toList = l := by show l.toArray.toList = l; simp
theorem txt_of (z : Str) : txt z.cps.toList = z := by cases z; simp [txt]
theorem txt_app (a b : List Nat) : txt a ++ txt b = txt (a ++ b) := by
  show (⟨a.toArray ++ b.toArray⟩ : Str) = ⟨(a ++ b).toArray⟩
  rw [List.append_toArray]
theorem str_len (z : Str) : z.cps.toList.length = z.length := by show _ = z.cps.size; simp
/-- a text of one sign -/
def sg (c : Nat) : Str := ⟨#[c]⟩
theorem glue0 : ∀ (r : List Nat) (acc : Array Nat), (r.map sg).foldl (fun (acc : Array Nat) (p : Str) => acc ++ (#[] : Array Nat) ++ p.cps) acc = acc ++ r.toArray
  | [], acc => by simp
  | c :: r, acc => by
    rw [List.map_cons, List.foldl_cons, glue0 r]
    show acc ++ #[] ++ #[c] ++ r.toArray = _
    apply Array.toList_inj.mp
    simp
theorem join0 (cs : List Nat) : Txt.join ⟨#[]⟩ (cs.map sg) = txt cs := by
  cases cs with
  | nil => rfl
  | cons c r =>
    show (⟨(r.map sg).foldl (fun (acc : Array Nat) (p : Str) => acc ++ (#[] : Array Nat) ++ p.cps) #[c]⟩ : Str) = _
    rw [glue0]
    show (⟨#[c] ++ r.toArray⟩ : Str) = ⟨(c :: r).toArray⟩
    congr 1
    apply Array.toList_inj.mp
    simp
theorem sg_sum : ∀ cs : List Nat, ((cs.map sg).map (fun y => y.length)).sum = cs.length
  | [] => rfl
  | c :: r => by
    rw [List.map_cons, List.map_cons, List.sum_cons, sg_sum r, List.length_cons]
    show 1 + r.length = _
    omega
/-- the text that a statement binds -/
def litOf : Stmt → Str
  | .Assign _ (.Constant (.str x) _ _) _ => x
  | _ => ⟨#[]⟩
theorem lay_str {z : Str} (h : ∀ c ∈ z.cps.toList, c < 128) : PyData.canLay0 (.str z) = true := by
  show z.cps.all (fun c => decide (c < 0x110000)) = true
  rw [Array.all_eq_true]
  intro i hi
  exact decide_eq_true (Nat.lt_trans (h _ (by simp)) (by decide))
end Vf
namespace Vf
open PySem PySem.Spec PyProof.Rows L2 Evl
/-! ### a text many times -/
theorem rep_fold (c : Array Nat) : ∀ (n : Nat) (acc : Array Nat), ((List.replicate n c).foldl (fun a b => a ++ b) acc).toList = acc.toList ++ (List.replicate n c.toList).flatten
  | 0, acc => by simp
  | n + 1, acc => by
    rw [List.replicate_succ, List.foldl_cons, rep_fold c n, List.replicate_succ, List.flatten_cons]
    simp
theorem mul_cps (x : Str) (n : Nat) : (Txt.mul x (n : Int)).cps.toList = (List.replicate n x.cps.toList).flatten := by
  unfold Txt.mul
  by_cases h0 : n = 0
  · subst h0
    rfl
  · rw [if_neg (by omega)]
    by_cases h1 : ((n : Int) == 1 || x.length == 0) = true
    · rw [if_pos h1]
      rw [Bool.or_eq_true] at h1
      rcases h1 with h1 | h1
      · have e : n = 1 := by have := eq_of_beq h1; omega
        subst e
        simp
      · have e : x.cps.toList = [] := by
          have := eq_of_beq h1
          rw [← List.length_eq_zero_iff, str_len]
          exact this
        rw [e]
        simp
    · rw [if_neg h1, Int.toNat_natCast, rep_fold]
      simp
theorem mul_sg (c n : Nat) : Txt.mul (sg c) (n : Int) = txt (List.replicate n c) := by
  have h := mul_cps (sg c) n
  have e : (sg c).cps.toList = [c] := rfl
  rw [e] at h
  rw [← txt_of (Txt.mul (sg c) (n : Int)), h]
  congr 1
  induction n with
  | zero => rfl
  | succ n ih => rw [List.replicate_succ, List.flatten_cons, List.replicate_succ]; simp
theorem mul_ok {x : Str} {n : Int} (hx : x.length ≤ 1000) (h0 : 0 ≤ n) (h1 : n ≤ 10000) : MulOk x n := by
  refine ⟨?_, fun h _ z => ?_, fun h _ => ?_⟩
  · rw [decide_eq_false (by omega), decide_eq_false (by omega)]
    rfl
  · have : (1000 : Int) ≤ (2 ^ 63 - 1) / n := (Int.le_ediv_iff_mul_le (by omega)).mpr (by omega)
    omega
  · have : x.length * n.toNat ≤ 1000 * 10000 := Nat.mul_le_mul hx (by omega)
    unfold Builtin.Str.tooLong
    exact decide_eq_false (by
      have e : sizeLine = 16777216 := by decide
      omega)
section
variable {X : Cx}
theorem op_mulS : OpR X (binaryOp .Mult) (fun x y H Q => ∃ (z : Str) (n : Int), x = .str z ∧ y = .int n ∧ z.length ≤ 1000 ∧ 0 ≤ n ∧ n ≤ 10000 ∧ Q (.str (Txt.mul z n)) H) := by
  intro pins s σ H x y v u Q I rx ry h
  obtain ⟨z, n, rfl, rfl, hz, h0, h1, q⟩ := h
  obtain ⟨t, rfl⟩ := rx
  obtain ⟨t', rfl⟩ := ry
  exact SB.mul (mul_ok hz h0 h1) fun t' tk => ⟨.str (Txt.mul z n), H, I.tok _, ⟨_, rfl⟩, q⟩
end
end Vf
namespace Vf
open PySem PySem.Spec PyProof.Rows L2 Evl
/-! ### slices of texts -/
theorem cutS_first {z : Str} {w : Nat} : cutS z none (some (w : Int)) = ⟨(z.cps.toList.take w).toArray⟩ := by
  unfold cutS
  have hz : z.length = z.cps.toList.length := by show z.cps.size = _; simp
  rw [HT.sIx_nat, HT.sIx_none, List.drop_zero, Nat.sub_zero]
  congr 2
  by_cases hh : w ≤ z.length
  · rw [Nat.min_eq_left hh]
  · rw [Nat.min_eq_right (by omega), List.take_of_length_le (by omega), List.take_of_length_le (by omega)]
theorem cutS_rest {z : Str} {w : Nat} : cutS z (some (w : Int)) none = ⟨(z.cps.toList.drop w).toArray⟩ := by
  unfold cutS
  have hz : z.length = z.cps.toList.length := by show z.cps.size = _; simp
  rw [HT.sIx_nat, HT.sIx_none]
  congr 1
  by_cases hh : w ≤ z.length
  · rw [Nat.min_eq_left hh, List.take_of_length_le (by rw [List.length_drop]; omega)]
  · rw [Nat.min_eq_right (by omega), Nat.sub_self, List.take_zero, List.drop_eq_nil_of_le (by omega)]
end Vf
namespace Vf
open PySem PySem.Spec PyProof.Rows L2 Evl
/-! ### a text cut at its last sign of a kind -/
section
variable {X : Cx}
theorem mt_rpart : MtR X "str.rpartition" (fun x xs H Q => ∃ a b : Str, x = .str a ∧ xs = [.str b] ∧ (b.length == 0) = false ∧ a.length ≤ sizeLine ∧
    ∀ p, H p = none → Q (.ref p) (upd H p (.tup [.str (Txt.rpartition a b).1, .str (Txt.rpartition a b).2.1, .str (Txt.rpartition a b).2.2]))) := by
  rintro pins s σ H x xs v us Q I rx rs ⟨a, b, rfl, rfl, hb, hz, h⟩
  obtain ⟨ta, rfl⟩ := rx
  obtain ⟨u, rfl, tb, rfl⟩ := vals1 rs
  refine call_meets PySem.F.slot_str_rpartition (typeIs_str _ _ _) PySem.F.entry_str_rpartition (PySem.F.args_str_rpartition_2 _ _) (meets_str_rpartition a b ta tb hb hz) ?_
  revert h
  unfold Txt.rpartition
  cases Builtin.Str.lastOccurrence a b 0 a.length with
  | none => exact fun h => laid_parts I h
  | some i => exact fun h => laid_parts I h
end
/-- what stands behind the last c -/
def behind (c : Nat) (l : List Nat) : List Nat := (l.reverse.takeWhile fun x => decide (x ≠ c)).reverse
theorem behind_none {c : Nat} {l : List Nat} (h : c ∉ l) : behind c l = l := by
  unfold behind
  have e : l.reverse.takeWhile (fun x => decide (x ≠ c)) = l.reverse := by
    have q := List.takeWhile_append_of_pos (p := fun x => decide (x ≠ c)) (l₁ := l.reverse) (l₂ := []) (fun x hx => decide_eq_true fun e => h (by rw [← e]; exact List.mem_reverse.mp hx))
    simpa using q
  rw [e, List.reverse_reverse]
theorem behind_app {c : Nat} {a b : List Nat} (h : c ∉ b) : behind c (a ++ c :: b) = b := by
  unfold behind
  rw [List.reverse_append, List.reverse_cons, List.append_assoc]
  have e : ((b.reverse ++ ([c] ++ a.reverse)).takeWhile fun x => decide (x ≠ c)) = b.reverse := by
    rw [List.takeWhile_append_of_pos]
    · simp
    · intro x hx
      exact decide_eq_true fun e => h (by rw [← e]; exact List.mem_reverse.mp hx)
  rw [e, List.reverse_reverse]
theorem pre1 (c : Nat) (l : List Nat) : TL.pre [c] l = true ↔ ∃ r, l = c :: r := by
  unfold TL.pre
  cases l with
  | nil => simp
  | cons x r =>
    have e : (x :: r).take [c].length = [x] := rfl
    rw [e]
    constructor
    · intro h
      have := eq_of_beq h
      cases this
      exact ⟨r, rfl⟩
    · rintro ⟨r', h⟩
      cases h
      simp
theorem rpart_behind (x : Str) (c : Nat) : (Txt.rpartition x (sg c)).2.2 = txt (behind c x.cps.toList) := by
  have hne : TL.tl (sg c) ≠ [] := fun h => nomatch (show ([c] : List Nat) = [] from h)
  unfold Txt.rpartition
  rcases StrLaws.last_spec x (sg c) with ⟨e, h⟩ | ⟨i, e, h, h2⟩
  · rw [e]
    show x = txt (behind c x.cps.toList)
    rw [behind_none, txt_of]
    intro hm
    obtain ⟨i, hi, ei⟩ := List.getElem_of_mem hm
    refine h i ((TL.at_iff hne i).mpr ((pre1 c _).mpr ⟨x.cps.toList.drop (i + 1), ?_⟩))
    show x.cps.toList.drop i = _
    rw [List.drop_eq_getElem_cons hi, ei]
  · rw [e]
    show Builtin.Str.strSub x (i + (sg c).length) x.length = _
    refine TL.ext_tl ?_
    rw [TL.tl_strSub_end]
    show x.cps.toList.drop (i + 1) = (txt (behind c x.cps.toList)).cps.toList
    rw [txt_cps]
    obtain ⟨r, er⟩ := (pre1 c _).mp ((TL.at_iff hne i).mp h)
    have er2 : x.cps.toList.drop i = c :: r := er
    have e3 : x.cps.toList.drop (i + 1) = r := by
      have : (x.cps.toList.drop i).drop 1 = r := by rw [er2]; rfl
      rw [List.drop_drop] at this
      exact this
    rw [e3]
    have hr : c ∉ r := fun hm => by
      obtain ⟨j, hj, ej⟩ := List.getElem_of_mem hm
      refine h2 (i + 1 + j) (by omega) ((TL.at_iff hne _).mpr ((pre1 c _).mpr ⟨r.drop (j + 1), ?_⟩))
      show x.cps.toList.drop (i + 1 + j) = _
      rw [← List.drop_drop, e3, List.drop_eq_getElem_cons hj, ej]
    have e4 : x.cps.toList = x.cps.toList.take i ++ c :: r := by rw [← er2, List.take_append_drop]
    rw [e4, behind_app hr]
theorem cutS_butlast (z : Str) : cutS z none (some (-1)) = txt z.cps.toList.dropLast := by
  unfold cutS
  have hz : z.length = z.cps.toList.length := (str_len z).symm
  have e : HT.sIx z.length z.length (some (-1)) = z.length - 1 := by
    show (if (-1 : Int) < 0 then ((-1 : Int) + (z.length : Int)).toNat else min (-1 : Int).toNat z.length) = _
    rw [if_pos (by decide)]
    omega
  rw [e, HT.sIx_none, List.drop_zero, Nat.sub_zero, hz, List.dropLast_eq_take]
  rfl
/-! ### places of signs -/
def ixS (z : Str) (c : Nat) : Nat := (Builtin.Str.occurrences z (sg c) 0 z.length 1).headD 0
theorem ix_cons {z : Str} {c : Nat} (h : c ∈ z.cps.toList) : ∃ r, Builtin.Str.occurrences z (sg c) 0 z.length 1 = ixS z c :: r := by
  have q := StrLaws.found_one z c
  rw [decide_eq_true h] at q
  unfold ixS
  have q2 : (!(Builtin.Str.occurrences z (sg c) 0 z.length 1).isEmpty) = true := q
  cases e : Builtin.Str.occurrences z (sg c) 0 z.length 1 with
  | nil => rw [e] at q2; cases q2
  | cons i r => exact ⟨r, rfl⟩
/-- a number's text -/
theorem num_txt (n : Nat) : (Str.ofString (toString ((n : Nat) : Int)) : Str) = txt (TL.numL n) := TL.ext_tl (by rw [TL.tl_num]; exact (txt_cps _).symm)
theorem mem_joinL {S : List Nat} : ∀ {ps : List (List Nat)} {c : Nat}, c ∈ TL.joinL S ps → c ∈ S ∨ ∃ p ∈ ps, c ∈ p
  | [], c, h => by simp [TL.joinL] at h
  | [p], c, h => by
    have h2 : c ∈ p := by simpa [TL.joinL] using h
    exact .inr ⟨p, by simp, h2⟩
  | p :: q :: r, c, h => by
    have h2 : c ∈ p ++ (S ++ TL.joinL S (q :: r)) := by simpa [TL.joinL] using h
    rcases List.mem_append.mp h2 with h2 | h2
    · exact .inr ⟨p, List.mem_cons_self, h2⟩
    · rcases List.mem_append.mp h2 with h2 | h2
      · exact .inl h2
      · rcases mem_joinL h2 with h3 | ⟨x, hx, h3⟩
        · exact .inl h3
        · exact .inr ⟨x, List.mem_cons_of_mem _ hx, h3⟩
theorem log_small {n : Nat} (h : n < 10000000) : ((n : Nat) : Int).natAbs.log2 < 1920 := by
  rw [Int.natAbs_natCast]
  by_cases h0 : n = 0
  · subst h0
    decide
  · exact Nat.lt_of_lt_of_le ((Nat.log2_lt h0).mpr (show n < 2 ^ 24 from Nat.lt_trans h (by decide))) (by decide)
end Vf
namespace Vf
open PySem PySem.Spec PyProof.Rows L2 Evl GxR
/-! ### all(test for a sign in a text), the test may read the module's names -/
/-- the test of the sign c, where the module's names are to be read -/
def EltM (prog : Program) (w : World) (mg : Str → Option Value) (sc : Scope) (y : Str) (tst : Expr) (f : Nat → Bool) : Prop :=
  ∀ (en : Env) (B : Around) (R : Value → Shared → Prop) (c : Nat) (t : Tok) (z : Shared) (m : Str → Option Value), en.scope = sc → en.globals = mainGlobals → z.heap.Ns mainGlobals mg → z.heap.Ns en.locals m → m y = some (.str ⟨#[c]⟩ t) →
    wpAny (model prog w) B (eval tst en) (fun v z' => v = .bool (f c) ∧ Keeps z z') R z
/-- a sign in a text of the module's -/
theorem elt_in {prog : Program} {w : World} {mg : Str → Option Value} {sc : Scope} {y g : Str} {k : Str} {p1 p2 p3 : Pos} (hk : sc.kind = .function) (hy : sc.names.lookup y = some .local) (hg : sc.names.lookup g = some .globalImplicit)
    (hm : ∃ t, mg g = some (.str k t)) (d1 : (y == ("__debug__" : Str)) = false := by decide) (d2 : (g == ("__debug__" : Str)) = false := by decide) :
    EltM prog w mg sc y (.Compare (.Name y p1) [.In] [.Name g p2] p3) (fun c => decide (c ∈ k.cps.toList)) := by
  obtain ⟨tg, hm⟩ := hm
  intro en B R c t z m es eg ng nl hv
  refine wpAny_Compare1 (wpAny_Name (wpAny_loadName_local (by rw [es]; exact hk) (show en.scope.names.lookup y = some .local by rw [es]; exact hy) nl hv ?_) d1)
  refine Calls.Name_function_global (by rw [es]; exact hk) (show en.scope.names.lookup g = some .globalImplicit by rw [es]; exact hg) (Calls.loadGlobal_global (by rw [eg]; exact ng) hm ?_) d2
  refine PyProof.Rows.in_str ⟨?_, keeps_refl _⟩
  show Value.bool (!(Builtin.Str.occurrences k ⟨#[c]⟩ 0 k.length 1).isEmpty) = Value.bool (decide (c ∈ k.cps.toList))
  rw [PySem.StrLaws.found_one k c]
section
variable {X : Cx} {pins : List (Addr × Obj)} {σ : L2.St} {H : Hp} {s : Shared}
theorem gen_text {c T : Addr} {tst src : Expr} {y : Str} {py pz : Pos} {sc : Scope} {f : Nat → Bool} {te : TE} {k : Nat} {Z : Value → Shared → Prop} {R : Str → Hp → Prop}
    (room : Room k X.A) (tab : TabB X.base X.mg c T) (cod : X.env.code = .ref c) (S : GenS X.env sc y) (he : PE X src te) (ht : EltM X.prog X.w X.mg sc y tst f)
    (fold : ∀ v, genFold src X.env v = pure v) (I : Inv X pins σ H s) (h : te σ H fun v H1 => ∃ z : Str, v = .str z ∧ TabG H1 T ∧ R z H1)
    (fin : ∀ z H1 g s', R z H1 → Ready X pins σ H1 T z f g s' → Z (.ref g) s') :
    wpAny (model X.prog X.w) X.A (eval (.GeneratorExp tst [⟨.Name y py, src, [], 0⟩] sc pz) X.env) Z X.xe s := by
  have dep : X.A.depth < recursionLimit := by
    have := room.dp
    omega
  refine wpAny_GeneratorExp_walksQ room.hd S.co (closure_ok S.free) S.cell S.dot S.loc S.kind dep (thn (he.run pins s σ H _ I h) ?_) fold
  rintro xv q ⟨v, J, IJ, rv, z, rfl, ⟨ps, atT, trip⟩, hR⟩
  obtain ⟨tz, rfl⟩ := id rv
  refine wpAny_pyIter_str fun itO St W st0 => ?_
  -- the table ahead of the code's making
  have tab1 : q.heap.get? T = some { cls := .none, data := .fields ps } := IJ.hok T _ atT
  have ltT : T < q.heap.objs.size := Heap.lt_size tab1
  have tab2 : (q.heap.push itO).get? T = some { cls := .none, data := .fields ps } := Heap.get?_push_of_some _ tab1
  have hd2 : PySem.W.CodeHd (q.heap.push itO) c T := tab.code.keeps fun b u e => Heap.get?_push_of_some _ (IJ.bk b u e)
  have noL : (q.heap.push itO).NoLimit := IJ.nolimit.push itO
  have nsM : (q.heap.push itO).Ns mainGlobals X.mg := (IJ.ok.mod.glob.keeps IJ.bk).push itO
  obtain ⟨mS, nsS, _⟩ := id IJ.nolimit
  have ltS : cStatics < q.heap.objs.size := nsS.lt
  have neS : cStatics ≠ T := fun e => by
    obtain ⟨o', es, ep, ho, hd, _⟩ := nsS
    rw [e, tab1] at ho
    cases ho
    cases hd
  have ltM : mainGlobals < q.heap.objs.size := (IJ.ok.mod.glob.keeps IJ.bk).lt
  have after : ∀ (cv : Value) (g : Heap) (n : Nat) (ps2 : Array Value), Heap.ExtBut T (q.heap.push itO) g → (q.heap.push itO).objs.size ≤ g.objs.size → g.get? T = some { cls := .none, data := .fields ps2 } → (∃ mo, ps2 = ps ++ mo) → TriplesOk ps2.toList →
      wpAny (model X.prog X.w) X.A (builtinsFor X.env.globals X.env.builtins) (fun bi r =>
        ∃ Ia fp wr n0 Pf St0 pz F, Value.ref q.heap.objs.size = .ref Ia ∧ (∀ B : Around, B.handled = none → Walks X.prog X.w B Ia fp wr n0 Pf St0) ∧ St0 0 r.heap ∧ (∀ b ∈ fp, b < r.heap.objs.size) ∧ r.heap.NoLimit ∧ cStatics ∉ wr ∧
          (∀ hr : Heap, (∀ b o, r.heap.get? b = some o → hr.get? b = some o) →
            QuietGen X.prog X.w (genEnv sc (cloFrom X.env.cells sc.names []) r.heap.objs.size cv bi X.env) y [] tst (List.range r.heap.objs.size) wr Pf pz F hr) ∧
          (∀ a h5 tk gs, gs.bare = true → r.heap.objs.size < a → h5.objs.size = a + 1 → (∀ b o, r.heap.get? b = some o → h5.get? b = some o) →
            WalksS X.prog X.w X.A.in4 a (a :: r.heap.objs.size :: List.range r.heap.objs.size) (r.heap.objs.size :: wr) (GenOnlyQ r.gens.size) (passing pz n0 0).length
              (fun j v => ∃ i, (passing pz n0 0)[j]? = some i ∧ F i v) (GenAt X.prog X.w X.A.in4 a r.gens.size r.heap.objs.size (List.range r.heap.objs.size) wr pz n0 F) →
            GenAt X.prog X.w X.A.in4 a r.gens.size r.heap.objs.size (List.range r.heap.objs.size) wr pz n0 F 0 { r with gens := r.gens.push gs, toks := tk, heap := h5 } →
            Z (.ref a) { r with gens := r.gens.push gs, toks := tk, heap := h5 })) X.xe { q with heap := g, toks := n } := by
    intro cv g n ps2 ext big tab3 more trip3
    obtain ⟨bm, ob, b1, b2, b3, b4, b5, b6, b7, b8⟩ := tab.bm
    have szP : (q.heap.push itO).objs.size = q.heap.objs.size + 1 := Heap.size_push ..
    have stays : ∀ b u, b ≠ T → q.heap.get? b = some u → g.get? b = some u := fun b u hb e => ext b u hb (Heap.get?_push_of_some _ e)
    have nsG : g.Ns mainGlobals X.mg := nsM.extBut ext tab.gP
    refine wpAny_builtinsFor (m := X.mg) (by rw [IJ.ok.glob]; exact nsG) b1 b2 (stays _ _ b4 (IJ.bk _ _ b5)) b6 b7 b8 ?_
    refine ⟨q.heap.objs.size, [q.heap.objs.size], [q.heap.objs.size], z.cps.size, SignAt z, St, fun _ => true, fun i v => ∃ cc, z.cps[i]? = some cc ∧ v = .bool (f cc), rfl, W, ?_, ?_, noL.extBut ext neS, ?_, ?_, ?_⟩
    · exact (W X.A room.hd).frame _ _ _ st0 fun b hb u e => ext b u (fun zb => Nat.ne_of_lt ltT (zb.symm.trans (List.mem_singleton.mp hb))) e
    · intro b hb
      rw [List.mem_singleton.mp hb]
      exact Nat.lt_of_lt_of_le (by omega) big
    · exact fun zb => Nat.ne_of_lt ltS (List.mem_singleton.mp zb)
    · intro hr hkeep
      refine ⟨fun B R' i v r m hB hP hn hm hk => ?_, fun B R' i v r m hB hP hp hn hm hk => ?_⟩
      · simp only [List.forIn_nil]
        exact wpAny_pure ⟨rfl, keeps_refl _⟩
      · obtain ⟨cc, u, hcc, rfl⟩ := hP
        have nsR : r.heap.Ns mainGlobals X.mg := (nsG.keeps hkeep).at fun o e => hk mainGlobals (List.mem_range.mpr (Nat.lt_of_lt_of_le (Nat.lt_trans ltM (by rw [szP]; exact Nat.lt_succ_self _)) big)) (fun zb => Nat.ne_of_lt ltM (List.mem_singleton.mp zb)) o e
        exact wpAny_mono (ht _ B R' cc u r m rfl IJ.ok.glob nsR hn hm) (fun v r' x => ⟨⟨cc, hcc, x.1⟩, x.2⟩) fun _ _ e => e
    · intro a h5 n5 gs bare lt5 sz5 keep5 W5 at5
      simp only [GxR.passing_true, List.length_range] at W5
      refine fin z J a _ hR ⟨_, _, _, _, _, W5.in4_1, at5, ?_, fun s' mv => ?_⟩
      · rintro j v sj Qj Ej ⟨i, hij, cc, hcc, rfl⟩ hQ
        obtain ⟨hj, ej⟩ := List.getElem?_eq_some_iff.mp hij
        rw [List.getElem_range] at ej
        subst ej
        have e9 : z.cps.toList[j]? = some cc := by rw [Array.getElem?_toList]; exact hcc
        have hQ2 : Qj (trF f z.cps.toList j) sj := hQ
        rw [trF_some e9] at hQ2
        exact wpAny_truthy_bool hQ2
      · obtain ⟨mo, em⟩ := more
        have off : ∀ b u, q.heap.get? b = some u → b ∉ g.objs.size :: [q.heap.objs.size] := fun b u e hb => by
          have hl : b < q.heap.objs.size := Heap.lt_size e
          rcases List.mem_cons.mp hb with zb | zb
          · have h9 : g.objs.size < q.heap.objs.size := zb ▸ hl
            exact absurd (Nat.lt_of_le_of_lt big h9) (by rw [szP]; exact Nat.not_lt.mpr (Nat.le_succ _))
          · exact Nat.ne_of_lt hl (List.mem_singleton.mp zb)
        have K := inv_tab (more := mo) (h' := s'.heap) (g' := s'.gens) (d' := s'.drawn) (t' := s'.toks) IJ atT (fun b u hb e => mv.heap b u (off b u e) (keep5 b u (stays b u hb e)))
          (by rw [← em]; exact mv.heap T _ (off T _ tab1) (keep5 T _ tab3)) (AllBare.movedS (IJ.bare.push bare) mv)
        rw [sh_eta q s' mv.os] at K
        exact ⟨upd J T (.tbl (ps ++ mo)), ⟨⟨ps ++ mo, upd_same, by rw [← em]; exact trip3⟩, fun b hb => upd_ne hb⟩, K⟩
  refine ⟨noL, ?_⟩
  cases hf : codeAmong pz ps.toList with
  | none =>
    refine wpAny_genexprCodeX cod (hd2.code tab2 trip) (hd2.tab tab2) hf fun c2 g n ext ge lt made _ made2 _ => ?_
    obtain ⟨o1, vs, f1, tf, fl, tg, inF, tx, tt, op, _, _, _, _, _, _, _, _, _, trip3, _⟩ := made
    exact after _ g n _ ext (Nat.le_trans ge (Nat.le_of_lt lt)) made2.2 ⟨_, rfl⟩ trip3
  | some cv =>
    exact wpAny_genexprCode_hit cod (hd2.code tab2 trip) hf (after cv _ q.toks ps (Heap.ExtBut.refl _ _) (Nat.le_refl _) tab2 ⟨#[], by simp⟩ trip)
theorem pe_allT {c T : Addr} {tst src : Expr} {y : Str} {py p pos pz : Pos} {sc : Scope} {f : Nat → Bool} {te : TE} {k : Nat}
    (room : Room k X.A) (hg : Gl X "all") (hm : X.mg "all" = none) (tab : TabB X.base X.mg c T) (cod : X.env.code = .ref c) (S : GenS X.env sc y) (hsrc : PE X src te) (ht : EltM X.prog X.w X.mg sc y tst f)
    (fold : ∀ v, genFold src X.env v = pure v)
    (star : starEach [.GeneratorExp tst [⟨.Name y py, src, [], 0⟩] sc pz] X.env = (false, eval (.GeneratorExp tst [⟨.Name y py, src, [], 0⟩] sc pz) X.env) :: starEach [] X.env := by rfl) :
    PE X (.Call (.Name "all" p) [.GeneratorExp tst [⟨.Name y py, src, [], 0⟩] sc pz] [] pos) (tAllS T f te) := by
  refine ⟨fun pins s σ H Q I h => wpAny_Call_Name_kw (ld_blt I hg hm boot_all (PyProof.Rows.callWith_builtin1 ?_ star (by rfl)))⟩
  rw [star]
  refine Calls.spliced_cons (gen_text (R := fun z J => ∀ J2, Tabbed T J J2 → Q (.bl (z.cps.toList.all f)) J2) room tab cod S hsrc ht fold I h ?_)
  rintro z J g s5 hR ⟨fp, wr, G, F, St, W, st0, truth, back⟩
  refine Calls.spliced_nil (call_all_walkS (W.self 0 _ _ _ st0 ⟨g, fp, wr, G, _, F, St, _, rfl, W, st0, truth, fun s' mv => ?_⟩))
  obtain ⟨J2, hT, IJ2⟩ := back s' mv
  exact ⟨.bl _, J2, IJ2, rfl, by rw [all_signs z f]; exact hR J2 hT⟩
end
theorem genS_of {env : Env} {sc : Scope} {y : Str} (h1 : sc.kind = .function) (h2 : sc.isCoroutine = false) (h3 : ∀ z ∈ sc.names, z.2 ≠ .cell) (h4 : sc.names.lookup (".0" : Str) = some NameKind.local) (h5 : sc.names.lookup y = some .local) (h6 : ∀ z ∈ sc.names, z.2 ≠ .free) : GenS env sc y :=
  ⟨h1, h2, h3, h4, h5, fun z hz e => absurd e (h6 z hz)⟩
/-! ### the table, hidden: what codes it holds is left open -/
def TabO (T : Addr) : HO := .ext fun h => ∃ ps : Array Value, TriplesOk ps.toList ∧ h.get? T = some { cls := .none, data := .fields ps }
section
variable {P : Program} {w : World} {K : PySem.W.Frag} {mg : Str → Option Value} {base : Heap} {H H' : Hp} {h h' : Heap} {T : Addr}
theorem tab_open (x : HOk P w H h) (e : H T = some (TabO T)) : ∃ ps : Array Value, TriplesOk ps.toList ∧ HOk P w (upd H T (.tbl ps)) h := by
  obtain ⟨⟨ps, tr, g⟩, _⟩ := (show ObjOk P w H h T (TabO T) from x T _ e)
  refine ⟨ps, tr, fun a o q => ?_⟩
  by_cases ha : a = T
  · subst ha
    rw [upd_same] at q
    cases q
    exact g
  · rw [upd_ne ha] at q
    exact (x a o q).stay (fun _ _ _ z => z) (fun c z => by rw [upd_ne (own_ne e z (fun _ y => by cases y))]; exact z) fun c xs z => by rw [upd_ne (own_ne e z (fun _ y => by cases y))]; exact z
theorem tab_close {ps : Array Value} (x : HOk P w H h) (e : H T = some (.tbl ps)) (tr : TriplesOk ps.toList) : HOk P w (upd H T (TabO T)) h := by
  have g := (show ObjOk P w H h T (.tbl ps) from x T _ e)
  have nt : ∀ c o, H c = some o → (∀ qs, o ≠ .tbl qs) → c ≠ T := fun c o z n y => by
    rw [y, e] at z
    exact n _ (Option.some.inj z).symm
  intro a o q
  by_cases ha : a = T
  · subst ha
    rw [upd_same] at q
    cases q
    exact ⟨⟨ps, tr, g⟩, ⟨_, g⟩, fun h1 h2 ⟨ps, tr, g⟩ k => ⟨ps, tr, k _ g⟩⟩
  · rw [upd_ne ha] at q
    exact (x a o q).stay (fun _ _ _ z => z) (fun c z => by rw [upd_ne (nt c _ z (fun _ y => by cases y))]; exact z) fun c xs z => by rw [upd_ne (nt c _ z (fun _ y => by cases y))]; exact z
end
end Vf
namespace Vf
open PySem PySem.Spec PyProof.Rows L2 Evl
/-! ### del xs[:-k] -/
section
variable {prog : Program} {w : World} {A : Around} {E : Value → Shared → Prop} {s : Shared}
def cutF (c n : Nat) : Array Value → Array Value := fun xs => (xs.toList.zipIdx.filterMap fun (x, k) => if (decide ((0 : Int) ≤ (k : Int)) && decide ((k : Int) < ((n - c : Nat) : Int)) && (((k : Int) - 0) % 1 == 0)) = true then none else some x).toArray
theorem del_bounds {c n : Nat} (hc : 0 < c) : sliceBounds none (some (-(c : Int))) none n = (0, ((n - c : Nat) : Int), 1) := by
  simp only [sliceBounds, Option.getD_none]
  have h2 : (-(c : Int)) < 0 := by omega
  simp only [h2, if_true, show (1 : Int) > 0 by decide]
  congr 1
  congr 1
  omega
theorem delItem_slice {l sl : Addr} {items : Array Value} {n : Nat} {vl vu : Value} {c : Nat} {Q : Unit → Shared → Prop}
    (e : s.heap.get? l = some { cls := .type "list", data := .seq items n }) (hs : s.heap.IsSliceOf sl vl vu .none) (pl : IsPart vl none) (pu : IsPart vu (some (-(c : Int)))) (hc : 0 < c)
    (hsz : items.size ≤ sizeLine) (hf : (cutF c items.size items).size ≤ sizeLine + 1) (h : Q () { s with heap := s.heap.update l (Obj.mapSeq (cutF c items.size)) }) :
    wpAny (model prog w) A (delItem (.ref l) (.ref sl)) Q E s := by
  have hl : s.heap.IsList l items := PySem.IsL.isList e
  obtain ⟨os, hos, hcs, hds⟩ := id hs
  have hTs : s.TypeIs (.ref sl) "slice" := ⟨os, hos, hcs⟩
  refine wpAny_delItem_slot hl.typeIs (by decide) PySem.F.slot_list_delitem (wpAny_call_entry PySem.F.slot_list_delitem hl.typeIs PySem.F.entry_list_delitem ?_ (PySem.F.args_list_delitem_2 _ _))
  show wpAny _ _ (Builtin.List.listSubscript? (.ref sl) >>= _) _ _ s
  refine wpAny_bind ?_
  unfold Builtin.List.listSubscript?
  refine wpAny_bind (wpAny_specialOf hTs slice_no_index ?_)
  simp only [Option.isNone_none, if_true]
  refine wpAny_pure ?_
  show wpAny _ _ (typeOf (.ref sl) >>= _) _ _ s
  refine wpAny_bind (wpAny_typeOf hTs ?_)
  rw [if_neg (by decide)]
  rw [listSliceParts_eq]
  refine wpAny_bind (wpAny_bind (wpAny_field hos hds (x := .none) rfl (wpAny_bind (wpAny_listPart .none ?_))))
  rw [if_neg (show ¬ ((rawPart none == rawInt 0) = true) from Bool.false_ne_true)]
  refine wpAny_bind (wpAny_field hos hds (x := vl) rfl (wpAny_bind (wpAny_listPart pl ?_)))
  refine wpAny_bind (wpAny_field hos hds (x := vu) rfl (wpAny_bind (wpAny_listPart pu (wpAny_pure ?_))))
  unfold Builtin.List.listItems
  refine wpAny_bind (wpAny_bind (wpAny_seqItems e rfl (wpAny_pure ?_)))
  refine wpAny_bind (wpAny_of_eq ((sliceIndices_raw none (some (-(c : Int))) none items.size (by simp)).trans (congrArg (pure : Int × Int × Int → Sem (Int × Int × Int)) (del_bounds hc))) ?_)
  refine wpAny_bind (wpAny_rule ?_)
  show wpAny _ _ (updateSeq l (cutF c items.size) >>= _) _ _ s
  refine wpAny_bind (wpAny_updateSeq (hz := hsz) (_hz' := hf) e rfl ?_)
  refine wpAny_bind (wpAny_letGo ?_)
  exact wpAny_pure ⟨.none, rfl, h⟩
theorem zip_drop (m : Nat) : ∀ (l : List Value) (j : Nat), (l.zipIdx j).filterMap (fun (x, k) => if (decide ((0 : Int) ≤ (k : Int)) && decide ((k : Int) < (m : Int)) && (((k : Int) - 0) % 1 == 0)) = true then none else some x) = l.drop (m - j)
  | [], j => by simp
  | x :: r, j => by
    rw [List.zipIdx_cons, List.filterMap_cons]
    by_cases h : j < m
    · have e : (decide ((0 : Int) ≤ (j : Int)) && decide ((j : Int) < (m : Int)) && (((j : Int) - 0) % 1 == 0)) = true := by
        rw [decide_eq_true (by omega), decide_eq_true (by omega)]
        simp
      simp only [e, if_true]
      rw [zip_drop m r (j + 1), show m - j = (m - (j + 1)) + 1 by omega, List.drop_succ_cons]
    · have e : ¬ (decide ((0 : Int) ≤ (j : Int)) && decide ((j : Int) < (m : Int)) && (((j : Int) - 0) % 1 == 0)) = true := by
        rw [decide_eq_false (show ¬ (j : Int) < (m : Int) by omega)]
        simp
      simp only [e, if_false]
      rw [zip_drop m r (j + 1), show m - j = 0 by omega, show m - (j + 1) = 0 by omega]
      rfl
theorem cutF_eq (c : Nat) (its : List Value) : cutF c its.toArray.size its.toArray = (its.drop (its.length - c)).toArray := by
  unfold cutF
  rw [zip_drop]
  simp
end
section
variable {X : Cx}
/-- the last c items are kept -/
def tDelS (to : TE) (th : TO) : TS := fun D σ H => to σ H fun x H1 => th σ H1 fun o H2 => ∃ (l : Addr) (xs : List V) (c : Nat), x = .ref l ∧ o = some (-(c : Int)) ∧ 0 < c ∧ H2 l = some (.lst xs) ∧ D.nx σ (upd H2 l (.lst (xs.drop (xs.length - c))))
theorem ps_delS {o : Expr} {hi : Option Expr} {to : TE} {th : TO} {p2 tpos pos : Pos} (ho : PE X o to) (hh : PO X hi th) : PS X (.Delete [.Subscript o (.Slice none hi none p2) tpos] pos) (tDelS to th) := by
  refine ⟨fun pins s σ H D I h => ?_⟩
  refine wpAny_Delete (wpAny_deleteEach_cons (wpAny_delete_Subscript (thn (ho.run pins s σ H _ I h) ?_)))
  rintro u sa ⟨x, Ha, Ia, rx, q⟩
  refine wpAny_Slice (thn (po_none.run pins sa σ Ha (fun o J => o = none ∧ J = Ha) Ia ⟨rfl, rfl⟩) ?_)
  rintro vl sb ⟨l0, Hb, Ib, pl, rfl, rfl⟩
  refine thn (hh.run pins sb σ Hb _ Ib q) ?_
  rintro vu sc ⟨o2, Hc, Ic, pu, l, xs, c, rfl, rfl, hc, hH, q2⟩
  rw [evalPart_none]
  refine wpAny_pure ?_
  have Id : Inv X pins σ Hc { sc with heap := sc.heap.push { cls := .type "slice", data := .fields #[vl, vu, .none] } } := Ic.kept (t' := sc.toks) fun b ob g => Heap.get?_push_of_some _ g
  cases (show u = Value.ref l from rx)
  obtain ⟨z, its, n, r, hl, e⟩ := Id.lstM hH
  have hlen := r.length
  refine delItem_slice (c := c) e (Heap.IsSliceOf.new ..) pl pu hc (by rw [List.size_toArray]; omega) ?_ ?_
  · rw [cutF_eq, List.size_toArray, List.length_drop]
    omega
  · have J := Id.lset (f := cutF c its.toArray.size) (its' := its.drop (its.length - c)) (ys := xs.drop (xs.length - c)) (t' := sc.toks) hH e (cutF_eq c its) (by rw [hlen]; exact r.drop _) (by rw [List.length_drop]; omega)
    exact wpAny_deleteEach_nil ⟨σ, _, J, q2⟩
end
end Vf
namespace Vf
open PySem PySem.Spec PyProof.Rows L2 Evl
/-! ### a method that may be called, a class that may be made -/
structure MCal (P : Program) (w : World) (K : PySem.W.Frag) (mg : Str → Option Value) (base : Heap) (C : Addr) (m : Str) (k : Nat) (ps : List Str) (sp : Sp) : Prop where
  ex : ∃ (f : Addr) (fd : FuncData), FnOk P w K mg base CX0 k f fd ps sp ∧ Meth K C m f ∧ Binds K fd ps []
structure NCal (P : Program) (w : World) (K : PySem.W.Frag) (mg : Str → Option Value) (base : Heap) (C : Addr) (x : Str) (k : Nat) (ps : List Str) (sp : Sp) : Prop where
  ex : ∃ (f : Addr) (fd : FuncData), FnOk P w K mg base CX0 k f fd ps sp ∧ Mk K C f ∧ mg x = some (.ref C) ∧ Binds K fd ps []
section
variable {X : Cx} {x m : Str} {k : Nat} {ps : List Str} {sp : Sp} {C : Addr} {o e : Expr} {es : List Expr} {ta : TE} {t : TA} {p apos pos : Pos}
theorem pmeth {pl : Sem Bool} (ho : PE X o ta) (c : Cls X.K C) (M : MCal X.prog X.w X.K X.mg X.base C m k ps sp) (hr : Room k X.A) (ha : PA X (e :: es) t)
    (hst : starEach (e :: es) X.env = (false, eval e X.env) :: starEach es X.env := by rfl) (hpl : (backTo pos (starEach es X.env)).any (·.1) = false := by rfl)
    (ht : eval (.Call (.Attribute o m apos) (e :: es) [] pos) X.env = (do
      let ov ← eval o X.env
      standAt apos.atName
      let (f, first) ← holding [ov] (getMethod ov m pl)
      callWith pos f first (backTo pos (starEach (e :: es) X.env)) (backToKw pos (keywordEach [] X.env))) := by rfl) :
    PE X (.Call (.Attribute o m apos) (e :: es) [] pos) (tMeth C m sp [] E0 ta t) := by
  obtain ⟨f, fd, F, hm, hb⟩ := M.ex
  exact pe_meth (pl := pl) ho c hm F hr hb .nil pass0 ha hst hpl ht
theorem pmeth0 {pl : Sem Bool} (ho : PE X o ta) (c : Cls X.K C) (M : MCal X.prog X.w X.K X.mg X.base C m k ps sp) (hr : Room k X.A)
    (ht : eval (.Call (.Attribute o m apos) [] [] pos) X.env = (do
      let ov ← eval o X.env
      standAt apos.atName
      let (f, first) ← holding [ov] (getMethod ov m pl)
      callWith pos f first (backTo pos (starEach [] X.env)) (backToKw pos (keywordEach [] X.env))) := by rfl) :
    PE X (.Call (.Attribute o m apos) [] [] pos) (tMeth C m sp [] E0 ta tNil) := by
  obtain ⟨f, fd, F, hm, hb⟩ := M.ex
  exact pe_meth0 (pl := pl) ho c hm F hr hb .nil pass0 ht
theorem pmake0 (M : NCal X.prog X.w X.K X.mg X.base C x k ps sp) (hr : Room (k + 1) X.A) (hg : Gl X x := by rfl)
    (hdb : (x == ("__debug__" : Str)) = false := by decide) : PE X (.Call (.Name x p) [] [] pos) (tMake C sp [] E0 tNil) := by
  obtain ⟨f, fd, F, hm, hmg, hb⟩ := M.ex
  exact pe_make0 hm F hr hg hmg hb .nil pass0 hdb
theorem pmake (M : NCal X.prog X.w X.K X.mg X.base C x k ps sp) (hr : Room (k + 1) X.A) (ha : PA X (e :: es) t) (hg : Gl X x := by rfl)
    (hdb : (x == ("__debug__" : Str)) = false := by decide) (he : starEach (e :: es) X.env = (false, eval e X.env) :: starEach es X.env := by rfl) (hpl : (backTo pos (starEach es X.env)).any (·.1) = false := by rfl) : PE X (.Call (.Name x p) (e :: es) [] pos) (tMake C sp [] E0 t) := by
  obtain ⟨f, fd, F, hm, hmg, hb⟩ := M.ex
  exact pe_make hm F hr hg hmg hb .nil pass0 ha hdb he hpl
end
/-! ### fields by name -/
theorem lk_hd {k : Str} {v : V} {r : List (Str × V)} : List.lookup k ((k, v) :: r) = some v := by
  rw [List.lookup_cons_self]
theorem lk_tl {k k' : Str} {v : V} {r : List (Str × V)} (h : (k == k') = false) : List.lookup k ((k', v) :: r) = List.lookup k r := by
  rw [List.lookup_cons, h]
theorem put_hd {k : Str} {v y : V} {r : List (Str × V)} : putF k v ((k, y) :: r) = (k, v) :: r := if_pos rfl
theorem put_tl {k k' : Str} {v y : V} {r : List (Str × V)} (h : ¬ k' = k) : putF k v ((k', y) :: r) = (k', y) :: putF k v r := if_neg h
theorem put_nil {k : Str} {v : V} : putF k v [] = [(k, v)] := rfl
/-! ### the last n of a list -/
def lst {α : Type} (n : Nat) (xs : List α) : List α := xs.drop (xs.length - n)
theorem lst_len {α : Type} {n : Nat} {xs : List α} : (lst n xs).length = min n xs.length := by
  unfold lst
  rw [List.length_drop]
  omega
theorem lst_le {α : Type} {n : Nat} {xs : List α} : (lst n xs).length ≤ n := by
  rw [lst_len]
  omega
theorem lst_all {α : Type} {n : Nat} {xs : List α} (h : xs.length ≤ n) : lst n xs = xs := by
  unfold lst
  rw [show xs.length - n = 0 by omega, List.drop_zero]
theorem lst_mem {α : Type} {n : Nat} {xs : List α} {x : α} (h : x ∈ lst n xs) : x ∈ xs := List.mem_of_mem_drop h
theorem lst_snoc {α : Type} {n : Nat} {xs : List α} {x : α} : lst n (lst n xs ++ [x]) = lst n (xs ++ [x]) := by
  unfold lst
  by_cases h : xs.length ≤ n
  · rw [show xs.length - n = 0 by omega, List.drop_zero]
  · by_cases h0 : n = 0
    · subst h0
      simp
    · have e1 : (xs.drop (xs.length - n) ++ [x]).length - n = 1 := by
        rw [List.length_append, List.length_drop, List.length_singleton]
        omega
      have e2 : (xs ++ [x]).length - n = xs.length - n + 1 := by
        rw [List.length_append, List.length_singleton]
        omega
      rw [e1, e2, List.drop_append_of_le_length (by rw [List.length_drop]; omega), List.drop_append_of_le_length (by omega), List.drop_drop]
theorem lst_map {α β : Type} {n : Nat} {xs : List α} {f : α → β} : lst n (xs.map f) = (lst n xs).map f := by
  unfold lst
  rw [List.length_map, List.map_drop]
/-! ### tuples stay -/
def TupEx (H H' : Hp) : Prop := ∀ a xs, H a = some (.tup xs) → H' a = some (.tup xs)
theorem TupEx.refl {H : Hp} : TupEx H H := fun _ _ h => h
theorem TupEx.trans {H H1 H2 : Hp} (h : TupEx H H1) (k : TupEx H1 H2) : TupEx H H2 := fun a xs e => k a xs (h a xs e)
theorem TupEx.ex {H H' : Hp} (e : Ex H H') : TupEx H H' := fun a xs h => e a _ h
theorem TupEx.lst {H : Hp} {l : Addr} {xs : List V} {o : HO} (h : H l = some (.lst xs)) : TupEx H (upd H l o) := fun a ys e => by
  rw [upd_ne (by rintro rfl; rw [h] at e; cases e)]
  exact e
theorem TupEx.ins {H : Hp} {l C dx : Addr} {fs : List (Str × V)} {o : HO} (h : H l = some (.ins C dx fs)) : TupEx H (upd H l o) := fun a ys e => by
  rw [upd_ne (by rintro rfl; rw [h] at e; cases e)]
  exact e
theorem TupEx.new {H : Hp} {l : Addr} {o : HO} (h : H l = none) : TupEx H (upd H l o) := TupEx.ex (Ex.new h)
/-- a list of values, each a tuple of these -/
def Tups (H : Hp) : List V → List (List V) → Prop
  | [], [] => True
  | v :: vs, x :: xs => (∃ a, v = .ref a ∧ H a = some (.tup x)) ∧ Tups H vs xs
  | _, _ => False
theorem Tups.mono {H H' : Hp} (e : TupEx H H') : ∀ {vs : List V} {xs : List (List V)}, Tups H vs xs → Tups H' vs xs
  | [], [], _ => trivial
  | v :: vs, x :: xs, h => ⟨by obtain ⟨a, h1, h2⟩ := h.1; exact ⟨a, h1, e _ _ h2⟩, Tups.mono e h.2⟩
  | [], _ :: _, h => h.elim
  | _ :: _, [], h => h.elim
theorem Tups.len {H : Hp} : ∀ {vs : List V} {xs : List (List V)}, Tups H vs xs → vs.length = xs.length
  | [], [], _ => rfl
  | v :: vs, x :: xs, h => by rw [List.length_cons, List.length_cons, Tups.len h.2]
  | [], _ :: _, h => h.elim
  | _ :: _, [], h => h.elim
theorem Tups.snoc {H : Hp} {a : Addr} {y : List V} (e : H a = some (.tup y)) : ∀ {vs : List V} {xs : List (List V)}, Tups H vs xs → Tups H (vs ++ [.ref a]) (xs ++ [y])
  | [], [], _ => ⟨⟨a, rfl, e⟩, trivial⟩
  | v :: vs, x :: xs, h => ⟨h.1, Tups.snoc e h.2⟩
  | [], _ :: _, h => h.elim
  | _ :: _, [], h => h.elim
theorem Tups.drop {H : Hp} : ∀ {vs : List V} {xs : List (List V)} (n : Nat), Tups H vs xs → Tups H (vs.drop n) (xs.drop n)
  | vs, xs, 0, h => h
  | [], [], n + 1, _ => trivial
  | v :: vs, x :: xs, n + 1, h => Tups.drop n h.2
  | [], _ :: _, _ + 1, h => h.elim
  | _ :: _, [], _ + 1, h => h.elim
theorem Tups.lst {H : Hp} {vs : List V} {xs : List (List V)} {n : Nat} (h : Tups H vs xs) : Tups H (vs.drop (vs.length - n)) (lst n xs) := by
  unfold Vf.lst
  rw [h.len]
  exact Tups.drop _ h
theorem Tups.get {H : Hp} : ∀ {vs : List V} {xs : List (List V)} {i : Nat} {v : V}, Tups H vs xs → vs[i]? = some v → ∃ a x, v = .ref a ∧ H a = some (.tup x) ∧ xs[i]? = some x
  | v :: vs, x :: xs, 0, u, h, e => by
    obtain ⟨a, h1, h2⟩ := h.1
    refine ⟨a, x, ?_, h2, rfl⟩
    rw [← h1]
    exact (Option.some.inj e).symm
  | v :: vs, x :: xs, i + 1, u, h, e => Tups.get (i := i) h.2 e
  | [], [], _, _, _, e => by cases e
  | [], _ :: _, _, _, h, _ => h.elim
  | _ :: _, [], _, _, h, _ => h.elim
end Vf
namespace Vf
open PySem PySem.Spec PyProof.Rows L2 Evl
/-! ### a text from behind -/
def tRevS (te : TE) : TE := fun σ H Q => te σ H fun x H1 => ∃ z : Str, x = .str z ∧ z.length ≤ sizeLine ∧ ∀ y : Str, y.length ≤ z.length → (∀ c ∈ y.cps.toList, c ∈ z.cps.toList) → Q (.str y) H1
theorem pick_mem {c : Array Nat} {l : List Nat} {x : Nat} (h : x ∈ l.filterMap fun i => c[i]?) : x ∈ c.toList := by
  obtain ⟨i, _, hi⟩ := List.mem_filterMap.mp h
  obtain ⟨h1, h2⟩ := Array.getElem?_eq_some_iff.mp hi
  rw [← h2]
  exact Array.mem_toList_iff.mpr (Array.getElem_mem h1)
section
variable {X : Cx}
theorem pe_revS {e : Expr} {te : TE} {k : Nat} {p1 p2 p3 pos : Pos} (he : PE X e te) : PE X (.Subscript e (.Slice none none (some (.UnaryOp .USub (.Constant (.int 1) k p1) p2)) p3) pos) (tRevS te) := by
  refine ⟨fun pins s σ H Q I h => Subscript_ (thn (he.run pins s σ H _ I h) ?_)⟩
  rintro v sa ⟨x, Ha, Ia, rx, z, rfl, hz, q⟩
  obtain ⟨t, rfl⟩ := id rx
  refine wpAny_Slice (thn (po_none.run pins sa σ Ha (fun o J => o = none ∧ J = Ha) Ia ⟨rfl, rfl⟩) ?_)
  rintro vl sb ⟨l, Hb, Ib, pl, rfl, rfl⟩
  refine thn (po_none.run pins sb σ Hb (fun o J => o = none ∧ J = Hb) Ib ⟨rfl, rfl⟩) ?_
  rintro vu sc ⟨u, Hc, Ic, pu, rfl, rfl⟩
  refine thn ((po_some (pe_un un_neg pe_int)).run pins sc σ Hc (fun o J => o = some (-1) ∧ J = Hc) Ic ⟨1, rfl, -1, rfl, rfl, rfl⟩) ?_
  rintro vs sd ⟨o, Hd, Id, ps, rfl, rfl⟩
  have Ie : Inv X pins σ Hd { sd with heap := sd.heap.push { cls := .type "slice", data := .fields #[vl, vu, vs] } } := Id.kept (t' := sd.toks) fun b ob g => Heap.get?_push_of_some _ g
  obtain ⟨l2, rfl, el⟩ := IsPart.raw pl
  obtain ⟨u2, rfl, eu⟩ := IsPart.raw pu
  obtain ⟨o2, rfl, eo⟩ := IsPart.raw ps
  have el2 : l2 = none := by cases l2 with | none => rfl | some _ => cases el
  have eu2 : u2 = none := by cases u2 with | none => rfl | some _ => cases eu
  subst el2 eu2
  show wpAny (model X.prog X.w) X.A (subscriptTail e (.Slice none none (some (.UnaryOp .USub (.Constant (.int 1) k p1) p2)) p3) (.str z t) (.ref sd.heap.objs.size)) (EP X pins σ Q) X.xe _
  refine tail_any (ops := [.ref sd.heap.objs.size, .str z t]) (typeIs_str _ _ _) PySem.F.slot_str_getitem.lookup ?_ (by with_unfolding_all rfl)
  refine wpAny_getItem_str_slice (l := none) (u := none) (st := o2) ⟨_, Heap.get?_push_size _ rfl, rfl, rfl⟩ (by rw [eo]; rfl) ?_
  have hlen : (Builtin.Str.strSliceIndices none none (-1) z.length).length = z.length := by rw [PyProof.Rows.picked_rev, List.length_map, List.length_range]
  have hpick : slicePicked z none none o2 = Builtin.Str.strSliceIndices none none (-1) z.length := by
    unfold slicePicked
    rw [eo]
    rfl
  have hm : sliceMade z t none none o2 = Made.str ⟨((Builtin.Str.strSliceIndices none none (-1) z.length).filterMap fun i => z.cps[i]?).toArray⟩ := by
    unfold sliceMade
    rw [hpick, eo]
    rfl
  rw [hm]
  have h1 : (⟨((Builtin.Str.strSliceIndices none none (-1) z.length).filterMap fun i => z.cps[i]?).toArray⟩ : Str).length ≤ z.length := by
    show (List.toArray _).size ≤ _
    rw [List.size_toArray]
    exact Nat.le_trans (List.length_filterMap_le _ _) (Nat.le_of_eq hlen)
  refine ⟨Nat.le_trans h1 hz, .str _, Hd, Ie.tok _, ⟨_, rfl⟩, q _ h1 fun c hc => ?_⟩
  have e : (⟨((Builtin.Str.strSliceIndices none none (-1) z.length).filterMap fun i => z.cps[i]?).toArray⟩ : Str).cps.toList = (Builtin.Str.strSliceIndices none none (-1) z.length).filterMap fun i => z.cps[i]? := by simp
  rw [e] at hc
  exact pick_mem hc
end
/-! ### how often a sign stands in a text; what it cuts off -/
theorem count_sg (z : Str) (c : Nat) : Txt.count z (sg c) = ((z.cps.toList.count c : Nat) : Int) := by
  have h : ∀ l : List Nat, cnt c l = ((l.count c : Nat) : Int) := fun l => by
    induction l with
    | nil => rfl
    | cons n r ih =>
      rw [cnt_cons, ih, List.count_cons]
      by_cases e : n = c
      · subst e
        simp
        omega
      · have e2 : (n == c) = false := by simpa using e
        rw [if_neg e, e2]
        simp
  rw [← h]
  exact count_cnt z c
theorem first_cut {c : Nat} {l : List Nat} (h : c ∈ l) : ∃ a r, l = a ++ c :: r ∧ c ∉ a := by
  obtain ⟨a, r, e, n⟩ := List.eq_append_cons_of_mem h
  exact ⟨a, r, e, n⟩
theorem cut2 {c : Nat} {l : List Nat} (h : l.count c = 2) : ∃ a b d, l = a ++ c :: (b ++ c :: d) ∧ c ∉ a ∧ c ∉ b ∧ c ∉ d := by
  obtain ⟨a, r, e, n⟩ := first_cut (c := c) (l := l) (List.count_pos_iff.mp (by omega))
  subst e
  rw [List.count_append, List.count_eq_zero.mpr n, List.count_cons_self] at h
  obtain ⟨b, d, e2, n2⟩ := first_cut (c := c) (l := r) (List.count_pos_iff.mp (by omega))
  subst e2
  rw [List.count_append, List.count_eq_zero.mpr n2, List.count_cons_self] at h
  exact ⟨a, b, d, rfl, n, n2, List.count_eq_zero.mp (by omega)⟩
theorem kind1 {x : Str} {c : Nat} (hc : c < 256) : ¬ Builtin.Str.strKind x < Builtin.Str.strKind (sg c) := TL.kind_ok (by
  show (#[c] : Array Nat).all (fun x => decide (x < 256)) = true
  simp [hc])
theorem split3 {c : Nat} (hc : c < 256) {a b d : List Nat} (h1 : c ∉ a) (h2 : c ∉ b) (h3 : c ∉ d) : Txt.split (txt (a ++ c :: (b ++ c :: d))) (sg c) = [txt a, txt b, txt d] := by
  refine TL.map_tl_inj ?_
  rw [TL.split_spl _ _ (fun h => nomatch (show ([c] : List Nat) = [] from h)) (kind1 hc)]
  have e : TL.tl (txt (a ++ c :: (b ++ c :: d))) = a ++ ([c] ++ (b ++ ([c] ++ d))) := (txt_cps _).trans (by simp)
  rw [e]
  show TL.spl [c] 0 [] (a ++ (c :: [] ++ (b ++ (c :: [] ++ d)))) = _
  rw [TL.spl_part1 h1, TL.spl_part1 h2, TL.spl_last1 h3]
  show [[] ++ a, [] ++ b, [] ++ d] = [(txt a).cps.toList, (txt b).cps.toList, (txt d).cps.toList]
  rw [txt_cps, txt_cps, txt_cps]
  rfl
theorem split_join_back (x : Str) (c : Nat) : Txt.join (sg c) (Txt.split x (sg c)) = x := by
  rw [TL.join_eq]
  exact StrLaws.join_split x (sg c)
/-- the parts are short and made of the text's signs -/
theorem split_parts (x : Str) (c : Nat) : (Txt.split x (sg c)).length ≤ x.length + 1 ∧ ∀ z ∈ Txt.split x (sg c), z.length ≤ x.length ∧ ∀ k ∈ z.cps.toList, k ∈ x.cps.toList := by
  have w := PyProof.Rows.split_weight x (sg c) (by show 1 ≤ 1; decide)
  have key : ∀ (ps : List Str), (ps.map (fun z => z.length)).sum + ps.length ≤ x.length + 1 → ∀ z ∈ ps, z.length ≤ x.length := fun ps h z hz => by
    have h2 : z.length ≤ (ps.map (fun z => z.length)).sum := by
      clear h
      induction ps with
      | nil => cases hz
      | cons p r ih =>
        rw [List.map_cons, List.sum_cons]
        rcases List.mem_cons.mp hz with rfl | hz
        · omega
        · have := ih hz
          omega
    have h3 : 1 ≤ ps.length := List.length_pos_of_mem hz
    omega
  refine ⟨by omega, fun z hz => ⟨key _ w z hz, fun k hk => ?_⟩⟩
  have e : x.cps.toList = TL.joinL [c] ((Txt.split x (sg c)).map TL.tl) := by
    have h := congrArg TL.tl (split_join_back x c)
    rw [TL.join_eq, TL.tl_join] at h
    exact h.symm
  rw [e]
  have gen : ∀ (ps : List (List Nat)) (p : List Nat), p ∈ ps → k ∈ p → k ∈ TL.joinL [c] ps := fun ps => by
    induction ps with
    | nil => exact fun p hp => nomatch hp
    | cons q r ih =>
      intro p hp hk
      cases r with
      | nil =>
        have : p = q := by simpa using hp
        subst this
        simpa [TL.joinL] using hk
      | cons q2 r2 =>
        have goal : TL.joinL [c] (q :: q2 :: r2) = q ++ ([c] ++ TL.joinL [c] (q2 :: r2)) := by simp [TL.joinL]
        rw [goal]
        rcases List.mem_cons.mp hp with rfl | hp
        · exact List.mem_append_left _ hk
        · exact List.mem_append_right _ (List.mem_append_right _ (ih p hp hk))
  exact gen _ (TL.tl z) (List.mem_map.mpr ⟨z, hz, rfl⟩) hk
end Vf
namespace Vf
open PySem PySem.Spec PyProof.Rows L2 Evl GxR
section
variable {P : Program} {w : World} {K : PySem.W.Frag} {mg : Str → Option Value} {base : Heap} {H H' : Hp} {h h' : Heap} {T : Addr}
/-- a def that may let the table grow and changes nothing else: with the table hidden it changes nothing -/
theorem tab_fn {k : Nat} {f : Addr} {fd : FuncData} {ps : List Str} {sp sp' : Sp} (F : FnOk P w K mg base CX0 k f fd ps sp) (hl : ∀ vs H Q E, sp' vs H Q E → vs.length = ps.length)
    (hs : ∀ vs H Q E, sp' vs H Q E → H T = some (TabO T) ∧ ∀ qs : Array Value, TriplesOk qs.toList → sp vs (upd H T (.tbl qs)) (fun v H3 => Tabbed T (upd H T (.tbl qs)) H3 ∧ Q v H) E) : FnOk P w K mg base CX0 k f fd ps sp' := by
  refine ⟨hl, fun A outer s H args us vs Q E hr e0 hb hv h => ?_⟩
  obtain ⟨hT, hq⟩ := hs vs H Q E h
  obtain ⟨qs, tr, ok⟩ := tab_open e0.hok hT
  have off : ∀ c, H c = none → c ≠ T := fun c n e => by
    rw [e, hT] at n
    cases n
  have offS : ∀ c o, H c = some o → (∀ φ, o ≠ .ext φ) → c ≠ T := fun c o q n => own_ne hT q n
  have e1 : Env0 P w K mg base A outer s (upd H T (.tbl qs)) := ⟨e0.frames, e0.mod, fun c o g => ⟨(e0.bs c o g).1, by rw [upd_ne (off c (e0.bs c o g).2)]; exact (e0.bs c o g).2⟩, e0.bsz, e0.funs, fun c g => by rw [upd_ne (off c (e0.frf c g))]; exact e0.frf c g, ok, e0.bare⟩
  refine codeAny_mono (F.run A outer s _ args us vs _ E hr e1 hb hv (hq qs tr)) fun r s' hr => ?_
  cases r with
  | error e => exact hr
  | ok fl =>
    cases fl with
    | ret u =>
      obtain ⟨v, H3, os, bare, un, hok, rv, ⟨⟨ps3, t3, tr3⟩, keep⟩, q⟩ := hr
      have back : upd H3 T (TabO T) = H := by
        funext c
        by_cases hc : c = T
        · rw [hc, upd_same, hT]
        · rw [upd_ne hc, keep c hc, upd_ne hc]
      have ok3 := tab_close hok t3 tr3
      rw [back] at ok3
      refine ⟨v, H, os, bare, ⟨fun c o g n => un.keep c o g (by rw [upd_ne (off c n)]; exact n), fun c o g n => un.slot c o g (by rw [upd_ne (off c n)]; exact n), fun c o g n _ => n, un.there, fun c xs g => g, fun c o u g => g, fun c qs g => ⟨#[], by rw [g]; simp⟩⟩, ok3, rv, q⟩
    | next => exact hr
    | brk => exact hr
    | cont => exact hr
/-- the other way round, where the table is empty at the start and known at the end -/
theorem tab_law {k : Nat} {f : Addr} {fd : FuncData} {ps : List Str} {sp sp' : Sp} (F : FnOk P w K mg base CX0 k f fd ps sp) (hl : ∀ vs H Q E, sp' vs H Q E → vs.length = ps.length)
    (hs : ∀ vs H Q E, sp' vs H Q E → H T = some (.tbl #[]) ∧ sp vs (upd H T (TabO T)) (fun v H3 => H3 T = some (TabO T) ∧ ∀ H4, Q v H4) E) : FnOk P w K mg base CX0 k f fd ps sp' := by
  refine ⟨hl, fun A outer s H args us vs Q E hr e0 hb hv h => ?_⟩
  obtain ⟨hT, hq⟩ := hs vs H Q E h
  have ok : HOk P w (upd H T (TabO T)) s.heap := tab_close e0.hok hT (show TriplesOk [] from True.intro)
  have off : ∀ c, H c = none → c ≠ T := fun c n e => by
    rw [e, hT] at n
    cases n
  have offS : ∀ c o, H c = some o → (∀ qs, o ≠ .tbl qs) → c ≠ T := fun c o q n e => by
    rw [e, hT] at q
    exact n _ (Option.some.inj q).symm
  have e1 : Env0 P w K mg base A outer s (upd H T (TabO T)) := ⟨e0.frames, e0.mod, fun c o g => ⟨(e0.bs c o g).1, by rw [upd_ne (off c (e0.bs c o g).2)]; exact (e0.bs c o g).2⟩, e0.bsz, e0.funs, fun c g => by rw [upd_ne (off c (e0.frf c g))]; exact e0.frf c g, ok, e0.bare⟩
  refine codeAny_mono (F.run A outer s _ args us vs _ E hr e1 hb hv hq) fun r s' hr => ?_
  cases r with
  | error e => exact hr
  | ok fl =>
    cases fl with
    | ret u =>
      obtain ⟨v, H3, os, bare, un, hok, rv, hT3, q⟩ := hr
      obtain ⟨qs, tr, ok3⟩ := tab_open hok hT3
      refine ⟨v, upd H3 T (.tbl qs), os, bare, ⟨fun c o g n => un.keep c o g (by rw [upd_ne (off c n)]; exact n), fun c o g n => un.slot c o g (by rw [upd_ne (off c n)]; exact n), fun c o g n hx => ?_, un.there, fun c xs g => ?_, fun c o u g => ?_, fun c qs2 g => ?_⟩, ok3, rv, q _⟩
      · rw [upd_ne (off c n)]
        exact un.free c o g (by rw [upd_ne (off c n)]; exact n) hx
      · have d := offS c _ g (fun _ z => by cases z)
        rw [upd_ne d]
        exact un.tups c xs (by rw [upd_ne d]; exact g)
      · have d := offS c _ g (fun _ z => by cases z)
        rw [upd_ne d]
        exact un.frzs c o u (by rw [upd_ne d]; exact g)
      · by_cases hc : c = T
        · subst hc
          rw [hT] at g
          cases g
          exact ⟨qs, by rw [upd_same]; simp⟩
        · rw [upd_ne hc]
          exact un.tbls c qs2 (by rw [upd_ne hc]; exact g)
    | next => exact hr
    | brk => exact hr
    | cont => exact hr
end
theorem tabIn_of {K : PySem.W.Frag} {x : Str} {f c T : Addr} {oc e1 : Value} {od e2 : Option Addr} {sl e3 : Array (Option Value)} {fd : FuncData} {vs : Array Value} (a : PySem.W.nsIn K mainGlobals x = some (some (.ref f))) (l : K.lookup f = some ⟨oc, od, .func fd, sl⟩)
    (hc : fd.code = .ref c) (lc : K.lookup c = some ⟨e1, e2, .fields vs, e3⟩) (v : vs[11]? = some (.ref T)) : PySem.W.tabIn K x = some (c, T) := by
  unfold PySem.W.tabIn
  rw [a]
  simp only [l, hc, lc, v]
/-- the law's own end, where one def's table of codes is told -/
theorem walk_tab {l : PySem.W.OpenLaw} {n k : Nat} {q : Program} {loose : List Str} {XP : (Str → Option Value) → Heap → Prop} {YP : World → Heap → Prop} {d dy : DefRec} {K : Params → PySem.W.Frag} {x y : Str} {sp : Addr → PySem.W.Frag → Sp}
    (hn : l.most = some n) (hn2 : n ≤ sizeLine) (hdf : d.params.defaults = []) (room : Room k callerA) (hrec : (recsOf q).find? (fun e => e.name == y) = some dy)
    (hY : ∀ (w : World) (h : Heap), YP w h → (K w.params).In h)
    (F : ∀ (w : World) (mg : Str → Option Value) (fa : Addr) (h : Heap), (K w.params).In h → h.Ns mainGlobals mg → mg d.name = some (.ref fa) → ∃ (c T : Addr) (fd : FuncData), PySem.W.tabIn (K w.params) y = some (c, T) ∧ (K w.params).lookup T = none ∧
      (∀ (s : Shared) (u : Value), BindsTo s fd ⟨[u], []⟩ [(x, u)]) ∧ ∀ base : Heap, (K w.params).In base → base.Ns mainGlobals mg → TabB base mg c T → FnOk l.prog w (K w.params) mg base CX0 k fa fd [x] (sp T (K w.params)))
    (hsp : ∀ (T : Addr) (K : PySem.W.Frag) (H : Hp) (a : Addr) (ns : List Int), ns.length ≤ n → H T = some (.tbl #[]) → SqL K H a (ns.map V.int) → sp T K [.ref a] H (fun v _ => v = .bl true) fun _ _ _ => False) :
    PySem.W.WalkO q loose XP YP l.row.toRowW d [] (fun f vs => PySem.call f vs) := by
  refine Att.attach_callB hn hdf fun w s0 s1 mg mb fa o pm cd doc a vs ns top inY eo ed ec em ea areI short bits gens => ?_
  have inK := hY w _ inY
  obtain ⟨c, T, fd, tabk, noT, binds, hF⟩ := F w mg fa _ inK top.T.g em
  obtain ⟨hd, emp⟩ := PySem.W.tab_of top.T inK hrec tabk
  exact LamX.law_callTs (cs := [(c, T)]) inK top.T.g top.T.b top.T.builtins top.T.nolimit gens (fun p hp => by rw [List.mem_singleton.mp hp]; exact emp) (fun p hp => by rw [List.mem_singleton.mp hp]; exact noT) (fun p hp => by rw [List.mem_singleton.mp hp]; exact hd)
    top.T.bmain ea areI (Nat.le_trans short hn2) room (fun base h1 h2 h3 => hF base h1 h2 (let z := h3 (c, T) (List.mem_singleton.mpr rfl); ⟨z.code, z.bm, z.gP⟩)) binds (fun H hH hS => hsp T _ H a ns short (hH (c, T) (List.mem_singleton.mpr rfl)) hS) fun H e s' z => z
end Vf
namespace Vf
open PySem PySem.Spec PyProof.Rows L2 Evl
/-! ### enumerate of a text -/
def Ites (x : Str) : It :=
  ⟨fun i _ => i < x.cps.size, fun i H v H' => ∃ T c, v = .ref T ∧ H T = none ∧ x.cps[i]? = some c ∧ H' = upd H T (.tup [.int (i : Nat), .str ⟨#[c]⟩]), fun i _ => x.cps.size ≤ i⟩
theorem turn_enumS {P : Program} {w : World} {K : PySem.W.Frag} {elts : List Expr} {kk : Nat} {tpos : Pos} (x : Str) (t : Tok) (e it : Addr) :
    Turn P w K (.Tuple elts kk tpos) (Ites x) [e, it] e (fun i h => (∃ old, IsEnum h e it ((i : Nat) : Int) old) ∧ h.IsStrIter it (strIterType x) x t i ∧ e ≠ it ∧ i ≤ x.cps.size) where
  mem := by simp
  obj := fun i h st b hb => by
    obtain ⟨⟨old, he⟩, ⟨o, ho, hc, hd⟩, _⟩ := st
    have e' : b = e ∨ b = it := by simpa using hb
    rcases e' with z | z
    · rw [z]; exact ⟨_, he, fun v q => nomatch q⟩
    · rw [z]; exact ⟨o, ho, fun v q => by rw [hd] at q; cases q⟩
  keep := fun i h h' st k => by
    obtain ⟨⟨old, he⟩, ⟨o, ho, hr⟩, hne, hle⟩ := st
    exact ⟨⟨old, k e (by simp) _ he⟩, ⟨o, k it (by simp) _ ho, hr⟩, hne, hle⟩
  item := by
    intro X hP hw hK hc i pins s σ H E I hf st hg
    subst hP hw hK
    obtain ⟨⟨old, he⟩, hit, hne, hle⟩ := st
    have hg : i < x.cps.size := hg
    have hel : e < s.heap.objs.size := Heap.lt_size he
    have hil : it < s.heap.objs.size := by obtain ⟨_, q, _⟩ := hit; exact Heap.lt_size q
    refine wpAny_pyNext_enum_itemD (Draws.text (A := X.A.in1) (I.ok.hd hc) it x t) he hit hg hne (by simpa using hne) fun v h' tk hv ho hit' hT hsz hk => ?_
    obtain ⟨c, u, hcx, rfl⟩ := hv
    refine ⟨_, rfl, wpAny_letOwnedTupleGo_enum (s := { s with heap := h', toks := tk + 1 }) ho fun h'' he' sb => ?_⟩
    have hT2 : h''.get? s.heap.objs.size = some { cls := .type "tuple", data := .seq #[.int i tk, .str ⟨#[c]⟩ u] } := (sb.2 _ (Nat.ne_of_gt hel)).trans hT
    have new : ObjOk X.prog X.w (upd H s.heap.objs.size (.tup [.int (i : Nat), .str ⟨#[c]⟩])) h'' s.heap.objs.size (.tup [.int (i : Nat), .str ⟨#[c]⟩]) :=
      ⟨by show 2 ≤ sizeLine; decide, [.int i tk, .str ⟨#[c]⟩ u], .cons ⟨_, rfl⟩ (.cons ⟨_, rfl⟩ .nil), ⟨_, hT2, rfl, _, rfl⟩⟩
    have I1 : Inv X pins σ (upd H s.heap.objs.size (.tup [.int (i : Nat), .str ⟨#[c]⟩])) { s with heap := h'', toks := tk + 1 } :=
      I.turnedNew (ch := [e, it]) (fun b ob hb q => (sb.2 b (fun z => hb (by simp [z]))).trans (hk b ob (fun z => hb (by simp [z])) (fun z => hb (by simp [z])) q)) hf (Nat.le_refl _) new
    refine ⟨.ref s.heap.objs.size, _, I1, rfl, ⟨_, c, rfl, I.hok.fresh (Nat.le_refl _), hcx, rfl⟩, ⟨⟨.str ⟨#[c]⟩ u, ?_⟩, ?_, hne, hg⟩, fun b hb => ?_⟩
    · have e1 : ((i + 1 : Nat) : Int) = (i : Int) + 1 := by omega
      rw [e1]; exact he'
    · obtain ⟨o, ho2, hr⟩ := hit'
      exact ⟨o, (sb.2 it (Ne.symm hne)).trans ho2, hr⟩
    · have hb' : b < s.heap.objs.size := by
        have e' : b = e ∨ b = it := by simpa using hb
        rcases e' with z | z
        · rw [z]; exact hel
        · rw [z]; exact hil
      rw [upd_ne (Nat.ne_of_lt hb')]
      exact (hf b hb).1
  done := by
    intro X hP hw hK hc i pins s σ H E I hf st hg
    subst hP hw hK
    obtain ⟨⟨old, he⟩, hit, hne, hle⟩ := st
    have hg : x.cps.size ≤ i := hg
    have ei : i = x.cps.size := by omega
    subst ei
    obtain ⟨f0, f1, f2, f3, f4, f5⟩ := hf it (by simp)
    exact wpAny_pyNext_enum_endD (Draws.text (A := X.A.in1) (I.ok.hd hc) it x t) he hit fun h' eb => ⟨rfl, I.turned (t' := s.toks) (fun b o hb q => eb b o hb q) f0 f1 f3 f4 f5⟩
  self := fun A i s Q E st h => let ⟨⟨_, he⟩, _⟩ := st; wpAny_pyIter_enum he h
def iEnumS (ta : TA) : TI := fun σ H R => ta σ H fun vs H1 => ∃ x, vs = [.str x] ∧ R (Ites x) H1
theorem pi_enumS {X : Cx} {e : Expr} {ta : TA} {p pos tpos : Pos} {elts : List Expr} {kk : Nat} (hg : Gl X "enumerate") (hm : X.mg "enumerate" = none) (ha : PA X [e] ta) (hs : starEach [e] X.env = [(false, eval e X.env)] := by rfl) :
    PI X (.Tuple elts kk tpos) (.Call (.Name "enumerate" p) [e] [] pos) (iEnumS ta) := by
  refine ⟨fun pins s σ H R I h => ?_⟩
  refine Call_ (ld_blt I hg hm boot_enumerate (PyProof.Rows.callWith_type1 (thn (ha.run pos pins s σ H _ I h) fun us s1 ⟨vs, H1, I1, r1, q1⟩ => ?_) hs rfl))
  obtain ⟨x, ex, q⟩ := q1
  subst ex
  cases r1 with
  | cons r rr =>
    cases rr
    obtain ⟨t, rfl⟩ := r
    refine call_enumerate_str fun h' he hit hsz hk => wpAny_pyIter_enum he ?_
    have I2 : Inv X pins σ H1 { s1 with heap := h' } := I1.kept (t' := s1.toks) hk
    refine ⟨s1.heap.objs.size + 1, [s1.heap.objs.size + 1, s1.heap.objs.size], _, _, H1, rfl, I2, turn_enumS x t (s1.heap.objs.size + 1) s1.heap.objs.size, ⟨⟨.none, he⟩, hit, Nat.succ_ne_self _, Nat.zero_le _⟩, fun b hb => ?_, q⟩
    have e' : b = s1.heap.objs.size + 1 ∨ b = s1.heap.objs.size := by simpa using hb
    have hle : s1.heap.objs.size ≤ b := by
      rcases e' with z | z
      · rw [z]; exact Nat.le_add_right _ _
      · rw [z]; exact Nat.le_refl _
    exact I1.fpOk hle (I1.hok.fresh hle)
theorem walk_enumS {z : Str} : Walk (Ites z) z.cps.size (fun _ => True) (fun i H v H' => ∃ T c, v = .ref T ∧ H T = none ∧ z.cps[i]? = some c ∧ H' = upd H T (.tup [.int (i : Nat), .str ⟨#[c]⟩])) :=
  ⟨fun _ _ hi _ => hi, fun _ _ => Nat.le_refl _, fun _ _ _ _ _ _ y => y⟩
end Vf
namespace Vf
open PySem PySem.Spec PyProof.Rows L2 Evl
/-! ### a, *b = a list -/
def gStarL (K : PySem.W.Frag) (n i : Nat) (t : TGs) : TG := fun v σ H Q => ∃ a xs, v = .ref a ∧ SqL K H a xs ∧ i < n ∧ n ≤ xs.length + 1 ∧
  ∀ D, H D = none → t (xs.take i ++ [.ref D] ++ (xs.drop i).drop (xs.length + 1 - n)) σ (upd H D (.lst ((xs.drop i).take (xs.length + 1 - n)))) Q
theorem vals_take {xs : List V} {its : List Value} (r : Vals xs its) : ∀ n : Nat, Vals (xs.take n) (its.take n) := by
  induction r with
  | nil => intro n; cases n <;> exact .nil
  | cons h _ ih =>
    intro n
    cases n with
    | zero => exact .nil
    | succ n => exact .cons h (ih n)
theorem vals_drop {xs : List V} {its : List Value} (r : Vals xs its) : ∀ n : Nat, Vals (xs.drop n) (its.drop n) := by
  induction r with
  | nil => intro n; cases n <;> exact .nil
  | cons h r ih =>
    intro n
    cases n with
    | zero => exact .cons h r
    | succ n => exact ih n
section
variable {X : Cx} {pos : Pos}
open PySem.W in
theorem pg_starL {es es' : List Expr} {k : Nat} {t : TGs} {n i : Nat} (hc : X.calm = true) (h : PGs X es' t)
    (hn : (assignEach es X.env).length = n := by rfl) (hst : (assignEach es X.env).findIdx? (·.1) = some i := by rfl) (he : (assignEach es X.env).map (·.2) = (assignEach es' X.env).map (·.2) := by rfl) : PG X (.Tuple es k pos) (gStarL X.K n i t) := by
  refine ⟨fun pins s σ H v u Q I r hw => ?_⟩
  obtain ⟨a, xs, e1, hq, hi, hlen, hw⟩ := hw
  subst e1
  cases r
  obtain ⟨its, rv, pl, hz⟩ := I.list hq
  have hl : s.heap.IsList a its.toArray := by
    obtain ⟨o, m, e, c, d, q⟩ := pl
    exact ⟨o, e, c, m, q⟩
  have hle : xs.length = its.length := rv.length
  have hlt : a ≠ s.heap.objs.size := by obtain ⟨o, ho, _⟩ := hl; exact Nat.ne_of_lt (Heap.lt_size ho)
  have hsz : its.toArray.size = its.length := by simp
  rw [PyProof.Rows.assign_Tuple]
  refine wpAny_bind (wpAny_standAt ?_)
  unfold unpack
  rw [hn, hst, he]
  refine wpAny_bind (wpAny_holding ?_)
  unfold unpackItems
  refine wpAny_bind ?_
  unfold notIterableAtAll
  refine wpAny_bind (wpAny_specialOf hl.typeIs slot_list_iter.lookup ?_)
  refine wpAny_pure ?_
  simp only [Bool.false_eq_true, if_false]
  refine wpAny_bind (wpAny_holding (wpAny_pyIter_list hl ?_))
  refine wpAny_bind (wpAny_holding (kun_draw hlt i 0 _ _ ⟨_, Heap.get?_push_size _ rfl, rfl, rfl⟩ (hl.push _) (by omega) fun h₁ hit₁ hs₁ => ?_))
  have hl₁ : h₁.IsList a its.toArray := (hl.push _).extBut hs₁.extBut hlt
  rw [Nat.zero_add] at hit₁
  have hit₁' := hit₁
  obtain ⟨oi, hoi, _⟩ := hit₁'
  have hl₁' := hl₁
  obtain ⟨ol, hol, _⟩ := hl₁'
  rw [List.drop_zero]
  have hfl : (its.toArray.toList.take i).length = i := by rw [List.length_take, Array.length_toList]; omega
  rw [if_neg (show ¬ ((its.toArray.toList.take i).length < i) by rw [hfl]; omega)]
  refine wpAny_bind (wpAny_holding (kun_collect (s := { s with heap := h₁ }) (T := "list_iterator") (.inr (.inr (.inl rfl))) (Walks.list (A := X.A.in1) (I.ok.hd hc) s.heap.objs.size a hlt its.toArray) (fun j u st => st.1.typeIs) (k := i) (by omega) ⟨hit₁, hl₁⟩ (Heap.lt_size hoi) (Heap.lt_size hol) (fun h₂ tk hk => ?_) (by rw [hsz, ← hle]; exact hz)))
  have hrl : (its.toArray.toList.drop i).length = its.length - i := by rw [List.length_drop, Array.length_toList, hsz]
  have hmid : (its.toArray.toList.drop i).length - (n - 1 - i) = xs.length + 1 - n := by rw [hrl]; omega
  show wpAny _ _ (if (its.toArray.toList.drop i).length < n - 1 - i then _ else _) _ _ _
  rw [if_neg (by rw [hrl]; omega)]
  show wpAny _ _ (newList ((its.toArray.toList.drop i).take ((its.toArray.toList.drop i).length - (n - 1 - i))) >>= fun d => pure (its.toArray.toList.take i ++ [d] ++ (its.toArray.toList.drop i).drop ((its.toArray.toList.drop i).length - (n - 1 - i)))) _ _ _
  rw [hmid]
  have hx : Heap.ExtBut s.heap.objs.size s.heap h₂ := fun b o hb e => hk b o hb (hs₁.extBut b o hb (Heap.get?_push_of_some _ e))
  have I1 : Inv X pins σ H { s with heap := h₂, toks := tk } := I.kept (t' := tk) fun b o e => hx b o (Nat.ne_of_lt (Heap.lt_size e)) e
  refine wpAny_bind (wpAny_newList (s := { s with heap := h₂, toks := tk }) (wpAny_pure ?_))
  have hf : H h₂.objs.size = none := I1.hok.fresh (Nat.le_refl _)
  have rm : Vals ((xs.drop i).take (xs.length + 1 - n)) ((its.toArray.toList.drop i).take (xs.length + 1 - n)) := by
    have : its.toArray.toList = its := by simp
    rw [this]
    exact vals_take (vals_drop rv i) _
  have I2 := I1.laid (h' := h₂.push { cls := .type "list", data := .seq ((its.toArray.toList.drop i).take (xs.length + 1 - n)).toArray }) (a := h₂.objs.size) (o := .lst ((xs.drop i).take (xs.length + 1 - n))) (t' := tk) (fun b u e => Heap.get?_push_of_some _ e) (Nat.le_refl _)
    ⟨Nat.le_trans (by rw [List.length_take, List.length_drop]; omega) hz, _, 0, rm, Heap.get?_push_size _ rfl⟩
  refine h.run pins _ σ _ _ _ Q I2 ?_ (hw _ hf)
  have : its.toArray.toList = its := by simp
  rw [this]
  exact ((vals_take rv i).append (Paired.cons (show RelV (.ref h₂.objs.size) (.ref h₂.objs.size) from rfl) Paired.nil)).append (vals_drop (vals_drop rv i) _)
end
/-! ### the text of a number or of a text -/
section
variable {X : Cx}
theorem call_str_any : CallR X (.type "str") (fun xs H Q => (∃ i, xs = [.int i] ∧ i.natAbs.log2 < 1920 ∧ Q (.str (Str.ofString (toString i))) H) ∨ ∃ a, xs = [.str a] ∧ Q (.str a) H) := by
  intro pins s σ H xs us Q I r h
  rcases h with h | h
  · exact call_str_int pins s σ H xs us Q I r h
  · exact SkE.call_str_str pins s σ H xs us Q I r h
end
end Vf
namespace Vf
open PySem PySem.Spec PyProof.Rows L2 Evl
/-! ### a written table from texts to numbers, asked by get -/
def TabRows : List DictEntry → List (Str × Int) → Prop
  | [], [] => True
  | e :: r, (x, v) :: q => (∃ t u, e.key = .str x t ∧ e.val = .int v u) ∧ TabRows r q
  | _, _ => False
structure KTab (K : PySem.W.Frag) (w : World) (a : Addr) (tbl : List (Str × Int)) : Prop where
  ex : ∃ es n, K.lookup a = some ⟨.type "dict", none, .dict es n, #[]⟩ ∧ PySem.W.KeysLit w.params es.toList ∧ TabRows es.toList tbl ∧ (a == sysModules) = false
def tabV (tbl : List (Str × Int)) (z : Str) : V := match tbl.lookup z with
  | some v => .int v
  | none => .non
theorem tab_find {z : Str} : ∀ {l : List DictEntry} {tbl : List (Str × Int)}, TabRows l tbl → RelV (tabV tbl z) (((l.find? (fun e => Value.isStrOf z e.key)).map (·.val)).getD .none)
  | [], [], _ => rfl
  | e :: r, (x, v) :: q, h => by
    obtain ⟨⟨t, u, hk, hv⟩, h⟩ := h
    have ih := tab_find (z := z) h
    unfold tabV at ih ⊢
    rw [List.find?_cons, List.lookup_cons]
    have e1 : Value.isStrOf z e.key = (x == z) := by rw [hk]; rfl
    by_cases c : x = z
    · subst c
      rw [e1]
      simp only [beq_self_eq_true]
      show RelV (.int v) _
      rw [Option.map_some, Option.getD_some, hv]
      exact ⟨_, rfl⟩
    · have c1 : (x == z) = false := beq_eq_false_iff_ne.mpr c
      have c2 : (z == x) = false := beq_eq_false_iff_ne.mpr fun k => c k.symm
      rw [e1, c1, c2]
      exact ih
  | [], _ :: _, h => h.elim
  | _ :: _, [], h => h.elim
def tKG (K : PySem.W.Frag) (w : World) (tbl : List (Str × Int)) (td ty : TE) : TE := fun σ H Q => td σ H fun x H1 => ∃ a, x = .ref a ∧ KTab K w a tbl ∧ ty σ H1 fun y H2 => ∃ z, y = .str z ∧ Q (tabV tbl z) H2
section
variable {X : Cx} {o e : Expr} {apos cpos : Pos} {td ty : TE} {tbl : List (Str × Int)}
theorem pe_kget1 (ho : PE X o td) (he : PE X e ty) (m : M1 X o "get" apos e cpos) : PE X (.Call (.Attribute o "get" apos) [e] [] cpos) (tKG X.K X.w tbl td ty) := by
  refine ⟨fun pins s σ H Q I h => ?_⟩
  refine wpAny_Call_method m.base m.few m.line PySem.F.plainAttrs_dict PySem.F.slot_dict_get PySem.F.type_dict_get (thn (ho.run pins s σ H _ I h) fun u s1 ⟨x, H1, I1, rx, a, ex, d, q1⟩ => ?_)
  subst ex
  obtain rfl : u = Value.ref a := rx
  obtain ⟨es, n, hl, hk, hr, hs⟩ := d.ex
  refine ⟨(PySem.W.mapOf_K (prog := X.prog) (w := X.w) I1.kIn hl hk).typeIs, fun b q => ?_, ?_⟩
  · cases q
    exact ⟨_, I1.kIn _ _ hl, rfl⟩
  · rw [m.trees]
    refine Calls.callWith_builtin rfl (Calls.evalArgs_plain (Calls.spliced_cons (thn (he.run pins s1 σ H1 _ I1 q1) fun iv s2 ⟨y, H2, I2, ry, z, ez, q2⟩ => Calls.spliced_nil ?_)))
    subst ez
    obtain ⟨t, rfl⟩ := ry
    have mm := PySem.W.mapOf_K (prog := X.prog) (w := X.w) I2.kIn hl hk
    refine call_meetsIn PySem.F.slot_dict_get mm.typeIs PySem.F.entry_dict_get (PySem.F.args_dict_get_2 _ _) (meets_dict_get (strKind X.prog X.w) a (strKind_is X.prog X.w z t) hs) ⟨_, mm, tabV tbl z, H2, I2.tok _, ?_, q2⟩
    have q := tab_find (z := z) hr
    have e2 : findBy Value.isStrOf es z = ((es.toList.find? (fun e => Value.isStrOf z e.key)).map (·.val)) := by
      unfold findBy
      rw [← Array.find?_toList]
    rw [e2]
    exact q
end
section
variable {X : Cx} {x : Str} {pos : Pos}
theorem pgR {a : Addr} (h : X.mg x = some (.ref a)) (hg : Gl X x := by rfl) (hdb : (x == ("__debug__" : Str)) = false := by decide) : PE X (.Name x pos) (tC (.ref a)) := pe_glob hg h rfl hdb
end
end Vf
namespace Vf
open PySem PySem.Spec PyProof.Rows L2 Evl
/-! ### a text cut at its first signs of a kind -/
/-- where c stands in l (which begins at place i), the first m of them -/
def places (c : Nat) : Nat → Nat → List Nat → List Nat
  | 0, _, _ => []
  | _ + 1, _, [] => []
  | m + 1, i, x :: r => if x = c then i :: places c m (i + 1) r else places c (m + 1) (i + 1) r
def cutA (c : Nat) : Nat → List Nat → List Nat → List (List Nat)
  | 0, acc, l => [acc ++ l]
  | _ + 1, acc, [] => [acc]
  | m + 1, acc, x :: r => if x = c then acc :: cutA c m [] r else cutA c (m + 1) (acc ++ [x]) r
theorem sub_sg {z : Str} {c i : Nat} : Builtin.Str.subAt z (sg c) i = true ↔ z.cps.toList[i]? = some c := by
  have hne : TL.tl (sg c) ≠ [] := fun h => nomatch (show ([c] : List Nat) = [] from h)
  have key := TL.at_iff (x := z) hne i
  constructor
  · intro h
    have hl : i + 1 ≤ z.length := by
      have h2 : (z.cps.extract i (i + (sg c).length) == (sg c).cps) = true := h
      have h3 := congrArg Array.size (eq_of_beq h2)
      rw [Array.size_extract] at h3
      have h4 : (sg c).cps.size = 1 := rfl
      have h5 : (sg c).length = 1 := rfl
      have h6 : z.length = z.cps.size := rfl
      rw [h4, h5] at h3
      omega
    have q := key.mp ⟨hl, h⟩
    obtain ⟨r, e⟩ := (pre1 c _).mp q
    have e2 : z.cps.toList.drop i = c :: r := e
    have := congrArg (fun l : List Nat => l[0]?) e2
    simpa using this
  · intro h
    have hi : i < z.cps.toList.length := by
      rcases Nat.lt_or_ge i z.cps.toList.length with k | k
      · exact k
      · rw [List.getElem?_eq_none k] at h
        cases h
    have e : z.cps.toList.drop i = c :: z.cps.toList.drop (i + 1) := by
      rw [List.drop_eq_getElem_cons hi]
      rw [List.getElem?_eq_getElem hi] at h
      rw [Option.some.inj h]
    exact (key.mpr ((pre1 c _).mpr ⟨_, e⟩)).2
theorem occ_places (z : Str) (c lim : Nat) : ∀ (l : List Nat) (i : Nat) (acc : Array Nat) (free : Nat), z.cps.toList.drop i = l → i ≤ z.length → free ≤ i → acc.size ≤ lim →
    (forIn (List.range' i (l.length + 1)) (acc, free) (StrLaws.occBody z (sg c) z.length lim)).run.fst.toList = acc.toList ++ places c (lim - acc.size) i l
  | [], i, acc, free, hd, hi, hf, hs => by
    have hz : i = z.length := by
      have := congrArg List.length hd
      rw [List.length_drop, str_len] at this
      simp at this
      omega
    have e : List.range' i (([] : List Nat).length + 1) = [i] := rfl
    rw [e, List.forIn_cons]
    unfold StrLaws.occBody
    rw [if_neg (by
      rintro ⟨⟨_, k⟩, _⟩
      have : (sg c).length = 1 := rfl
      omega)]
    show acc.toList = _
    cases lim - acc.size <;> simp [places]
  | x :: r, i, acc, free, hd, hi, hf, hs => by
    have hlen : r.length + 1 = z.length - i := by
      have := congrArg List.length hd
      rw [List.length_drop, str_len] at this
      rw [List.length_cons] at this
      omega
    have hx : z.cps.toList[i]? = some x := by
      have := congrArg (fun l : List Nat => l[0]?) hd
      simpa using this
    have hr : z.cps.toList.drop (i + 1) = r := by
      have := congrArg (fun l : List Nat => l.drop 1) hd
      rw [List.drop_drop] at this
      simpa using this
    have e : List.range' i ((x :: r).length + 1) = i :: List.range' (i + 1) (r.length + 1) := rfl
    rw [e, List.forIn_cons]
    unfold StrLaws.occBody
    have s1 : (sg c).length = 1 := rfl
    by_cases hc : x = c
    · subst hc
      by_cases hm : acc.size < lim
      · rw [if_pos ⟨⟨⟨hm, hf⟩, by omega⟩, sub_sg.mpr hx⟩]
        have ih := occ_places z x lim r (i + 1) (acc.push i) (i + (sg x).length) hr (by omega) (by omega) (by rw [Array.size_push]; omega)
        refine ih.trans ?_
        rw [Array.size_push, Array.toList_push]
        obtain ⟨m, em⟩ : ∃ m, lim - acc.size = m + 1 := ⟨lim - acc.size - 1, by omega⟩
        have em2 : lim - (acc.size + 1) = m := by omega
        rw [em, em2]
        show _ = acc.toList ++ (if x = x then i :: places x m (i + 1) r else _)
        rw [if_pos rfl]
        simp
      · rw [if_neg (by rintro ⟨⟨⟨k, _⟩, _⟩, _⟩; exact hm k)]
        have ih := occ_places z x lim r (i + 1) acc free hr (by omega) (by omega) hs
        refine ih.trans ?_
        have em : lim - acc.size = 0 := by omega
        rw [em]
        cases r <;> rfl
    · rw [if_neg (by
        rintro ⟨_, k⟩
        have := sub_sg.mp k
        rw [hx] at this
        exact hc (Option.some.inj this))]
      have ih := occ_places z c lim r (i + 1) acc free hr (by omega) (by omega) hs
      refine ih.trans ?_
      cases lim - acc.size with
      | zero => cases r <;> rfl
      | succ m =>
        show _ = acc.toList ++ (if x = c then _ else places c (m + 1) (i + 1) r)
        rw [if_neg hc]
theorem occ_first (z : Str) (c lim : Nat) : Builtin.Str.occurrences z (sg c) 0 z.length lim = places c lim 0 z.cps.toList := by
  rw [StrLaws.occ_eq]
  have h := occ_places z c lim z.cps.toList 0 #[] 0 (by simp) (Nat.zero_le _) (Nat.le_refl _) (Nat.zero_le _)
  rw [str_len] at h
  have e : z.length + 1 - 0 = z.length + 1 := rfl
  rw [e, h]
  simp
theorem parts_cut (z : Str) (c : Nat) : ∀ (l : List Nat) (m a i : Nat), z.cps.toList.drop i = l → a ≤ i → i ≤ z.length →
    (StrLaws.partsFrom z 1 a (places c m i l)).map TL.tl = cutA c m ((z.cps.toList.drop a).take (i - a)) l := by
  have whole : ∀ (l : List Nat) (a i : Nat), z.cps.toList.drop i = l → a ≤ i → i ≤ z.length → TL.tl (Builtin.Str.strSub z a z.length) = (z.cps.toList.drop a).take (i - a) ++ l := fun l a i hd ha hi => by
    rw [TL.tl_strSub_end]
    show z.cps.toList.drop a = _
    rw [← hd, show z.cps.toList.drop i = (z.cps.toList.drop a).drop (i - a) by rw [List.drop_drop]; congr 1; omega, List.take_append_drop]
  intro l
  induction l with
  | nil =>
    intro m a i hd ha hi
    cases m with
    | zero =>
      show [TL.tl (Builtin.Str.strSub z a z.length)] = [_ ++ []]
      rw [whole [] a i hd ha hi]
    | succ m =>
      show [TL.tl (Builtin.Str.strSub z a z.length)] = [_]
      rw [whole [] a i hd ha hi, List.append_nil]
  | cons x r ih =>
    intro m a i hd ha hi
    have hlen : r.length + 1 = z.length - i := by
      have := congrArg List.length hd
      rw [List.length_drop, str_len] at this
      rw [List.length_cons] at this
      omega
    have hr : z.cps.toList.drop (i + 1) = r := by
      have := congrArg (fun l : List Nat => l.drop 1) hd
      rw [List.drop_drop] at this
      simpa using this
    cases m with
    | zero =>
      show [TL.tl (Builtin.Str.strSub z a z.length)] = [_ ++ (x :: r)]
      rw [whole (x :: r) a i hd ha hi]
    | succ m =>
      show (StrLaws.partsFrom z 1 a (if x = c then i :: places c m (i + 1) r else places c (m + 1) (i + 1) r)).map TL.tl = if x = c then _ :: cutA c m [] r else cutA c (m + 1) (_ ++ [x]) r
      by_cases hc : x = c
      · rw [if_pos hc, if_pos hc]
        show TL.tl (Builtin.Str.strSub z a i) :: (StrLaws.partsFrom z 1 (i + 1) (places c m (i + 1) r)).map TL.tl = _
        rw [ih m (i + 1) (i + 1) hr (Nat.le_refl _) (by omega), TL.tl_strSub, Nat.sub_self, List.take_zero]
      · rw [if_neg hc, if_neg hc, ih (m + 1) a (i + 1) hr (by omega) (by omega)]
        congr 1
        have e1 : i + 1 - a = (i - a) + 1 := by omega
        rw [e1, List.take_add_one]
        congr 1
        rw [List.getElem?_drop, show a + (i - a) = i by omega]
        have hx : z.cps.toList[i]? = some x := by
          have := congrArg (fun l : List Nat => l[0]?) hd
          simpa using this
        rw [hx]
        rfl
theorem splitMax_cut (z : Str) {c : Nat} (hc : c < 256) (m : Nat) : (Txt.splitMax z (sg c) (m : Nat)).map TL.tl = cutA c m [] z.cps.toList := by
  have e0 : PySem.limitOf z ((m : Nat) : Int) = m := by
    unfold PySem.limitOf
    rw [if_neg (by omega), Int.toNat_natCast]
  have key := parts_cut z c z.cps.toList m 0 0 (by simp) (Nat.le_refl _) (Nat.zero_le _)
  rw [Nat.sub_zero, List.take_zero] at key
  have hp := StrLaws.partsBetween_eq z (places c m 0 z.cps.toList) 1
  have one : (places c m 0 z.cps.toList) = [] → [z].map TL.tl = cutA c m [] z.cps.toList := fun h => by
    rw [h] at key
    rw [← key]
    show [TL.tl z] = [TL.tl (Builtin.Str.strSub z 0 z.length)]
    rw [TL.tl_strSub_end, List.drop_zero]
  unfold Txt.splitMax
  rw [e0, occ_first]
  by_cases h1 : (decide (z.length < (sg c).length) || decide (Builtin.Str.strKind z < Builtin.Str.strKind (sg c))) = true
  · rw [if_pos h1]
    refine one ?_
    have hk := kind1 (x := z) hc
    rw [decide_eq_false hk, Bool.or_false] at h1
    have h2 := of_decide_eq_true h1
    have s1 : (sg c).length = 1 := rfl
    have h3 : z.cps.toList = [] := by
      rw [← List.length_eq_zero_iff, str_len]
      omega
    rw [h3]
    cases m <;> rfl
  · rw [if_neg h1]
    by_cases h2 : (places c m 0 z.cps.toList).isEmpty = true
    · rw [if_pos h2]
      exact one (List.isEmpty_iff.mp h2)
    · rw [if_neg h2]
      have s1 : (sg c).length = 1 := rfl
      rw [s1, hp]
      exact key
theorem cut_len (c : Nat) : ∀ (l : List Nat) (m : Nat) (acc : List Nat), (cutA c m acc l).length ≤ m + 1 := by
  intro l
  induction l with
  | nil => intro m acc; cases m <;> simp [cutA]
  | cons x r ih =>
    intro m acc
    cases m with
    | zero => simp [cutA]
    | succ m =>
      unfold cutA
      by_cases h : x = c
      · rw [if_pos h, List.length_cons]
        have := ih m []
        omega
      · rw [if_neg h]
        exact ih _ _
theorem cut_free {c : Nat} : ∀ {p : List Nat} {m : Nat} {acc r : List Nat}, c ∉ p → cutA c (m + 1) acc (p ++ c :: r) = (acc ++ p) :: cutA c m [] r
  | [], m, acc, r, _ => by
    show (if c = c then acc :: cutA c m [] r else _) = _
    rw [if_pos rfl, List.append_nil]
  | x :: p, m, acc, r, h => by
    show (if x = c then _ else cutA c (m + 1) (acc ++ [x]) (p ++ c :: r)) = _
    rw [if_neg (fun e => h (by rw [e]; exact List.mem_cons_self)), cut_free (fun k => h (List.mem_cons_of_mem _ k))]
    simp
end Vf
namespace Vf
open PySem PySem.Spec PyProof.Rows L2 Evl
/-! ### fields by their places in a list of names -/
def plc (k : Str) : List Str → Option Nat
  | [] => none
  | x :: r => if x == k then some 0 else (plc k r).map (· + 1)
def zf (keys : List Str) (vals : List V) : List (Str × V) := keys.zip vals
theorem plc_cons {k x : Str} {r : List Str} {i : Nat} (h : plc k (x :: r) = some i) : (x = k ∧ i = 0) ∨ (¬ x = k ∧ ∃ j, plc k r = some j ∧ i = j + 1) := by
  unfold plc at h
  by_cases e : x = k
  · subst e
    rw [beq_self_eq_true, if_pos rfl] at h
    exact .inl ⟨rfl, (Option.some.inj h).symm⟩
  · rw [if_neg (by rw [beq_eq_false_iff_ne.mpr e]; simp)] at h
    cases e2 : plc k r with
    | none => rw [e2] at h; cases h
    | some j =>
      rw [e2] at h
      exact .inr ⟨e, j, rfl, (Option.some.inj h).symm⟩
theorem plc_none {k x : Str} {r : List Str} (h : plc k (x :: r) = none) : ¬ x = k ∧ plc k r = none := by
  unfold plc at h
  by_cases e : x = k
  · subst e
    rw [beq_self_eq_true, if_pos rfl] at h
    cases h
  · rw [if_neg (by rw [beq_eq_false_iff_ne.mpr e]; simp)] at h
    cases e2 : plc k r with
    | none => exact ⟨e, rfl⟩
    | some j => rw [e2] at h; cases h
theorem zf_get {k : Str} : ∀ {keys : List Str} {vals : List V} {i : Nat} {v : V}, plc k keys = some i → vals[i]? = some v → (zf keys vals).lookup k = some v
  | [], vals, i, v, h, _ => by cases h
  | x :: r, [], i, v, h, e => by cases e
  | x :: r, y :: vals, i, v, h, e => by
    rcases plc_cons h with ⟨rfl, rfl⟩ | ⟨hn, j, hj, rfl⟩
    · cases e
      exact lk_hd
    · refine (lk_tl (beq_eq_false_iff_ne.mpr fun z => hn z.symm)).trans ?_
      exact zf_get (keys := r) (vals := vals) hj e
theorem zf_no {k : Str} : ∀ {keys : List Str} {vals : List V}, plc k keys = none → (zf keys vals).lookup k = none
  | [], vals, _ => rfl
  | x :: r, [], _ => rfl
  | x :: r, y :: vals, h => by
    obtain ⟨hn, h2⟩ := plc_none h
    exact (lk_tl (beq_eq_false_iff_ne.mpr fun z => hn z.symm)).trans (zf_no (keys := r) (vals := vals) h2)
theorem zf_put {k : Str} {v : V} : ∀ {keys : List Str} {vals : List V} {i : Nat}, plc k keys = some i → i < vals.length → putF k v (zf keys vals) = zf keys (vals.set i v)
  | [], vals, i, h, _ => by cases h
  | x :: r, [], i, h, e => by cases e
  | x :: r, y :: vals, i, h, e => by
    rcases plc_cons h with ⟨rfl, rfl⟩ | ⟨hn, j, hj, rfl⟩
    · exact put_hd
    · refine (put_tl hn).trans ?_
      have := zf_put (v := v) (keys := r) (vals := vals) hj (by simpa using e)
      show (x, y) :: putF k v (zf r vals) = _
      rw [this]
      rfl
theorem zf_add {k : Str} {v : V} : ∀ {keys : List Str} {vals : List V}, plc k keys = none → keys.length = vals.length → putF k v (zf keys vals) = zf (keys ++ [k]) (vals ++ [v])
  | [], [], _, _ => rfl
  | [], _ :: _, _, e => by cases e
  | x :: r, [], _, e => by cases e
  | x :: r, y :: vals, h, e => by
    obtain ⟨hn, h2⟩ := plc_none h
    refine (put_tl hn).trans ?_
    have := zf_add (v := v) (keys := r) (vals := vals) h2 (by simpa using e)
    show (x, y) :: putF k v (zf r vals) = _
    rw [this]
    rfl
theorem zf_short {keys : List Str} {vals : List V} (h : keys.length < 1000) : (zf keys vals).length < 1000 := by
  unfold zf
  rw [List.length_zip]
  omega
/-- none of these is an attribute of the class -/
def NoAll (K : PySem.W.Frag) (C : Addr) : List Str → Prop
  | [] => True
  | x :: r => NoAttr K C x ∧ NoAll K C r
theorem NoAll.get {K : PySem.W.Frag} {C : Addr} {k : Str} : ∀ {keys : List Str} {i : Nat}, NoAll K C keys → plc k keys = some i → NoAttr K C k
  | [], i, _, h => by cases h
  | x :: r, i, n, h => by
    rcases plc_cons h with ⟨rfl, rfl⟩ | ⟨_, j, hj, rfl⟩
    · exact n.1
    · exact NoAll.get n.2 hj
structure ClsN (K : PySem.W.Frag) (C : Addr) (keys : List Str) : Prop where
  cl : Cls K C
  no : NoAll K C keys
section
variable {X : Cx} {e : Expr} {f : Str} {ta : TE} {pos : Pos}
theorem pe_fldK (K : PySem.W.Frag) (he : PE X e ta) (hb : attributeBase e f X.env (eval e X.env) = eval e X.env) (hK : X.K = K := by rfl) : PE X (.Attribute e f pos) (tFld K ta f) := by
  subst hK
  exact pe_fld he hb
theorem call_lenK (K : PySem.W.Frag) (hK : X.K = K := by rfl) : CallR X (.builtin "len") (fun xs H Q => ∃ p ys, xs = [.ref p] ∧ (SqL K H p ys ∨ SqT K H p ys) ∧ Q (.int ys.length) H) := by
  subst hK
  exact call_len_seq
theorem op_in_seqK (K : PySem.W.Frag) (hK : X.K = K := by rfl) : OpR X (compareOp .In) (rIn K false) := by
  subst hK
  exact op_in_seq
theorem op_notIn_seqK (K : PySem.W.Frag) (hK : X.K = K := by rfl) : OpR X (compareOp .NotIn) (rIn K true) := by
  subst hK
  exact op_notIn_seq
end
/-! ### things with places of their own -/
structure Thing (A : List Addr → Hp → Prop) : Prop where
  stay : ∀ fp H H', A fp H → TupEx H H' → (∀ a ∈ fp, H' a = H a) → A fp H'
  at_ : ∀ fp H, A fp H → ∀ a ∈ fp, ∃ o, H a = some o ∧ ∀ xs, o ≠ .tup xs
def Beh (A : List Addr → Hp → Prop) (H0 H : Hp) : Prop := Ex H0 H ∧ ∃ fp, (∀ a ∈ fp, H0 a = none) ∧ A fp H
def outOf (H : Hp) (fp : List Addr) : Hp := fun a => if a ∈ fp then none else H a
theorem outOf_ex {H : Hp} {fp : List Addr} : Ex (outOf H fp) H := fun a o h => by
  unfold outOf at h
  by_cases e : a ∈ fp
  · rw [if_pos e] at h
    cases h
  · rw [if_neg e] at h
    exact h
theorem outOf_in {H : Hp} {fp : List Addr} {a : Addr} (h : a ∈ fp) : outOf H fp a = none := if_pos h
theorem outOf_out {H : Hp} {fp : List Addr} {a : Addr} (h : a ∉ fp) : outOf H fp a = H a := if_neg h
theorem exf {H H' : Hp} {a : Addr} (e : Ex H H') (n : H' a = none) : H a = none := fresh_back e n
theorem ex_outOf {H0 H : Hp} {fp : List Addr} (e : Ex H0 H) (n : ∀ a ∈ fp, H0 a = none) : Ex H0 (outOf H fp) := fun a o h => by
  rw [outOf_out (fun k => by rw [n a k] at h; cases h)]
  exact e a o h
section
variable {A B : List Addr → Hp → Prop} {Hb H0 H1 H H' : Hp} {R : Addr} {o : HO}
theorem Beh.ex (T : Thing A) (h : Beh A H0 H) (e : Ex H H') : Beh A H0 H' := by
  obtain ⟨x, fp, n, a⟩ := h
  refine ⟨x.trans e, fp, n, T.stay _ _ _ a (TupEx.ex e) fun b hb => ?_⟩
  obtain ⟨o, ho, _⟩ := T.at_ _ _ a b hb
  rw [ho]
  exact e _ _ ho
theorem Beh.swap (TA : Thing A) (TB : Thing B) (h1 : Beh A Hb H1) (h2 : Beh B H1 H) : ∃ H1', Beh B Hb H1' ∧ Beh A H1' H := by
  obtain ⟨x1, fa, na, a⟩ := h1
  obtain ⟨x2, fb, nb, b⟩ := h2
  have apart : ∀ y ∈ fb, y ∉ fa := fun y hy hz => by
    obtain ⟨o, ho, _⟩ := TA.at_ _ _ a y hz
    rw [nb y hy] at ho
    cases ho
  refine ⟨outOf H fa, ⟨fun y o hy => ?_, fb, fun y hy => exf x1 (nb y hy), TB.stay _ _ _ b (fun y xs hy => ?_) fun y hy => if_neg (apart y hy)⟩, outOf_ex, fa, fun y hy => if_pos hy, TA.stay _ _ _ a (TupEx.ex x2) fun y hy => ?_⟩
  · have : y ∉ fa := fun hz => by
      rw [na y hz] at hy
      cases hy
    show (if y ∈ fa then none else H y) = some o
    rw [if_neg this]
    exact x2 _ _ (x1 _ _ hy)
  · have : y ∉ fa := fun hz => by
      obtain ⟨o, ho, hn⟩ := TA.at_ _ _ a y hz
      rw [x2 _ _ ho] at hy
      exact hn xs (Option.some.inj hy)
    show (if y ∈ fa then none else H y) = _
    rw [if_neg this]
    exact hy
  · obtain ⟨o, ho, _⟩ := TA.at_ _ _ a y hy
    rw [ho]
    exact x2 _ _ ho
theorem Beh.shrink (h : Beh A H1 H) (e : Ex H0 H1) : Beh A H0 H := by
  obtain ⟨x, fp, n, a⟩ := h
  exact ⟨e.trans x, fp, fun y hy => exf e (n y hy), a⟩
theorem Beh.grow (T : Thing A) (h : Beh A H0 H) (n : H R = none) : Beh A (upd H0 R o) (upd H R o) := by
  obtain ⟨x, fp, nf, a⟩ := h
  have ne : ∀ y ∈ fp, y ≠ R := fun y hy => by
    obtain ⟨o, ho, _⟩ := T.at_ _ _ a y hy
    exact ne_of_none ho n
  refine ⟨fun y u hy => ?_, fp, fun y hy => by rw [upd_ne (ne y hy)]; exact nf y hy, T.stay _ _ _ a (TupEx.new n) fun y hy => upd_ne (ne y hy)⟩
  by_cases e : y = R
  · subst e
    rw [upd_same] at hy ⊢
    exact hy
  · rw [upd_ne e] at hy ⊢
    exact x _ _ hy
end
abbrev Prd := List Addr → Hp → Prop
/-- this is so of no place of that -/
def Apart (f : List Addr) (fps : List (List Addr)) : Prop := ∀ g ∈ fps, ∀ a ∈ f, a ∉ g
/-- many things, each with places of its own -/
def Sat : List Prd → List (List Addr) → Hp → Prop
  | [], [], _ => True
  | A :: As, f :: fps, H => A f H ∧ Apart f fps ∧ Sat As fps H
  | _, _, _ => False
def packA (As : List Prd) : Prd := fun fp H => ∃ fps, Sat As fps H ∧ fp = fps.flatten
def Sep (As : List Prd) (H0 H : Hp) : Prop := Ex H0 H ∧ ∃ fps, Sat As fps H ∧ ∀ f ∈ fps, ∀ a ∈ f, H0 a = none
def Things (As : List Prd) : Prop := ∀ A ∈ As, Thing A
theorem Things.nil : Things [] := fun _ h => nomatch h
theorem Things.cons {A : Prd} {As : List Prd} (h : Thing A) (k : Things As) : Things (A :: As) := fun B hB => by
  rcases List.mem_cons.mp hB with rfl | hB
  · exact h
  · exact k B hB
theorem Things.tail {A : Prd} {As : List Prd} (k : Things (A :: As)) : Things As := fun B hB => k B (List.mem_cons_of_mem _ hB)
theorem Things.set {A : Prd} (h : Thing A) : ∀ {As : List Prd} {i : Nat}, Things As → Things (As.set i A)
  | [], _, k => k
  | B :: As, 0, k => Things.cons h k.tail
  | B :: As, i + 1, k => Things.cons (k B List.mem_cons_self) (Things.set (i := i) h k.tail)
theorem sat_at : ∀ {As : List Prd} {fps : List (List Addr)} {H : Hp}, Things As → Sat As fps H → ∀ f ∈ fps, ∀ a ∈ f, ∃ o, H a = some o ∧ ∀ xs, o ≠ .tup xs
  | [], [], H, _, _, f, hf, _, _ => nomatch hf
  | A :: As, f0 :: fps, H, T, h, f, hf, a, ha => by
    rcases List.mem_cons.mp hf with rfl | hf
    · exact (T A List.mem_cons_self).at_ _ _ h.1 a ha
    · exact sat_at (As := As) T.tail h.2.2 f hf a ha
  | [], _ :: _, _, _, h, _, _, _, _ => h.elim
  | _ :: _, [], _, _, h, _, _, _, _ => h.elim
theorem sat_stay : ∀ {As : List Prd} {fps : List (List Addr)} {H H' : Hp}, Things As → Sat As fps H → TupEx H H' → (∀ f ∈ fps, ∀ a ∈ f, H' a = H a) → Sat As fps H'
  | [], [], H, H', _, h, _, _ => trivial
  | A :: As, f0 :: fps, H, H', T, h, te, k => ⟨(T A List.mem_cons_self).stay _ _ _ h.1 te fun a ha => k f0 List.mem_cons_self a ha, h.2.1, sat_stay (As := As) T.tail h.2.2 te fun f hf a ha => k f (List.mem_cons_of_mem _ hf) a ha⟩
  | [], _ :: _, _, _, _, h, _, _ => h.elim
  | _ :: _, [], _, _, _, h, _, _ => h.elim
theorem sat_get : ∀ {As : List Prd} {fps : List (List Addr)} {H : Hp} {i : Nat} {A : Prd}, Sat As fps H → As[i]? = some A → ∃ f, fps[i]? = some f ∧ A f H
  | A :: As, f :: fps, H, 0, B, h, e => by
    cases e
    exact ⟨f, rfl, h.1⟩
  | A :: As, f :: fps, H, i + 1, B, h, e => sat_get (As := As) (fps := fps) (i := i) h.2.2 e
  | [], [], _, _, _, _, e => by cases e
  | [], _ :: _, _, _, _, h, _ => h.elim
  | _ :: _, [], _, _, _, h, _ => h.elim
theorem apart_get {f g : List Addr} {fps : List (List Addr)} {i : Nat} (h : Apart f fps) (e : fps[i]? = some g) : ∀ a ∈ f, a ∉ g := h g (List.mem_of_getElem? e)
theorem sat_set : ∀ {As : List Prd} {fps : List (List Addr)} {H H' : Hp} {i : Nat} {f : List Addr} {A' : Prd} {f' : List Addr}, Things As → Sat As fps H → fps[i]? = some f → TupEx H H' →
    (∀ a, a ∉ f → ∀ o, H a = some o → H' a = some o) → (∀ a ∈ f', H a = none ∨ a ∈ f) → A' f' H' → Sat (As.set i A') (fps.set i f') H'
  | A :: As, f0 :: fps, H, H', 0, f, A', f', T, h, e, te, k, n, hA => by
    cases e
    have hs := sat_at (As := As) T.tail h.2.2
    have off : ∀ g ∈ fps, ∀ a ∈ g, a ∉ f0 := fun g hg a ha ka => h.2.1 g hg a ka ha
    refine ⟨hA, fun g hg a ha hag => ?_, sat_stay T.tail h.2.2 te fun g hg a ha => ?_⟩
    · obtain ⟨o, ho, _⟩ := hs g hg a hag
      rcases n a ha with z | z
      · rw [z] at ho; cases ho
      · exact h.2.1 g hg a z hag
    · obtain ⟨o, ho, _⟩ := hs g hg a ha
      rw [ho]
      exact k a (off g hg a ha) o ho
  | A :: As, f0 :: fps, H, H', i + 1, f, A', f', T, h, e, te, k, n, hA => by
    have e2 : fps[i]? = some f := e
    have h0 := (T A List.mem_cons_self).at_ _ _ h.1
    have off := apart_get h.2.1 e2
    refine ⟨(T A List.mem_cons_self).stay _ _ _ h.1 te fun a ha => ?_, fun g hg a ha hag => ?_, sat_set (As := As) (i := i) T.tail h.2.2 e2 te k n hA⟩
    · obtain ⟨o, ho, _⟩ := h0 a ha
      rw [ho]
      exact k a (off a ha) o ho
    · rcases List.mem_or_eq_of_mem_set hg with hg | rfl
      · exact h.2.1 g hg a ha hag
      · obtain ⟨o, ho, _⟩ := h0 a ha
        rcases n a hag with z | z
        · rw [z] at ho; cases ho
        · exact off a ha z
  | [], [], _, _, _, _, _, _, _, _, e, _, _, _, _ => by cases e
  | [], _ :: _, _, _, _, _, _, _, _, h, _, _, _, _, _ => h.elim
  | _ :: _, [], _, _, _, _, _, _, _, h, _, _, _, _, _ => h.elim
theorem packT {As : List Prd} (T : Things As) : Thing (packA As) := by
  refine ⟨fun fp H H' ⟨fps, h, e⟩ te k => ⟨fps, sat_stay T h te fun f hf a ha => k a ?_, e⟩, fun fp H ⟨fps, h, e⟩ a ha => ?_⟩
  · rw [e]
    exact List.mem_flatten.mpr ⟨f, hf, ha⟩
  · rw [e] at ha
    obtain ⟨f, hf, ha⟩ := List.mem_flatten.mp ha
    exact sat_at T h f hf a ha
theorem sep_beh {As : List Prd} {H0 H : Hp} : Sep As H0 H ↔ Beh (packA As) H0 H := by
  constructor
  · rintro ⟨x, fps, h, n⟩
    refine ⟨x, fps.flatten, fun a ha => ?_, fps, h, rfl⟩
    obtain ⟨f, hf, ha⟩ := List.mem_flatten.mp ha
    exact n f hf a ha
  · rintro ⟨x, fp, n, fps, h, rfl⟩
    exact ⟨x, fps, h, fun f hf a ha => n a (List.mem_flatten.mpr ⟨f, hf, ha⟩)⟩
section
variable {As : List Prd} {A B : Prd} {H0 H H' : Hp} {i : Nat}
theorem Sep.base (h : Sep As H0 H) : Ex H0 H := h.1
theorem Sep.ex (T : Things As) (h : Sep As H0 H) (e : Ex H H') : Sep As H0 H' := by
  obtain ⟨x, fps, s, n⟩ := h
  refine ⟨x.trans e, fps, sat_stay T s (TupEx.ex e) fun f hf a ha => ?_, n⟩
  obtain ⟨o, ho, _⟩ := sat_at T s f hf a ha
  rw [ho]
  exact e _ _ ho
theorem Sep.focus (T : Things As) (h : Sep As H0 H) (e : As[i]? = some A) : ∃ H1, Ex H0 H1 ∧ Beh A H1 H ∧ ∀ A' H', Beh A' H1 H' → Sep (As.set i A') H0 H' := by
  obtain ⟨x, fps, s, n⟩ := h
  obtain ⟨f, ef, hf⟩ := sat_get s e
  have nf := n f (List.mem_of_getElem? ef)
  have x0 : Ex H0 (outOf H f) := ex_outOf x nf
  refine ⟨outOf H f, x0, ⟨outOf_ex, f, fun a ha => outOf_in ha, hf⟩, fun A' H' ⟨y, f', nf', hA⟩ => ?_⟩
  have at_ := (T A (List.mem_of_getElem? e)).at_ _ _ hf
  refine ⟨x0.trans y, fps.set i f', sat_set T s ef (fun a xs ha => ?_) (fun a ha o ho => y _ _ (by rw [outOf_out ha]; exact ho)) (fun a ha => ?_) hA, fun g hg a ha => ?_⟩
  · refine y _ _ ?_
    rw [outOf_out]
    · exact ha
    · intro k
      obtain ⟨o, ho, hn⟩ := at_ a k
      rw [ha] at ho
      exact hn xs (Option.some.inj ho).symm
  · by_cases k : a ∈ f
    · exact .inr k
    · have := nf' a ha
      rw [outOf_out k] at this
      exact .inl this
  · rcases List.mem_or_eq_of_mem_set hg with hg | rfl
    · exact n g hg a ha
    · exact exf x0 (nf' a ha)
theorem Sep.get (h : Sep As H0 H) (e : As[i]? = some A) : ∃ fp, (∀ a ∈ fp, H0 a = none) ∧ A fp H := by
  obtain ⟨x, fps, s, n⟩ := h
  obtain ⟨f, ef, hf⟩ := sat_get s e
  exact ⟨f, n f (List.mem_of_getElem? ef), hf⟩
theorem Sep.cons (T : Things As) (h : Sep As H0 H) (b : Beh B H H') : Sep (B :: As) H0 H' := by
  obtain ⟨x, fps, s, n⟩ := h
  obtain ⟨y, fb, nb, hb⟩ := b
  refine ⟨x.trans y, fb :: fps, ⟨hb, fun g hg a ha hag => ?_, sat_stay T s (TupEx.ex y) fun f hf a ha => ?_⟩, fun f hf a ha => ?_⟩
  · obtain ⟨o, ho, _⟩ := sat_at T s g hg a hag
    rw [nb a ha] at ho
    cases ho
  · obtain ⟨o, ho, _⟩ := sat_at T s f hf a ha
    rw [ho]
    exact y _ _ ho
  · rcases List.mem_cons.mp hf with rfl | hf
    · exact exf x (nb a ha)
    · exact n f hf a ha
theorem sat_snoc {fb : List Addr} : ∀ {As : List Prd} {fps : List (List Addr)} {H : Hp}, Sat As fps H → B fb H → (∀ g ∈ fps, ∀ a ∈ g, a ∉ fb) → Sat (As ++ [B]) (fps ++ [fb]) H
  | [], [], H, _, hb, _ => ⟨hb, (fun g hg => nomatch hg), trivial⟩
  | A :: As, f :: fps, H, h, hb, n => by
    refine ⟨h.1, fun g hg a ha => ?_, sat_snoc (As := As) h.2.2 hb fun g hg => n g (List.mem_cons_of_mem _ hg)⟩
    rcases List.mem_append.mp hg with hg | hg
    · exact h.2.1 g hg a ha
    · rw [List.mem_singleton.mp hg]
      exact n f List.mem_cons_self a ha
  | [], _ :: _, _, h, _, _ => h.elim
  | _ :: _, [], _, h, _, _ => h.elim
theorem Sep.snoc (T : Things As) (h : Sep As H0 H) (b : Beh B H H') : Sep (As ++ [B]) H0 H' := by
  obtain ⟨x, fps, s, n⟩ := h
  obtain ⟨y, fb, nb, hb⟩ := b
  have off : ∀ g ∈ fps, ∀ a ∈ g, a ∉ fb := fun g hg a ha k => by
    obtain ⟨o, ho, _⟩ := sat_at T s g hg a ha
    rw [nb a k] at ho
    cases ho
  refine ⟨x.trans y, fps ++ [fb], sat_snoc (sat_stay T s (TupEx.ex y) fun f hf a ha => ?_) hb off, fun f hf a ha => ?_⟩
  · obtain ⟨o, ho, _⟩ := sat_at T s f hf a ha
    rw [ho]
    exact y _ _ ho
  · rcases List.mem_append.mp hf with hf | hf
    · exact n f hf a ha
    · rw [List.mem_singleton.mp hf] at ha
      exact exf x (nb a ha)
theorem Sep.into {Bs : List Prd} (T : Things Bs) (TA : Things As) (h : Sep Bs H0 H) (e : Bs[i]? = some (packA As)) (b : Beh B H H') : Sep (Bs.set i (packA (As ++ [B]))) H0 H' := by
  obtain ⟨H1, x, k, back⟩ := h.focus T e
  exact back _ _ (sep_beh.mp ((sep_beh.mpr k).snoc TA b))
theorem Sep.one (b : Beh A H0 H) : Sep [A] H0 H := by
  obtain ⟨x, f, n, h⟩ := b
  exact ⟨x, [f], ⟨h, (fun g hg => nomatch hg), trivial⟩, fun g hg => by rw [List.mem_singleton.mp hg]; exact n⟩
theorem pack_nil : Beh (packA []) H H := ⟨Ex.refl H, [], (fun _ h => nomatch h), [], trivial, rfl⟩
theorem Sep.tail (h : Sep (A :: As) H0 H) : Sep As H0 H := by
  obtain ⟨x, fps, s, n⟩ := h
  match fps, s with
  | f :: fps, s => exact ⟨x, fps, s.2.2, fun g hg => n g (List.mem_cons_of_mem _ hg)⟩
theorem Sep.shrink {H1 : Hp} (h : Sep As H1 H) (e : Ex H0 H1) : Sep As H0 H := by
  obtain ⟨x, fps, s, n⟩ := h
  exact ⟨e.trans x, fps, s, fun f hf a ha => exf e (n f hf a ha)⟩
theorem Sep.nil (e : Ex H0 H) : Sep [] H0 H := ⟨e, [], trivial, fun _ h => nomatch h⟩
end
/-! ### one object -/
def cellA (a : Addr) (o : HO) : Prd := fun fp H => fp = [a] ∧ H a = some o ∧ ∀ xs, o ≠ .tup xs
theorem cellT (a : Addr) (o : HO) : Thing (cellA a o) := by
  refine ⟨fun fp H H' ⟨e, h, n⟩ te k => ⟨e, ?_, n⟩, fun fp H ⟨e, h, n⟩ b hb => ?_⟩
  · subst e
    rw [k a (by simp)]
    exact h
  · subst e
    rw [List.mem_singleton.mp hb]
    exact ⟨o, h, n⟩
theorem cell_new {H : Hp} {a : Addr} {o : HO} (n : H a = none) (t : ∀ xs, o ≠ .tup xs) : Beh (cellA a o) H (upd H a o) := ⟨Ex.new n, [a], fun b hb => by rw [List.mem_singleton.mp hb]; exact n, rfl, upd_same, t⟩
theorem cell_get {H0 H : Hp} {a : Addr} {o : HO} (h : Beh (cellA a o) H0 H) : H a = some o ∧ H0 a = none := by
  obtain ⟨x, fp, n, rfl, h, _⟩ := h
  exact ⟨h, n a (by simp)⟩
theorem cell_set {H0 H : Hp} {a : Addr} {o o' : HO} (h : Beh (cellA a o) H0 H) (t : ∀ xs, o' ≠ .tup xs) : Beh (cellA a o') H0 (upd H a o') := by
  obtain ⟨x, fp, n, rfl, h, _⟩ := h
  exact ⟨ex_set x (n a (by simp)), [a], n, rfl, upd_same, t⟩
theorem Sep.cell {As : List Prd} {H0 H : Hp} {i : Nat} {a : Addr} {o : HO} (h : Sep As H0 H) (e : As[i]? = some (cellA a o)) : H a = some o := by
  obtain ⟨fp, _, _, h, _⟩ := h.get e
  exact h
theorem Sep.cell0 {As : List Prd} {H0 H : Hp} {i : Nat} {a : Addr} {o : HO} (h : Sep As H0 H) (e : As[i]? = some (cellA a o)) : H0 a = none := by
  obtain ⟨fp, n, rfl, h, _⟩ := h.get e
  exact n a (by simp)
theorem Sep.write {As : List Prd} {H0 H : Hp} {i : Nat} {a : Addr} {o o' : HO} (T : Things As) (h : Sep As H0 H) (e : As[i]? = some (cellA a o)) (t : ∀ xs, o' ≠ .tup xs) : Sep (As.set i (cellA a o')) H0 (upd H a o') := by
  obtain ⟨H1, x, b, back⟩ := h.focus T e
  exact back _ _ (cell_set b t)
/-- some x of which this is so -/
def exA {α : Type} (F : α → Prd) : Prd := fun fp H => ∃ x, F x fp H
theorem exT {α : Type} {F : α → Prd} (T : ∀ x, Thing (F x)) : Thing (exA F) :=
  ⟨fun fp H H' ⟨x, h⟩ te k => ⟨x, (T x).stay _ _ _ h te k⟩, fun fp H ⟨x, h⟩ => (T x).at_ _ _ h⟩
theorem ex_beh {α : Type} {F : α → Prd} {H0 H : Hp} : Beh (exA F) H0 H ↔ ∃ x, Beh (F x) H0 H := by
  constructor
  · rintro ⟨x, fp, n, y, h⟩
    exact ⟨y, x, fp, n, h⟩
  · rintro ⟨y, x, fp, n, h⟩
    exact ⟨x, fp, n, y, h⟩
end Vf
namespace Vf
open PySem PySem.Spec PyProof.Rows L2 Evl
/-! ### a range with a step, kept -/
def RngO (a : Addr) (i j c : Int) : HO := .ext fun h => ∃ t u v : Tok, h.get? a = some { cls := .type "range", data := .fields #[.int i t, .int j u, .int c v] }
section
variable {X : Cx} {tg e : Expr} {te : TE}
theorem cr_range3 : CallR X (.type "range") (fun vs H Q => ∃ i j c : Int, vs = [.int i, .int j, .int c] ∧ c ≠ 0 ∧ c.natAbs < 1073741824 ∧ ∀ p, H p = none → Q (.ref p) (upd H p (RngO p i j c))) := by
  intro pins s σ H vs us Q I r h
  obtain ⟨i, j, c, rfl, c0, c1, q⟩ := h
  cases r with
  | cons r rr =>
    cases rr with
    | cons r' rr =>
      cases rr with
      | cons r'' rr =>
        cases rr
        obtain ⟨t, rfl⟩ := r
        obtain ⟨t', rfl⟩ := r'
        obtain ⟨t'', rfl⟩ := r''
        refine call_range_3 c0 ?_ (.inl (PyProof.noPylong_small c1))
        refine ⟨.ref s.heap.objs.size, upd H s.heap.objs.size (RngO s.heap.objs.size i j c), I.laid (t' := s.toks) (fun b o e => Heap.get?_push_of_some _ e) (Nat.le_refl _) ?_, rfl, q _ (I.hok.fresh (Nat.le_refl _))⟩
        exact ⟨⟨t, t', t'', Heap.get?_push_size _ rfl⟩, ⟨_, Heap.get?_push_size _ rfl⟩, fun h1 h2 ⟨t, u, v, g⟩ k => ⟨t, u, v, k _ g⟩⟩
def iRngV (te : TE) : TI := fun σ H R => te σ H fun v H1 => ∃ (a : Addr) (i j c : Int) (n : Nat), v = .ref a ∧ H1 a = some (RngO a i j c) ∧ RgC i j c n ∧ R (Itc i c n) H1
theorem pi_rngV (he : PE X e te) : PI X tg e (iRngV te) := by
  refine ⟨fun pins s σ H R I h => ?_⟩
  refine thn (he.run pins s σ H _ I h) fun v s1 ⟨y, H1, I1, r1, a, i, j, c, n, ey, ha, hR, q⟩ => ?_
  subst ey
  obtain rfl : v = Value.ref a := r1
  obtain ⟨⟨t, u, w, g⟩, _⟩ := (show ObjOk X.prog X.w H1 s1.heap a (RngO a i j c) from I1.hok a _ ha)
  obtain ⟨c0, c1, c2, c3⟩ := hR
  refine wpAny_pyIter_range (r := a) (t := t) (u := u) (v := w) g c2 ?_
  refine pi_one (tk := s1.toks) I1 _ (turn_rangeC _ i c n) ?_ q
  have e1 : i + ((0 : Nat) : Int) * c = i := by simp
  have e2 : (n : Int) - ((0 : Nat) : Int) = Builtin.Range.rangeSize i j c := by rw [c3]; simp
  rw [e1, e2]
  exact Heap.get?_push_size _ rfl
end
theorem rgc_th {m : Nat} (h : m < 1000000) (h0 : 0 < m) : RgC 0 (m : Nat) 1000 ((m + 999) / 1000) := by
  have hs : Builtin.Range.rangeSize 0 (m : Nat) 1000 = (((m + 999) / 1000 : Nat) : Int) := by
    unfold Builtin.Range.rangeSize
    rw [if_pos (by decide), if_pos (by omega)]
    omega
  refine ⟨by decide, by decide, ?_, hs⟩
  unfold Builtin.Range.small
  rw [hs]
  have fits : ∀ x : Int, 0 ≤ x → x < 10000000 → Builtin.Range.rangeFitsLong x = true := fun x h1 h2 => by
    unfold Builtin.Range.rangeFitsLong
    rw [Bool.and_eq_true, decide_eq_true_iff, decide_eq_true_iff]
    have e : (2 : Int) ^ 63 = 9223372036854775808 := by decide
    constructor <;> omega
  rw [fits 0 (by decide) (by decide), fits m (by omega) (by omega), fits 1000 (by decide) (by decide), fits _ (by omega) (by omega), if_pos (by decide), fits _ (by omega) (by omega)]
  simp
end Vf
namespace Vf
open PySem PySem.Spec PyProof PyProof.Rows L2
/-! ### set(xs), xs a list of whole numbers -/
section
variable {P : Program} {w : World} {A : Around} {E : Value → Shared → Prop} {s : Shared}
abbrev noneYet (w : World) : Obj := { cls := .type "set", dict := none, data := .set #[] 0 (.fresh 0 0 (!w.params.followText "set-order")) }
abbrev isIn (ns : List Int) : Int → Bool := fun j => decide (j ∈ ns)
abbrev Filled (w : World) (s : Shared) (ns : List Int) : Value → Shared → Prop := fun r z => r = .none ∧ ∃ h' tk c, z = { s with heap := h', toks := tk } ∧ SetR w h' s.heap.objs.size (isIn ns) c ∧ c ≤ ns.length ∧ ∀ b o, s.heap.get? b = some o → h'.get? b = some o
theorem next_ne {h : Heap} {o : Obj} {b : Nat} (hb : b < h.objs.size) : b ≠ (h.push o).objs.size := by
  rw [Heap.size_push]
  exact Nat.ne_of_lt (Nat.lt_succ_of_lt hb)
set_option maxRecDepth 100000 in
/-- what is made, filled from the list -/
theorem fill_list {l : Addr} {xs : Array Value} (ns : List Int) (hh : A.handled = none) (hl : s.heap.IsList l xs) (hi : IntsAre xs.toList ns) (few : ns.length + 1 < scanBound) :
    codeAny (model P w) A (.call (.builtin "set.__init__") ⟨[.ref s.heap.objs.size, .ref l], []⟩) (wants (Filled w s ns) E) { s with heap := s.heap.push (noneYet w) } := by
  have fresh : (s.heap.push (noneYet w)).get? s.heap.objs.size = some (noneYet w) := Heap.get?_push_size _ rfl
  have ty : Shared.TypeIs { s with heap := s.heap.push (noneYet w) } (.ref s.heap.objs.size) "set" := ⟨_, fresh, rfl⟩
  have many : xs.size = ns.length := by rw [← Array.length_toList]; exact IntsAre.length hi
  have at_ : ∀ (i : Nat) (v : Value), xs[i]? = some v → ∃ k t, ns[i]? = some k ∧ v = .int k t := fun i v e => by
    have lt : i < ns.length := many ▸ (Array.getElem?_eq_some_iff.mp e).1
    obtain ⟨t, rfl⟩ := PyProof.Rows.IntsAre.int_at hi i v (Array.getElem?_toList ▸ e)
    exact ⟨ns[i], t, List.getElem?_eq_getElem lt, by simp [List.getD_eq_getElem?_getD, List.getElem?_eq_getElem lt]⟩
  have hl0 := hl
  refine codeAny_call_builtin F.called_set.init.plain F.entry_set_init (check_set_init_1 ty ?_)
  obtain ⟨⟨c0, d0, data, sl⟩, hg, hc, nl, hd⟩ := hl
  cases hc
  cases hd
  have later := hl0.push (noneYet w)
  have there : (s.heap.push (noneYet w)).get? l = some { cls := .type "list", dict := d0, data := .seq xs nl, slots := sl } := Heap.get?_push_of_some _ hg
  have s1 := F.sub_list_set; have s2 := F.sub_list_frozenset
  have nd : (Value.type "list" == Value.type "dict") = false := by decide
  unfold Builtin.«set.__init__» noKeywords Builtin.Frozenset.updateFrom; generalize hI : pyIter = PI
  wp_walk
  subst hI
  refine wpAny_pyIter_list later (wpAny_bind (wpAny_runValue ?_))
  have below : l < s.heap.objs.size := Heap.lt_size hg
  have none3 : A.in1.in1.handled = none := by simp [hh]
  have free : s.heap.objs.size ∉ [(s.heap.push (noneYet w)).objs.size, l] := by
    intro m
    rcases List.mem_cons.mp m with m | m
    · rw [Heap.size_push] at m; exact absurd m (Nat.ne_of_lt (Nat.lt_succ_self _))
    · exact absurd (List.mem_singleton.mp m) (Nat.ne_of_gt below)
  refine set_update_ints (Walks.list none3 _ l (next_ne (o := noneYet w) below) xs).toS s.heap.objs.size free ns many few at_ xs.size 0 _ (Nat.sub_zero _) (Nat.zero_le _) ?here ?start fun z c mv hc R => ?_
  case here => exact ⟨⟨_, Heap.get?_push_size _ rfl, rfl, rfl⟩, later.push _⟩
  case start => exact ⟨0, Nat.le_refl 0, setR_new_at (Heap.get?_push_of_some _ fresh)⟩
  obtain ⟨zh, zg, zd, zt, zo⟩ := z
  obtain rfl : zg = s.gens := mv.gens
  obtain rfl : zd = s.drawn := mv.drawn
  obtain rfl : zo = s.os := mv.os
  show wpAny _ _ _ _ _ _
  refine wpAny_pure ?_
  show wpAny _ _ (ret Value.none) _ _ _
  refine wpAny_pure ⟨rfl, zh, zt, c, rfl, R, many ▸ hc, fun b o e => ?_⟩
  have lt : b < s.heap.objs.size := Heap.lt_size e
  refine mv.heap b o (fun m => ?_) (Heap.get?_push_of_some _ (Heap.get?_push_of_some _ e))
  rcases List.mem_cons.mp m with m | m
  · exact absurd m (Nat.ne_of_lt lt)
  · exact next_ne (o := noneYet w) lt (List.mem_singleton.mp m)
set_option maxRecDepth 100000 in
theorem set_ints {l : Addr} {xs : Array Value} (ns : List Int) {Q : Value → Shared → Prop} (hh : A.handled = none) (hl : s.heap.IsList l xs) (hi : IntsAre xs.toList ns) (few : ns.length + 1 < scanBound)
    (q : ∀ (h' : Heap) (tk c : Nat), SetR w h' s.heap.objs.size (isIn ns) c → c ≤ ns.length → (∀ b o, s.heap.get? b = some o → h'.get? b = some o) → Q (.ref s.heap.objs.size) { s with heap := h', toks := tk }) :
    wpAny (model P w) A (call (.type "set") [.ref l]) Q E s := by
  obtain ⟨c, tl, e1⟩ := F.called_set.mro
  have e2 := F.called_set.made; have e3 := F.called_set.sub; have e4 := F.called_set.notType; have e5 := F.called_set.canCreate
  refine wpAny_call (codeAny_of_tree ?_)
  show wpAny _ _ (callAny (.type "set") _) _ _ _
  refine wpAny_pure ⟨Code.quiet_builtin _ (by decide +kernel), codeAny_builtin F.entry_type_call ?_⟩
  rw [Around.under_plain (weight_type_call_type "set" [.ref l] []) rfl]
  have e6 := F.typeCall_set_1 (.ref l); repeat (any_goals (first | assumption | wp_step))
  refine codeAny_mono (code_set_led1 (.ref l) (E := E) (Q₁ := fun v z => v = .ref s.heap.objs.size ∧ z = { s with heap := s.heap.push (noneYet w) }) ⟨rfl, rfl⟩) fun r z hr => ?_
  cases r with
  | error e => exact hr
  | ok fl =>
    cases fl with
    | ret v =>
      obtain ⟨rfl, rfl⟩ := hr
      have ty : Shared.TypeIs { s with heap := s.heap.push (noneYet w) } (.ref s.heap.objs.size) "set" := ⟨_, Heap.get?_push_size _ rfl, rfl⟩
      have e7 := F.called_set.init.lookup
      have e8 := F.called_set.init.bind (.ref s.heap.objs.size); repeat (any_goals (first | assumption | wp_step))
      refine codeAny_mono (fill_list (P := P) (w := w) ns (E := E) ?_ hl hi few) fun r2 z2 h2 => ?_
      · simp [hh]
      · cases r2 with
        | error e => exact h2
        | ok fl2 =>
          cases fl2 with
          | ret v =>
            obtain ⟨rfl, h', tk, c', rfl, R, hc, k⟩ := h2
            repeat (any_goals (first | assumption | wp_step))
            exact q _ _ _ R hc k
          | _ => exact h2.elim
    | _ => exact hr.elim
end
section
variable {X : Cx}
def rSetOfI (K : PySem.W.Frag) (w : World) : List V → Hp → VK → Prop := fun vs H Q => ∃ (l : Addr) (ns : List Int), vs = [V.ref l] ∧ SqL K H l (ns.map V.int) ∧ ns.length < 64 ∧ ∀ a n, H a = none → n ≤ ns.length → Q (.ref a) (upd H a (SetO w a (isIn ns) n))
theorem cr_setOfI (hc : X.calm = true) : CallR X (.type "set") (rSetOfI X.K X.w) := by
  intro pins s σ H vs us Q I r h
  obtain ⟨l, ns, rfl, hl, few, q⟩ := h
  rw [Vals.ref1 r]
  obtain ⟨its, rv, pl, hz⟩ := I.list hl
  refine set_ints ns (I.ok.hd hc) pl.isList (by simpa using RZ.intsAre_vals rv) (by unfold scanBound; omega) fun h' tk c R c0 k => ?_
  exact ⟨.ref s.heap.objs.size, upd H s.heap.objs.size (SetO X.w s.heap.objs.size (isIn ns) c), I.laid (t' := tk) k (Nat.le_refl _) (setO_new R), rfl, q _ c (I.hok.fresh (Nat.le_refl _)) c0⟩
end
end Vf
namespace Vf
open PySem PySem.Spec PyProof.Rows L2 Evl
/-! ### match: of tuples, a word first, then names -/
abbrev TM := V → TS
structure PM (X : Cx) (cs : List MatchCase) (t : TM) : Prop where
  run : ∀ (pins : List (Addr × Obj)) (s : Shared) (σ : L2.St) (H : Hp) (D : Ends) (v : V) (u : Value) (b : Bool), Inv X pins σ H s → RelV v u → t v D σ H → wpAny (model X.prog X.w) X.A (matchCases cs X.env u b) (SP X pins D) X.xe s
def setAll : List Nat → List V → L2.St → L2.St
  | i :: is, v :: vs, σ => setAll is vs (σ.set i (some v))
  | _, _, σ => σ
inductive Caps (X : Cx) : List Pattern → List Nat → Prop
  | nil : Caps X [] []
  | cons {x : Str} {i : Nat} {p : Pos} {ps : List Pattern} {is : List Nat} (hi : X.N[i]? = some x) (hx : Loc X.env.scope x) (hf : X.fn x = true ∨ X.env.scope.names.lookup x = some .local) (h : Caps X ps is) : Caps X (.MatchAs none (some x) p :: ps) (i :: is)
def namesP : List Pattern → List Str
  | .MatchAs none (some x) _ :: ps => x :: namesP ps
  | _ => []
section
variable {X : Cx} {M : Model} {A : Around} {E : Value → Shared → Prop}
theorem Caps.names {ps : List Pattern} {is : List Nat} (c : Caps X ps is) : (namesP ps).length = ps.length ∧ is.length = ps.length := by
  induction c with
  | nil => exact ⟨rfl, rfl⟩
  | cons hi hx hf h ih => exact ⟨congrArg (· + 1) ih.1, congrArg (· + 1) ih.2⟩
theorem Caps.each {ps : List Pattern} {is : List Nat} (c : Caps X ps is) : ∀ {us : List Value} {s : Shared} {Q : Option (List (Str × Value)) → Shared → Prop}, us.length = ps.length → Q (some ((namesP ps).zip us)) s → wpAny M A (matchEach ps X.env us) Q E s := by
  induction c with
  | nil => intro us s Q _ q; exact wpAny_matchEach_nil q
  | @cons x i p ps is hi hx hf h ih =>
    intro us s Q hl q
    match us, hl with
    | u :: us, hl =>
      refine wpAny_matchEach_cons (wpAny_matchPattern_Capture ?_)
      refine ih (by simpa using hl) ?_
      exact q
theorem Caps.store {pins : List (Addr × Obj)} {ps : List Pattern} {is : List Nat} (hN : X.N.Nodup) (c : Caps X ps is) : ∀ {us : List Value} {vs : List V} {s : Shared} {σ : L2.St} {H : Hp} {Q : Unit → Shared → Prop}, Inv X pins σ H s → Vals vs us → us.length = ps.length →
    (∀ s', Inv X pins (setAll is vs σ) H s' → Q () s') → wpAny M A (assignInOrder (((namesP ps).zip us).map fun (n, _) => bindName X.env n) (((namesP ps).zip us).map (·.2))) Q E s := by
  induction c with
  | nil =>
    intro us vs s σ H Q I r hl q
    cases us with
    | nil =>
      cases r
      exact wpAny_assignInOrder_none (q s I)
    | cons _ _ => cases hl
  | @cons x i p ps is hi hx hf h ih =>
    intro us vs s σ H Q I r hl q
    cases r with
    | nil => cases hl
    | @cons v u vs us rv rs =>
      refine wpAny_assignInOrder_more (wpAny_bindName (store_ok I hN hi hx rv (fun s' I' => ?_) hf))
      exact ih I' rs (by simpa using hl) q
theorem pm_nil : PM X [] (fun _ D σ H => D.nx σ H) := ⟨fun _ s σ H D v u b I r h => by
  show wpAny _ _ (pure _) _ _ _
  exact PySem.wpAny_pure ⟨σ, H, I, h⟩⟩
/-- the case of a word and names behind it -/
def tCase (K : PySem.W.Frag) (w : Str) (is : List Nat) (tb : TS) (tr : TM) : TM := fun v D σ H => ∃ a xs, v = .ref a ∧ SqT K H a xs ∧
  ((∃ r, xs = .str w :: r ∧ r.length = is.length ∧ tb D (setAll is r σ) H) ∨ ((xs.length ≠ is.length + 1 ∨ ∃ z r, xs = .str z :: r ∧ z ≠ w) ∧ tr v D σ H))
theorem pm_case {w : Str} {k : Nat} {p1 p2 pos : Pos} {ps : List Pattern} {is : List Nat} {body : List Stmt} {rest : List MatchCase} {tb : TS} {tr : TM} (hc : X.calm = true) (hN : X.N.Nodup) (c : Caps X ps is) (hb : PSs X body tb) (hr : PM X rest tr)
    (hstar : (Pattern.MatchValue (.Constant (.str w) k p1) p2 :: ps).findIdx? (·.isStar) = none := by rfl) : PM X (⟨.MatchSequence (.MatchValue (.Constant (.str w) k p1) p2 :: ps) pos, none, body⟩ :: rest) (tCase X.K w is tb tr) := by
  refine ⟨fun pins s σ H D v u b I r h => ?_⟩
  obtain ⟨a, xs, rfl, hq, h⟩ := h
  cases r
  obtain ⟨its, rv, ht, hz⟩ := I.tuple hq
  have hfit : (its.toArray.size : Int) < 2 ^ 63 := by
    have := rv.length
    have e : its.toArray.size = its.length := by simp
    rw [e, ← this]
    have : sizeLine < 2 ^ 62 := by decide
    omega
  refine wpAny_matchCases_cons ?_
  have hps := c.names
  have hlen := rv.length
  have rest_ : ∀ s', Inv X pins σ H s' → tr (.ref a) D σ H → wpAny (model X.prog X.w) X.A (matchCases rest X.env (.ref a) false) (SP X pins D) X.xe s' := fun s' I' q => hr.run pins s' σ H D (.ref a) (.ref a) false I' rfl q
  by_cases hl : its.length = ps.length + 1
  · refine matchSeq_tuple_hit ht hfit (by simp [hl]) ?_ hstar
    have hn : (Pattern.MatchValue (.Constant (.str w) k p1) p2 :: ps).length = its.toArray.size := by simp [hl]
    rw [hn]
    refine unpackItems_tuple (I.ok.hd hc) ht fun h' hx => ?_
    have I1 : Inv X pins σ H { s with heap := h', toks := s.toks + 1 + 1 } := I.kept (t' := s.toks + 1 + 1) fun b o e => hx b o (Nat.ne_of_lt (Heap.lt_size e)) e
    cases rv with
    | nil => cases hl
    | @cons z0 u0 zs us r0 rs =>
      have h2 : (∃ z, z0 = .str z ∧ ((z = w ∧ zs.length = is.length ∧ tb D (setAll is zs σ) H) ∨ (z ≠ w ∧ tr (.ref a) D σ H))) := by
        rcases h with ⟨r, e, e2, q⟩ | ⟨e | ⟨z, r, e, e2⟩, q⟩
        · cases e
          exact ⟨w, rfl, .inl ⟨rfl, e2, q⟩⟩
        · exfalso
          apply e
          rw [hlen, hl, hps.2]
        · cases e
          exact ⟨z, rfl, .inr ⟨e2, q⟩⟩
      obtain ⟨z, rfl, h3⟩ := h2
      show wpAny _ _ (matchEach (Pattern.MatchValue (.Constant (.str w) k p1) p2 :: ps) X.env (u0 :: us)) _ _ _
      refine wpAny_matchEach_cons (wpAny_matchPattern_Value ?_)
      refine thn ((pe_str (X := X) (x := w) (j := k) (pos := p1)).run pins _ σ H (fun v H1 => v = .str w ∧ H1 = H) I1 ⟨rfl, rfl⟩) fun cv s1 ⟨y, H1, I2, ry, ey, eH⟩ => ?_
      subst ey
      subst eH
      refine thn (op_eq pins s1 σ H1 (.str z) (.str w) u0 cv (fun v H2 => v = .bl (decide (V.str z = V.str w)) ∧ H2 = H1) I2 r0 ry ⟨rfl, rfl, rfl⟩) fun bv s2 ⟨y, H2, I3, rb, eb, eH⟩ => ?_
      subst eb
      subst eH
      cases rb
      refine wpAny_truthy_bool ?_
      by_cases e : z = w
      · rw [decide_eq_true (congrArg V.str e), if_pos rfl]
        rcases h3 with ⟨_, e2, q⟩ | ⟨e2, _⟩
        · refine c.each (by simpa using hl) ?_
          exact c.store hN I3 rs (by simpa using hl) fun s' I' => hb.run pins s' _ _ D I' q
        · exact absurd e e2
      · rw [decide_eq_false (fun k => e (V.str.inj k)), if_neg (by decide)]
        rcases h3 with ⟨e2, _⟩ | ⟨_, q⟩
        · exact absurd e2 e
        · exact rest_ _ I3 q
  · refine matchSeq_tuple_miss ht hfit (by simpa using hl) ?_ hstar
    have I1 : Inv X pins σ H { s with toks := s.toks + 1 + 1 } := I.kept (t' := s.toks + 1 + 1) fun b o e => e
    refine rest_ _ I1 ?_
    rcases h with ⟨r, e, e2, q⟩ | ⟨_, q⟩
    · exfalso
      apply hl
      rw [← hlen, e]
      show r.length + 1 = _
      rw [e2, hps.2]
    · exact q
def tMatch (t : TE) (m : TM) : TS := fun D σ H => t σ H fun v H1 => m v D σ H1
theorem ps_match {e : Expr} {cs : List MatchCase} {pos : Pos} {t : TE} {m : TM} (he : PE X e t) (hm : PM X cs m) : PS X (.Match e cs pos) (tMatch t m) :=
  ⟨fun pins s σ H D I h => wpAny_Match (thn (he.run pins s σ H _ I h) fun u s1 ⟨v, H1, I1, r, q⟩ => hm.run pins s1 σ H1 D v u true I1 r q)⟩
end
end Vf
namespace Vf
open PySem PySem.Spec PyProof.Rows L2 Evl
/-! ### d.update(e); a dict beside the empty one -/
def rDUpd : V → List V → Hp → VK → Prop := fun x vs H Q => ∃ (a b : Addr) (kvs more : List (Key × V)), x = .ref a ∧ vs = [.ref b] ∧ H a = some (.dK kvs) ∧ H b = some (.dK more) ∧ a ≠ b ∧ kvs.length + more.length ≤ sizeLine ∧ Q .non (upd H a (.dK (mergeK kvs more)))
theorem mt_dupdate {X : Cx} : MtR X "dict.update" rDUpd := by
  intro pins s σ H x vs v us Q I rx rv h
  obtain ⟨a, b, kvs, more, rfl, rfl, ea, eb, ne, hz, q⟩ := h
  obtain rfl : v = Value.ref a := rx
  obtain ⟨u, rfl, ru⟩ := Vals.one rv
  obtain rfl : u = Value.ref b := ru
  obtain ⟨za, hda, va, rela, dda⟩ := dk_of I.hok ea
  obtain ⟨zb, hdb, vb, relb, ddb⟩ := dk_of I.hok eb
  refine call_meetsIn PySem.F.slot_dict_update dda.typeIs PySem.F.entry_dict_update (PySem.F.args_dict_update_2 _ _) (meets_dict_update (mixKind X.prog X.w) a b ne hdb)
    ⟨va, vb, dda, ddb, by rw [← rela.length, ← relb.length]; exact hz, fun h' dd' _ hs => ?_⟩
  have he : ∃ q, h'.get? a = some q := let ⟨q, _, _, hq, _⟩ := dd'; ⟨q, hq⟩
  exact ⟨.non, upd H a (.dK (mergeK kvs more)), d_write I (by rw [ea]; exact True.intro) hs he (dk_new (Nat.le_trans (length_mergeK more kvs) hz) hda (KV.merge relb rela) dd'), rfl, q⟩
/-- a dict == {}, != {} -/
def rEq0 : R2 := fun x y H Q => ∃ a b kvs, x = .ref a ∧ y = .ref b ∧ H a = some (.dK kvs) ∧ H b = some (.dK []) ∧ Q (.bl (decide (kvs = []))) H
def rNe0 : R2 := fun x y H Q => ∃ a b kvs, x = .ref a ∧ y = .ref b ∧ H a = some (.dK kvs) ∧ H b = some (.dK []) ∧ Q (.bl (!decide (kvs = []))) H
theorem kv_none {vs : List (Key × Value)} (r : KV [] vs) : vs = [] := by
  have := r.length
  exact List.length_eq_zero_iff.mp this.symm
theorem len_zero {ks : List (Key × V)} {va : List (Key × Value)} (ra : KV ks va) : (va.length == ([] : List (Key × Value)).length && true) = decide (ks = []) := by
  rw [← ra.length, Bool.and_true]
  cases ks with
  | nil => rfl
  | cons p r => rfl
theorem op_eq_d0 {X : Cx} (hu : X.A.units < cLine) : OpR X (compareOp .Eq) rEq0 := by
  intro pins s σ H x y v u Q I rx ry h
  obtain ⟨a, b, ks, rfl, rfl, ea, eb, q⟩ := h
  obtain rfl : v = Value.ref a := rx
  obtain rfl : u = Value.ref b := ry
  obtain ⟨_, ya, va, ra, da⟩ := (show ObjOk X.prog X.w H s.heap a (.dK ks) from I.hok a _ ea)
  obtain ⟨_, yb, vb, rb, db⟩ := (show ObjOk X.prog X.w H s.heap b (.dK []) from I.hok b _ eb)
  obtain rfl := kv_none rb
  exact PySem.W.keq_eq (knd := mixKind X.prog X.w) (r := true) ya yb da db hu (fun hl => by
    have : va = [] := List.length_eq_zero_iff.mp hl
    subst this
    obtain rfl : ks = [] := List.length_eq_zero_iff.mp ra.length
    exact hits_all rb ra fun p hp => nomatch hp) (fin_bl I q (len_zero ra).symm)
theorem op_ne_d0 {X : Cx} (hu : X.A.units < cLine) : OpR X (compareOp .NotEq) rNe0 := by
  intro pins s σ H x y v u Q I rx ry h
  obtain ⟨a, b, ks, rfl, rfl, ea, eb, q⟩ := h
  obtain rfl : v = Value.ref a := rx
  obtain rfl : u = Value.ref b := ry
  obtain ⟨_, ya, va, ra, da⟩ := (show ObjOk X.prog X.w H s.heap a (.dK ks) from I.hok a _ ea)
  obtain ⟨_, yb, vb, rb, db⟩ := (show ObjOk X.prog X.w H s.heap b (.dK []) from I.hok b _ eb)
  obtain rfl := kv_none rb
  exact PySem.W.keq_ne (knd := mixKind X.prog X.w) (r := true) ya yb da db hu (fun hl => by
    have : va = [] := List.length_eq_zero_iff.mp hl
    subst this
    obtain rfl : ks = [] := List.length_eq_zero_iff.mp ra.length
    exact hits_all rb ra fun p hp => nomatch hp) (fin_bl I q (by rw [len_zero ra]))
end Vf
namespace Vf
open PySem PySem.Spec PyProof.Rows L2
/-! ### the text by places -/
def topS (i : Nat) : Stmt := PySem.Challenge.pw_attachhall_k12_sessions_of_one_name.main.body.getD i (.Pass ⟨0, 0, 0, 0⟩)
end Vf
namespace Vf
open PySem PySem.Spec PyProof.Rows L2 Evl
/-! ### the box of numbers -/
abbrev sBeg : Stmt := topS 65
theorem scBeg : FnScope ["_law_script", "_law_stirred", "_law_cell"] ["_law_script"] (defScope sBeg) := ⟨rfl, rfl, rfl, by decide +kernel, rfl, by decide +kernel, by decide +kernel⟩
structure TBeg (mg : Str → Option Value) : Prop where
  z_list : mg "list" = none
  z_int : mg "int" = none
  z_len : mg "len" = none
section
variable {P : Program} {w : World} {K : PySem.W.Frag} {mg : Str → Option Value} {base : Heap}
def spBegO (K : PySem.W.Frag) : Sp := fun vs H Q _ => ∃ (a : Addr) (ns : List Int), vs = [.ref a] ∧ SqL K H a (ns.map V.int) ∧ ns.length ≤ 63 ∧
  ∀ (b l : Addr) (z : Int) (ns' : List Int) (H' : Hp), b ≠ l → Ex H H' → H b = none → H l = none → H' b = some (.lst [.ref l, .int z]) → H' l = some (.lst (ns'.map V.int)) → Q (.ref b) H'
def spBeg (K : PySem.W.Frag) : Sp := fun vs H Q _ => ∃ (a : Addr) (ns : List Int), vs = [.ref a] ∧ SqL K H a (ns.map V.int) ∧ ns.length ≤ 63 ∧
  ∀ (b l : Addr) (H' : Hp), Ex H H' → Box H' b l → Q (.ref b) H'
theorem ok_begun0 {f : Addr} {fd : FuncData} (F : Fun K "_law_begun" "_law_begun" sBeg f fd) (T : TBeg mg) : FnOk P w K mg base CX0 1 f fd ["_law_script"] (spBegO K) := by
  refine F.ok scBeg (fun vs H Q E h => ?_) (fun cdv A outer s H vs Q E hr h => ?_)
  · obtain ⟨a, ns, rfl, _⟩ := h
    rfl
  · obtain ⟨a, ns, rfl, hS, hlen, q⟩ := h
    refine ⟨_, (pss_cons (ps_set (i := 1) scBeg.nd rfl (Or.inl rfl) pe_int)
      (pss_cons (ps_for PassesOwn.never rfl (pi_list (pv 0)) (pg_name (i := 2) scBeg.nd rfl (Or.inl rfl)) (pss_one (ps_set (i := 1) scBeg.nd rfl (Or.inl rfl) (pe_op op_mod (pe_op op_add (pe_op op_add (pe_op op_mul (pv 1) pe_int) (pe_op op_mul (pv 2) pe_int)) pe_int) pe_int))))
      (pss_one (ps_ret (pe_lst (pa_cons (pe_callTy call_list_of (by rfl) T.z_list boot_list (pa_cons (pv 0) pa_nil)) (pa_cons (pe_op op_mul (pv 1) (pe_callTy call_int1 (by rfl) T.z_int boot_int (pa_cons (pe_cmpR op_gt (pe_callB call_len_seq (by rfl) T.z_len PySem.boot_len (pa_cons (pv 0) pa_nil)) pe_int (nomark _)) pa_nil))) pa_nil))))))), ?_⟩
    refine ⟨.ref a, rfl, a, rfl, ⟨_, hS⟩, for_list (K := K) (a := a) (xs := ns.map V.int) (fun i σ H' => ∃ (z : Int) (c : Option V), σ = [some (.ref a), some (.int z), c] ∧ -(2 ^ 64) < z ∧ z < 2 ^ 64 ∧ H' = H)
      ⟨0, none, rfl, by decide, by decide, rfl⟩ (fun i σ H' _ ⟨_, _, _, _, _, e⟩ => by rw [e]; exact hS) ?_ ?_⟩
    · rintro i y σ H' hi ⟨z, c, rfl, h1, h2, rfl⟩
      obtain ⟨u, rfl⟩ : ∃ u, y = V.int u := by
        rw [List.getElem?_map] at hi
        cases e : ns[i]? with
        | none =>
          rw [e] at hi
          cases hi
        | some u =>
          rw [e] at hi
          exact ⟨u, (Option.some.inj hi).symm⟩
      refine ⟨_, rfl, z, 48271, rfl, rfl, .inl ⟨h1, h2⟩, _, rfl, u, 69621, rfl, rfl, .inr (by decide), _, _, rfl, rfl, _, _, rfl, rfl, _, _, rfl, rfl, (by show (0 : Int) < 2147483647; decide), ?_⟩
      refine ⟨_, _, rfl, ?_, ?_, rfl⟩
      · exact Int.lt_of_lt_of_le (by decide) (Int.emod_nonneg _ (by decide))
      · exact Int.lt_of_lt_of_le (Int.emod_lt_of_pos _ (by decide)) (by decide)
    · rintro σ H' ⟨z, c, rfl, h1, h2, rfl⟩
      refine ⟨.ref a, rfl, a, _, rfl, .inl hS, fun l nl => ?_⟩
      have kl : Ex H' (upd H' l (.lst (ns.map V.int))) := Ex.new nl
      have hl : upd H' l (.lst (ns.map V.int)) l = some (.lst (ns.map V.int)) := upd_same
      generalize upd H' l (.lst (ns.map V.int)) = H1 at kl hl ⊢
      have fin : ∀ (k : Bool) (Q' : VK), Q' = Q → (rI CMul fun i j => .int (i * j)) (.int z) (.int (if k then 1 else 0)) H1 fun x H2 => (fun xs H3 => xs.length ≤ sizeLine ∧ ∀ p, H3 p = none → Q' (.ref p) (upd H3 p (.lst xs))) [.ref l, x] H2 := fun k Q' e => by
        subst e
        refine ⟨_, _, rfl, rfl, .inl ⟨h1, h2⟩, (by show 2 ≤ sizeLine; decide), fun b nb => ?_⟩
        have hbl : b ≠ l := (ne_of_none hl nb).symm
        exact q b l _ ns _ hbl (kl.trans (Ex.new nb)) (by
          cases e : H' b with
          | none => rfl
          | some o => rw [kl _ _ e] at nb; cases nb) nl upd_same (by rw [upd_ne hbl.symm]; exact hl)
      refine ⟨.int z, rfl, .ref a, rfl, a, _, rfl, .inl (ex_l kl hS), _, _, rfl, rfl, .inr ⟨_, rfl, ?_⟩⟩
      exact fin _ _ rfl
theorem ok_begun {f : Addr} {fd : FuncData} (F : Fun K "_law_begun" "_law_begun" sBeg f fd) (T : TBeg mg) : FnOk P w K mg base CX0 1 f fd ["_law_script"] (spBeg K) := by
  have G : FnOk P w K mg base CX0 1 f fd ["_law_script"] (spBegO K) := ok_begun0 F T
  refine ⟨fun vs H Q E h => ?_, fun A outer s H args us vs Q E hr e0 hb hv h => ?_⟩
  · obtain ⟨a, ns, rfl, _⟩ := h
    rfl
  · obtain ⟨a, ns, rfl, hS, hlen, q⟩ := h
    refine codeAny_mono (G.run A outer s H args us [.ref a] (fun v H2 => ∃ b l z ns, v = .ref b ∧ b ≠ l ∧ Ex H H2 ∧ H b = none ∧ H l = none ∧ H2 b = some (.lst [.ref l, .int z]) ∧ H2 l = some (.lst (ns.map V.int))) E hr e0 hb hv
      ⟨a, ns, rfl, hS, hlen, fun b l z ns' H' h1 h2 h3 h4 h5 h6 => ⟨b, l, z, ns', rfl, h1, h2, h3, h4, h5, h6⟩⟩) fun r s' hq => ?_
    cases r with
    | error e => exact hq
    | ok fl =>
      cases fl with
      | ret u =>
        obtain ⟨v, H2, os, bare, un, hok, rv, b, l, z, ns2, rfl, hne, ex, n1, n2, hb2, hl2⟩ := hq
        exact ⟨.ref b, closed H2 b l, os, bare, un_new un n1 n2 hb2 hl2, hok_close hok hb2 hl2, rv, q b l _ (ex_new2 ex n1 n2) ⟨hne, upd_same, by unfold closed; rw [upd_ne (Ne.symm hne), upd_same]⟩⟩
      | next => exact hq
      | brk => exact hq
      | cont => exact hq
end
end Vf
namespace Vf
open PySem PySem.Spec PyProof.Rows L2 Evl
/-! ### a draw -/
abbrev sTak : Stmt := topS 66
theorem scTak : FnScope ["_law_box", "_law_many", "_law_number"] ["_law_box", "_law_many"] (defScope sTak) := ⟨rfl, rfl, rfl, by decide +kernel, rfl, by decide +kernel, by decide +kernel⟩
section
variable {P : Program} {w : World} {K : PySem.W.Frag} {mg : Str → Option Value} {base : Heap}
theorem ok_take {f : Addr} {fd : FuncData} (F : Fun K "_law_take" "_law_take" sTak f fd) (m : Int) (h0 : 0 < m) (h1 : m < 1073741824) :
    FnOk P w K mg base CX0 1 f fd ["_law_box", "_law_many"] (spOpen (fun v => ∃ i, v = V.int i ∧ 0 ≤ i ∧ i < m) (fun r => r = [V.int m])) := by
  refine F.ok scTak (fun vs H Q E h => ?_) (fun cdv A outer s H vs Q E hr h => ?_)
  · obtain ⟨b, l, z, ns, rest, rfl, rfl, _⟩ := h
    rfl
  · obtain ⟨b, l, z, ns, rest, rfl, rfl, hne, hb, hl, q⟩ := h
    refine ⟨_, (pss_cons (ps_if (pt_cmpR (op_eqD hr.units) (pe_ix ix_list (pv 0) pe_int (fun _ _ => rfl)) (pe_lst pa_nil) (nomark _)) (pss_cons (ps_asg (pe_op op_mod (pe_op op_mul (pe_ix ix_list (pv 0) pe_int (fun _ _ => rfl)) pe_int) pe_int) (pg_sub (pv 0) pe_int set_list))
      (pss_one (ps_ret (pe_op op_mod (pe_op op_fdivN (pe_ix ix_list (pv 0) pe_int (fun _ _ => rfl)) pe_int) (pv 1))))) pss_nil)
      (pss_cons (ps_set (i := 2) scTak.nd rfl (Or.inl rfl) (pe_ix ix_list (pe_ix ix_list (pv 0) pe_int (fun _ _ => rfl)) pe_int (fun _ _ => rfl)))
      (pss_cons (ps_asg (pe_op op_fdivN (pv 2) (pv 1)) (pg_sub (pe_ix ix_list (pv 0) pe_int (fun _ _ => rfl)) pe_int set_list))
      (pss_cons (ps_if (PW.pt (pw_or (pt_cmpR op_eq (pe_ix ix_list (pe_ix ix_list (pv 0) pe_int (fun _ _ => rfl)) pe_int (fun _ _ => rfl)) pe_int (nomark _)) (pw_or1 (pt_cmpR op_eq (pe_ix ix_list (pe_ix ix_list (pv 0) pe_int (fun _ _ => rfl)) pe_int (fun _ _ => rfl)) (pe_un un_neg pe_int) (nomark _))))) (pss_one (ps_expr (pe_bm PySem.F.plainAttrs_list PySem.F.slot_list_pop PySem.F.type_list_pop mt_popAt (pe_ix ix_list (pv 0) pe_int (fun _ _ => rfl)) (pa_cons pe_int pa_nil)))) pss_nil)
      (pss_one (ps_ret (pe_op op_mod (pv 2) (pv 1)))))))), ?_⟩
    have hmod : ∀ i : Int, ∃ j, V.int (i % m) = V.int j ∧ 0 ≤ j ∧ j < m := fun i => ⟨i % m, rfl, Int.emod_nonneg _ (by omega), Int.emod_lt_of_pos _ h0⟩
    refine ⟨.ref b, rfl, b, _, 0, .ref l, rfl, rfl, SqL.of hb, atI_nat (j := 0) rfl, Nat.zero_le _, fun p np => ?_⟩
    have kp : ∀ c o, H c = some o → (upd H p (.lst [])) c = some o := fun c o e => by rw [upd_ne (ne_of_none e np)]; exact e
    have hb1 := kp _ _ hb
    have hl1 := kp _ _ hl
    have pp : (upd H p (.lst [])) p = some (.lst []) := upd_same
    generalize upd H p (HO.lst []) = H1 at kp hb1 hl1 pp ⊢
    refine ⟨.list (ns.map PyData.int), .list [], .lst (SqL.of hl1) (dp_ints ns), .lst (SqL.of pp) .nil, sh_ints ns, rfl, _, rfl, ?_⟩
    rw [eqv_nil]
    refine ite2 (fun e => ?_) (fun e => ?_)
    · have e0 : ns = [] := of_decide_eq_true e
      subst e0
      -- the second number turned on
      refine ⟨.ref b, rfl, b, _, 1, .int z, rfl, rfl, SqL.of hb1, atI_nat (j := 1) rfl, _, _, rfl, rfl, .inr (by decide), _, _, rfl, rfl, (by show (0 : Int) < 2147483647; decide), .ref b, rfl, b, _, 1, 1, rfl, rfl, hb1, rfl, ?_⟩
      refine ⟨.ref b, rfl, b, _, 1, .int (z * 48271 % 2147483647), rfl, rfl, SqL.of upd_same, atI_nat (j := 1) rfl, _, _, rfl, rfl, ⟨by decide, by decide⟩, _, rfl, _, _, rfl, rfl, h0, ?_⟩
      refine q _ _ (z * 48271 % 2147483647) [] (hmod _) (fun c o h2 h3 e => by rw [upd_ne h2]; exact kp c o e) upd_same (by rw [upd_ne (Ne.symm hne)]; exact hl1)
    · have e0 : ns ≠ [] := fun z => e (decide_eq_true z)
      obtain ⟨n, r, rfl⟩ : ∃ n r, ns = n :: r := by
        cases ns with
        | nil => exact absurd rfl e0
        | cons n r => exact ⟨n, r, rfl⟩
      refine ⟨.ref b, rfl, b, _, 0, .ref l, rfl, rfl, SqL.of hb1, atI_nat (j := 0) rfl, l, _, 0, .int n, rfl, rfl, SqL.of hl1, atI_nat (j := 0) rfl, ?_⟩
      refine ⟨.int n, rfl, .int m, rfl, _, _, rfl, rfl, ⟨by omega, by omega⟩, .ref b, rfl, b, _, 0, .ref l, rfl, rfl, SqL.of hb1, atI_nat (j := 0) rfl, l, _, 0, 0, rfl, rfl, hl1, ixN_nat (j := 0) (by simp), ?_⟩
      have hb2 : upd H1 l (.lst (((n :: r).map V.int).set 0 (.int (n.fdiv m)))) b = some (.lst [.ref l, .int z]) := by rw [upd_ne hne]; exact hb1
      have hl2 : upd H1 l (.lst (((n :: r).map V.int).set 0 (.int (n.fdiv m)))) l = some (.lst ((n.fdiv m :: r).map V.int)) := upd_same
      have kp2 : ∀ c o, c ≠ l → H c = some o → upd H1 l (.lst (((n :: r).map V.int).set 0 (.int (n.fdiv m)))) c = some o := fun c o h e => by rw [upd_ne h]; exact kp c o e
      generalize upd H1 l (.lst (((n :: r).map V.int).set 0 (.int (n.fdiv m)))) = H2 at hb2 hl2 kp2 ⊢
      have fin : ∀ (H' : Hp) (ns' : List Int), (∀ c o, c ≠ b → c ≠ l → H c = some o → H' c = some o) → H' b = some (.lst [.ref l, .int z]) → H' l = some (.lst (ns'.map V.int)) → Q (.int (n % m)) H' := fun H' ns' h2 h3 h4 => q _ _ z ns' (hmod _) h2 h3 h4
      have fin2 : ∀ (H' : Hp) (ns' : List Int), (∀ c o, c ≠ b → c ≠ l → H c = some o → H' c = some o) → H' b = some (.lst [.ref l, .int z]) → H' l = some (.lst (ns'.map V.int)) →
          tRet (tOp (rI (fun _ j => 0 < j) fun i j => .int (i % j)) (tVar 2) (tVar 1)) { nx := fun _ H' => Q .non H', rt := Q } [some (V.ref b), some (V.int m), some (V.int n)] H' :=
        fun H' ns' h2 h3 h4 => ⟨.int n, rfl, .int m, rfl, _, _, rfl, rfl, h0, fin H' ns' h2 h3 h4⟩
      have pop : tDrop (tBM K "list" rPopAt (tOp (rIxL K) (tVar 0) (tC (.int 0))) (tCons (tC (.int 0)) tNil)) { nx := fun σ H => tRet (tOp (rI (fun _ j => 0 < j) fun i j => .int (i % j)) (tVar 2) (tVar 1)) { nx := fun _ H' => Q .non H', rt := Q } σ H, rt := Q } [some (V.ref b), some (V.int m), some (V.int n)] H2 := by
        refine ⟨.ref b, rfl, b, _, 0, .ref l, rfl, rfl, SqL.of hb2, atI_nat (j := 0) rfl, .inl ⟨rfl, _, SqL.of hl2⟩, l, _, 0, 0, .int (n.fdiv m), rfl, rfl, hl2, by decide, by decide, seq0 _ _, rfl, ?_⟩
        exact fin2 _ r (fun c o _ h3 e => by rw [upd_ne h3]; exact kp2 c o h3 e) (by rw [upd_ne hne]; exact hb2) upd_same
      refine ⟨.ref b, rfl, b, _, 0, .ref l, rfl, rfl, SqL.of hb2, atI_nat (j := 0) rfl, l, _, 0, .int (n.fdiv m), rfl, rfl, SqL.of hl2, atI_nat (j := 0) rfl, rfl, _, rfl, ?_⟩
      refine ite2 (fun _ => iteT pop) (fun _ => ?_)
      refine ⟨.ref b, rfl, b, _, 0, .ref l, rfl, rfl, SqL.of hb2, atI_nat (j := 0) rfl, l, _, 0, .int (n.fdiv m), rfl, rfl, SqL.of hl2, atI_nat (j := 0) rfl, 1, rfl, rfl, _, rfl, ?_⟩
      exact ite2 (fun _ => pop) (fun _ => fin2 H2 _ (fun c o _ h3 e => kp2 c o h3 e) hb2 hl2)
def spTak : Sp := fun vs H Q _ => ∃ (b l : Addr) (m : Int), vs = [.ref b, .int m] ∧ Box H b l ∧ 0 < m ∧ m < 1073741824 ∧ ∀ (i : Int) (H' : Hp), Ex H H' → 0 ≤ i → i < m → Q (.int i) H'
theorem ok_take2 {f : Addr} {fd : FuncData} (F : Fun K "_law_take" "_law_take" sTak f fd) : FnOk P w K mg base CX0 1 f fd ["_law_box", "_law_many"] spTak := by
  have G := hide_fn (P := P) (w := w) (K := K) (mg := mg) (base := base) (k := 1) (f := f) (fd := fd) (ps := ["_law_box", "_law_many"]) (R := fun r v => ∃ m i, r = [V.int m] ∧ v = V.int i ∧ 0 ≤ i ∧ i < m) (pre := fun r => ∃ m, r = [V.int m] ∧ 0 < m ∧ m < 1073741824)
    (fun r0 ⟨m, e, h0, h1⟩ => (ok_take F m h0 h1).imp fun vs H Q E ⟨b, l, z, ns, rest, e1, e2, e3, e4, e5, q⟩ => ⟨b, l, z, ns, rest, e1, e2.trans e, e3, e4, e5, fun v H' z' ns' ⟨i, x1, x2, x3⟩ => q v H' z' ns' ⟨m, i, e, x1, x2, x3⟩⟩)
    (fun r ⟨m, e, _⟩ => by rw [e]; rfl)
  refine G.imp fun vs H Q E ⟨b, l, m, e, B, h0, h1, q⟩ => ⟨b, l, [.int m], e, ⟨m, rfl, h0, h1⟩, B, fun v H' ⟨m', i, x1, x2, x3, x4⟩ ex => ?_⟩
  have em : m = m' := V.int.inj (List.cons.inj x1).1
  subst em
  subst x2
  exact q i H' ex x3 x4
end
structure CTak (P : Program) (w : World) (K : PySem.W.Frag) (mg : Str → Option Value) (base : Heap) : Prop where
  law_take : Cal P w K mg base "_law_take" 1 ["_law_box", "_law_many"] spTak
end Vf
namespace Vf
open PySem PySem.Spec PyProof.Rows L2 Evl
/-! ### the same data -/
abbrev sAli : Stmt := topS 67
theorem scAli : FnScope ["_law_found", "_law_due", "_law_k"] ["_law_found", "_law_due"] (defScope sAli) := ⟨rfl, rfl, rfl, by decide +kernel, rfl, by decide +kernel, by decide +kernel⟩
structure TAli (mg : Str → Option Value) : Prop where
  z_bool : mg "bool" = none
  z_int : mg "int" = none
  z_str : mg "str" = none
  z_list : mg "list" = none
  z_tuple : mg "tuple" = none
  z_isinstance : mg "isinstance" = none
  z_len : mg "len" = none
  z_range : mg "range" = none
def spAli (K : PySem.W.Frag) (n : Nat) : Sp := fun vs H Q _ => ∃ (x y : V) (d : PyData), vs = [x, y] ∧ Dp K H x d ∧ Dp K H y d ∧ good n d = true ∧ n ≤ 60 ∧ Q (.bl true) H
theorem isi_of {K : PySem.W.Frag} {H : Hp} {x : V} {t u : String} {b : Bool} {Q : VK} (ty : TyX K H x (.type t)) (h : kitB t u = some b) (q : Q (.bl b) H) : rIsi K [x, .ty u] H Q := ⟨x, .ty u, _, _, b, rfl, .ty u, ty, kit_ty h, q⟩
theorem sh_of {d : PyData} {n : Nat} (h : PyData.canLay0 d = true) (hd : PyData.depth d ≤ n) (hn : n ≤ 60) : SeqAt.shaped d = true := by
  show (PyData.canLay0 d && decide (PyData.depth d ≤ 64)) = true
  rw [h, decide_eq_true (by omega)]
  rfl
theorem dpall_get {K : PySem.W.Frag} {H : Hp} : ∀ {xs : List V} {ds : List PyData} {i : Nat} {d : PyData}, DpAll K H xs ds → ds[i]? = some d → ∃ x, xs[i]? = some x ∧ Dp K H x d
  | _, _, _, _, .nil, e => by simp at e
  | _, _, 0, _, .cons h _, e => by
    simp at e
    subst e
    exact ⟨_, rfl, h⟩
  | _, _, i + 1, _, .cons _ t, e => by
    obtain ⟨x, h1, h2⟩ := dpall_get (i := i) t (by simpa using e)
    exact ⟨x, by simpa using h1, h2⟩
theorem dpall_len {K : PySem.W.Frag} {H : Hp} : ∀ {xs : List V} {ds : List PyData}, DpAll K H xs ds → xs.length = ds.length
  | _, _, .nil => rfl
  | _, _, .cons _ t => by rw [List.length_cons, List.length_cons, dpall_len t]
theorem depth_get : ∀ {ds : List PyData} {i : Nat} {d : PyData}, ds[i]? = some d → PyData.depth d ≤ PyData.depthAll ds
  | [], _, _, e => by simp at e
  | x :: r, 0, d, e => by
    simp at e
    subst e
    exact Nat.le_max_left _ _
  | x :: r, i + 1, d, e => Nat.le_trans (depth_get (ds := r) (i := i) (by simpa using e)) (Nat.le_max_right _ _)
theorem lay_get : ∀ {ds : List PyData} {i : Nat} {d : PyData}, PyData.canLayAll0 ds = true → ds[i]? = some d → PyData.canLay0 d = true
  | [], _, _, _, e => by simp at e
  | x :: r, 0, d, h, e => by
    simp at e
    subst e
    exact (Bool.and_eq_true_iff.mp (show (PyData.canLay0 x && PyData.canLayAll0 r) = true from h)).1
  | x :: r, i + 1, d, h, e => lay_get (ds := r) (i := i) (Bool.and_eq_true_iff.mp (show (PyData.canLay0 x && PyData.canLayAll0 r) = true from h)).2 (by simpa using e)
theorem ty_list {K : PySem.W.Frag} {H : Hp} {a : Addr} {xs : List V} (h : SqL K H a xs) : TyX K H (.ref a) (.type "list") := by
  rcases h with (h | ⟨o, h⟩) | h
  · exact .base (.lst h)
  · exact .base (.frz h)
  · obtain ⟨_, _, _, h, c, _⟩ := h
    exact .kList h c
theorem ty_tup {K : PySem.W.Frag} {H : Hp} {a : Addr} {xs : List V} (h : SqT K H a xs) : TyX K H (.ref a) (.type "tuple") := by
  rcases h with (h | ⟨o, h⟩) | h
  · exact .base (.tup h)
  · exact .fTuple h
  · obtain ⟨_, _, _, h, c, _⟩ := h
    exact .kTuple h c
section
variable {P : Program} {w : World} {K : PySem.W.Frag} {mg : Str → Option Value} {base : Heap}
structure CAli (P : Program) (w : World) (K : PySem.W.Frag) (mg : Str → Option Value) (base : Heap) (k : Nat) (sp : Sp) : Prop where
  law_alike : Cal P w K mg base "_law_alike" k ["_law_found", "_law_due"] sp
theorem ok_alike1 {f : Addr} {fd : FuncData} {k n : Nat} {sp : Sp} (F : Fun K "_law_alike" "_law_alike" sAli f fd) (T : TAli mg) (C : CAli P w K mg base k sp)
    (hC : ∀ (x y : V) (d : PyData) (H : Hp) (Q : VK) (E : XK), Dp K H x d → Dp K H y d → (∃ m, n = m + 1 ∧ good m d = true) → n ≤ 60 → Q (.bl true) H → sp [x, y] H Q E) : FnOk P w K mg base CX0 (k + 1) f fd ["_law_found", "_law_due"] (spAli K n) := by
  refine F.ok scAli (fun vs H Q E h => ?_) (fun cdv A outer s H vs Q E hr h => ?_)
  · obtain ⟨x, y, d, rfl, _⟩ := h
    rfl
  · obtain ⟨x, y, d, rfl, hx, hy, hg, hn, q⟩ := h
    obtain ⟨hl, hd⟩ := good_lay n d hg
    refine ⟨_, (pss_cons (ps_if (pt_cmpR op_isN (pv 1) pe_non (nomark _)) (pss_one (ps_ret (pe_cmpR op_isN (pv 0) pe_non (nomark _)))) pss_nil)
      (pss_cons (ps_if (pt_val (pe_callB call_isi (by rfl) T.z_isinstance boot_isinstance (pa_cons (pv 1) (pa_cons (pe_bltn (v := .ty "bool") (by rfl) T.z_bool boot_bool rfl) pa_nil)))) (pss_one (ps_ret (pe_and (pe_callB call_isi (by rfl) T.z_isinstance boot_isinstance (pa_cons (pv 0) (pa_cons (pe_bltn (v := .ty "bool") (by rfl) T.z_bool boot_bool rfl) pa_nil))) (pe_one (pe_cmpR (op_eqD hr.units) (pv 0) (pv 1) (nomark _)))))) pss_nil)
      (pss_cons (ps_if (pt_val (pe_callB call_isi (by rfl) T.z_isinstance boot_isinstance (pa_cons (pv 1) (pa_cons (pe_bltn (v := .ty "int") (by rfl) T.z_int boot_int rfl) pa_nil)))) (pss_one (ps_ret (pe_and (pe_callB call_isi (by rfl) T.z_isinstance boot_isinstance (pa_cons (pv 0) (pa_cons (pe_bltn (v := .ty "int") (by rfl) T.z_int boot_int rfl) pa_nil))) (pe_and (pe_not (pe_callB call_isi (by rfl) T.z_isinstance boot_isinstance (pa_cons (pv 0) (pa_cons (pe_bltn (v := .ty "bool") (by rfl) T.z_bool boot_bool rfl) pa_nil)))) (pe_one (pe_cmpR (op_eqD hr.units) (pv 0) (pv 1) (nomark _))))))) pss_nil)
      (pss_cons (ps_if (pt_val (pe_callB call_isi (by rfl) T.z_isinstance boot_isinstance (pa_cons (pv 1) (pa_cons (pe_bltn (v := .ty "str") (by rfl) T.z_str boot_str rfl) pa_nil)))) (pss_one (ps_ret (pe_and (pe_callB call_isi (by rfl) T.z_isinstance boot_isinstance (pa_cons (pv 0) (pa_cons (pe_bltn (v := .ty "str") (by rfl) T.z_str boot_str rfl) pa_nil))) (pe_one (pe_cmpR (op_eqD hr.units) (pv 0) (pv 1) (nomark _)))))) pss_nil)
      (pss_cons (ps_if (PW.pt (pw_or (pt_cmpR op_ne (pe_callB call_isi (by rfl) T.z_isinstance boot_isinstance (pa_cons (pv 1) (pa_cons (pe_bltn (v := .ty "tuple") (by rfl) T.z_tuple boot_tuple rfl) pa_nil))) (pe_callB call_isi (by rfl) T.z_isinstance boot_isinstance (pa_cons (pv 0) (pa_cons (pe_bltn (v := .ty "tuple") (by rfl) T.z_tuple boot_tuple rfl) pa_nil))) (nomark _)) (pw_or1 (pt_cmpR op_ne (pe_callB call_isi (by rfl) T.z_isinstance boot_isinstance (pa_cons (pv 1) (pa_cons (pe_bltn (v := .ty "list") (by rfl) T.z_list boot_list rfl) pa_nil))) (pe_callB call_isi (by rfl) T.z_isinstance boot_isinstance (pa_cons (pv 0) (pa_cons (pe_bltn (v := .ty "list") (by rfl) T.z_list boot_list rfl) pa_nil))) (nomark _))))) (pss_one (ps_ret pe_bl)) pss_nil)
      (pss_cons (ps_if (pt_cmpR op_ne (pe_callB call_len_seq (by rfl) T.z_len PySem.boot_len (pa_cons (pv 0) pa_nil)) (pe_callB call_len_seq (by rfl) T.z_len PySem.boot_len (pa_cons (pv 1) pa_nil)) (nomark _)) (pss_one (ps_ret pe_bl)) pss_nil)
      (pss_cons (ps_for PassesOwn.never rfl (pi_range1 rfl T.z_range (pa_cons (pe_callB call_len_seq (by rfl) T.z_len PySem.boot_len (pa_cons (pv 1) pa_nil)) pa_nil)) (pg_name (i := 2) scAli.nd rfl (Or.inl rfl)) (pss_one (ps_if (pt_not (pt_val (pcall C.law_alike (hr.mono (by first | decide | omega)) (pa_cons (pe_ix ix_seq (pv 0) (pv 2) (fun _ _ => rfl)) (pa_cons (pe_ix ix_seq (pv 1) (pv 2) (fun _ _ => rfl)) pa_nil))))) (pss_one (ps_ret pe_bl)) pss_nil)))
      (pss_one (ps_ret pe_bl))))))))), ?_⟩
    refine ⟨y, rfl, rfl, _, rfl, ?_⟩
    cases d with
    | none =>
      cases hx
      cases hy
      rw [decide_eq_true rfl]
      refine iteT ?_
      exact ⟨.non, rfl, rfl, q⟩
    | bool b =>
      cases hx
      cases hy
      refine iteF ?_
      refine ⟨.bl b, rfl, ?_⟩
      refine ⟨_, .ty "bool", _, _, true, rfl, .ty "bool", (.base (.bl b)), kit_ty (show kitB "bool" "bool" = some true by decide +kernel), ?_⟩
      refine ⟨_, rfl, iteT ?_⟩
      refine ⟨.bl b, rfl, ?_⟩
      refine ⟨_, .ty "bool", _, _, true, rfl, .ty "bool", (.base (.bl b)), kit_ty (show kitB "bool" "bool" = some true by decide +kernel), ?_⟩
      refine ⟨_, rfl, iteT ?_⟩
      refine ⟨.bl b, rfl, .bl b, rfl, .bool b, .bool b, .bl b, .bl b, rfl, rfl, ?_⟩
      rw [SeqAt.eqv_refl _ rfl]
      exact q
    | int i =>
      cases hx
      cases hy
      refine iteF ?_
      refine ⟨.int i, rfl, ?_⟩
      refine ⟨_, .ty "bool", _, _, false, rfl, .ty "bool", (.base (.int i)), kit_ty (show kitB "int" "bool" = some false by decide +kernel), ?_⟩
      refine ⟨_, rfl, iteF ?_⟩
      refine ⟨.int i, rfl, ?_⟩
      refine ⟨_, .ty "int", _, _, true, rfl, .ty "int", (.base (.int i)), kit_ty (show kitB "int" "int" = some true by decide +kernel), ?_⟩
      refine ⟨_, rfl, iteT ?_⟩
      refine ⟨.int i, rfl, ?_⟩
      refine ⟨_, .ty "int", _, _, true, rfl, .ty "int", (.base (.int i)), kit_ty (show kitB "int" "int" = some true by decide +kernel), ?_⟩
      refine ⟨_, rfl, iteT ?_⟩
      refine ⟨.int i, rfl, ?_⟩
      refine ⟨_, .ty "bool", _, _, false, rfl, .ty "bool", (.base (.int i)), kit_ty (show kitB "int" "bool" = some false by decide +kernel), ?_⟩
      refine ⟨_, rfl, _, rfl, iteT ?_⟩
      refine ⟨.int i, rfl, .int i, rfl, .int i, .int i, .int i, .int i, rfl, rfl, ?_⟩
      rw [SeqAt.eqv_refl _ rfl]
      exact q
    | str z =>
      cases hx
      cases hy
      have hs := sh_of hl hd hn
      refine iteF ?_
      refine ⟨.str z, rfl, ?_⟩
      refine ⟨_, .ty "bool", _, _, false, rfl, .ty "bool", (.base (.str z)), kit_ty (show kitB "str" "bool" = some false by decide +kernel), ?_⟩
      refine ⟨_, rfl, iteF ?_⟩
      refine ⟨.str z, rfl, ?_⟩
      refine ⟨_, .ty "int", _, _, false, rfl, .ty "int", (.base (.str z)), kit_ty (show kitB "str" "int" = some false by decide +kernel), ?_⟩
      refine ⟨_, rfl, iteF ?_⟩
      refine ⟨.str z, rfl, ?_⟩
      refine ⟨_, .ty "str", _, _, true, rfl, .ty "str", (.base (.str z)), kit_ty (show kitB "str" "str" = some true by decide +kernel), ?_⟩
      refine ⟨_, rfl, iteT ?_⟩
      refine ⟨.str z, rfl, ?_⟩
      refine ⟨_, .ty "str", _, _, true, rfl, .ty "str", (.base (.str z)), kit_ty (show kitB "str" "str" = some true by decide +kernel), ?_⟩
      refine ⟨_, rfl, iteT ?_⟩
      refine ⟨.str z, rfl, .str z, rfl, .str z, .str z, .str z, .str z, hs, hs, ?_⟩
      rw [SeqAt.eqv_refl _ hl]
      exact q
    | dict _ => cases hx
    | list ds =>
      cases hx with
      | @lst a xs _ ha hA =>
      cases hy with
      | @lst b ys _ hb hB =>
      have ta := ty_list ha
      have tb := ty_list hb
      refine iteF ?_
      refine ⟨.ref b, rfl, ?_⟩
      refine ⟨_, .ty "bool", _, _, false, rfl, .ty "bool", tb, kit_ty (show kitB "list" "bool" = some false by decide +kernel), ?_⟩
      refine ⟨_, rfl, iteF ?_⟩
      refine ⟨.ref b, rfl, ?_⟩
      refine ⟨_, .ty "int", _, _, false, rfl, .ty "int", tb, kit_ty (show kitB "list" "int" = some false by decide +kernel), ?_⟩
      refine ⟨_, rfl, iteF ?_⟩
      refine ⟨.ref b, rfl, ?_⟩
      refine ⟨_, .ty "str", _, _, false, rfl, .ty "str", tb, kit_ty (show kitB "list" "str" = some false by decide +kernel), ?_⟩
      refine ⟨_, rfl, iteF ?_⟩
      refine ⟨.ref b, rfl, ?_⟩
      refine ⟨_, .ty "tuple", _, _, false, rfl, .ty "tuple", tb, kit_ty (show kitB "list" "tuple" = some false by decide +kernel), ?_⟩
      refine ⟨.ref a, rfl, ?_⟩
      refine ⟨_, .ty "tuple", _, _, false, rfl, .ty "tuple", ta, kit_ty (show kitB "list" "tuple" = some false by decide +kernel), ?_⟩
      refine ⟨rfl, _, rfl, iteF ?_⟩
      refine ⟨.ref b, rfl, ?_⟩
      refine ⟨_, .ty "list", _, _, true, rfl, .ty "list", tb, kit_ty (show kitB "list" "list" = some true by decide +kernel), ?_⟩
      refine ⟨.ref a, rfl, ?_⟩
      refine ⟨_, .ty "list", _, _, true, rfl, .ty "list", ta, kit_ty (show kitB "list" "list" = some true by decide +kernel), ?_⟩
      refine ⟨rfl, _, rfl, iteF ?_⟩
      have el : xs.length = ys.length := (dpall_len hA).trans (dpall_len hB).symm
      refine ⟨.ref a, rfl, a, xs, rfl, .inl ha, .ref b, rfl, b, ys, rfl, .inl hb, rfl, _, rfl, ?_⟩
      rw [el]
      refine iteNS rfl ?_
      cases n with
      | zero => cases hg
      | succ m =>
      have hg2 : (decide (ds.length ≤ 16777216) && ds.all (good m)) = true := hg
      have hlen : ys.length ≤ 16777216 := by
        rw [dpall_len hB]
        exact good_len hg2
      refine ⟨.ref b, rfl, b, ys, rfl, .inl hb, _, rfl, by omega, by omega, ?_⟩
      refine for_range (lo := 0) (n := ((ys.length : Nat) : Int).toNat) (fun i σ H' => ∃ c, σ = [some (.ref a), some (.ref b), c] ∧ H' = H) ⟨none, rfl, rfl⟩ ?_ ?_
      · rintro i σ H' hi ⟨c, rfl, rfl⟩
        have hi2 : i < ds.length := by rw [← dpall_len hB]; omega
        obtain ⟨x, gx, dx⟩ := dpall_get hA (List.getElem?_eq_getElem hi2)
        obtain ⟨y, gy, dy⟩ := dpall_get hB (List.getElem?_eq_getElem hi2)
        refine ⟨.ref a, rfl, _, rfl, .inl ⟨a, xs, _, x, rfl, rfl, ha, at_of (by omega) gx, .ref b, rfl, _, rfl, .inl ⟨b, ys, _, y, rfl, rfl, hb, at_of (by omega) gy, ?_⟩⟩⟩
        exact hC x y _ _ _ _ dx dy ⟨m, rfl, good_get hg2 (List.getElem?_eq_getElem hi2)⟩ hn ⟨_, rfl, iteF ⟨_, rfl, rfl⟩⟩
      · rintro σ H' ⟨c, rfl, rfl⟩
        exact q
    | tuple ds =>
      cases hx with
      | @tup a xs _ ha hA =>
      cases hy with
      | @tup b ys _ hb hB =>
      have ta := ty_tup ha
      have tb := ty_tup hb
      refine iteF ?_
      refine ⟨.ref b, rfl, ?_⟩
      refine ⟨_, .ty "bool", _, _, false, rfl, .ty "bool", tb, kit_ty (show kitB "tuple" "bool" = some false by decide +kernel), ?_⟩
      refine ⟨_, rfl, iteF ?_⟩
      refine ⟨.ref b, rfl, ?_⟩
      refine ⟨_, .ty "int", _, _, false, rfl, .ty "int", tb, kit_ty (show kitB "tuple" "int" = some false by decide +kernel), ?_⟩
      refine ⟨_, rfl, iteF ?_⟩
      refine ⟨.ref b, rfl, ?_⟩
      refine ⟨_, .ty "str", _, _, false, rfl, .ty "str", tb, kit_ty (show kitB "tuple" "str" = some false by decide +kernel), ?_⟩
      refine ⟨_, rfl, iteF ?_⟩
      refine ⟨.ref b, rfl, ?_⟩
      refine ⟨_, .ty "tuple", _, _, true, rfl, .ty "tuple", tb, kit_ty (show kitB "tuple" "tuple" = some true by decide +kernel), ?_⟩
      refine ⟨.ref a, rfl, ?_⟩
      refine ⟨_, .ty "tuple", _, _, true, rfl, .ty "tuple", ta, kit_ty (show kitB "tuple" "tuple" = some true by decide +kernel), ?_⟩
      refine ⟨rfl, _, rfl, iteF ?_⟩
      refine ⟨.ref b, rfl, ?_⟩
      refine ⟨_, .ty "list", _, _, false, rfl, .ty "list", tb, kit_ty (show kitB "tuple" "list" = some false by decide +kernel), ?_⟩
      refine ⟨.ref a, rfl, ?_⟩
      refine ⟨_, .ty "list", _, _, false, rfl, .ty "list", ta, kit_ty (show kitB "tuple" "list" = some false by decide +kernel), ?_⟩
      refine ⟨rfl, _, rfl, iteF ?_⟩
      have el : xs.length = ys.length := (dpall_len hA).trans (dpall_len hB).symm
      refine ⟨.ref a, rfl, a, xs, rfl, .inr ha, .ref b, rfl, b, ys, rfl, .inr hb, rfl, _, rfl, ?_⟩
      rw [el]
      refine iteNS rfl ?_
      cases n with
      | zero => cases hg
      | succ m =>
      have hg2 : (decide (ds.length ≤ 16777216) && ds.all (good m)) = true := hg
      have hlen : ys.length ≤ 16777216 := by
        rw [dpall_len hB]
        exact good_len hg2
      refine ⟨.ref b, rfl, b, ys, rfl, .inr hb, _, rfl, by omega, by omega, ?_⟩
      refine for_range (lo := 0) (n := ((ys.length : Nat) : Int).toNat) (fun i σ H' => ∃ c, σ = [some (.ref a), some (.ref b), c] ∧ H' = H) ⟨none, rfl, rfl⟩ ?_ ?_
      · rintro i σ H' hi ⟨c, rfl, rfl⟩
        have hi2 : i < ds.length := by rw [← dpall_len hB]; omega
        obtain ⟨x, gx, dx⟩ := dpall_get hA (List.getElem?_eq_getElem hi2)
        obtain ⟨y, gy, dy⟩ := dpall_get hB (List.getElem?_eq_getElem hi2)
        refine ⟨.ref a, rfl, _, rfl, .inr (.inl ⟨a, xs, _, x, rfl, rfl, ha, at_of (by omega) gx, .ref b, rfl, _, rfl, .inr (.inl ⟨b, ys, _, y, rfl, rfl, hb, at_of (by omega) gy, ?_⟩)⟩)⟩
        exact hC x y _ _ _ _ dx dy ⟨m, rfl, good_get hg2 (List.getElem?_eq_getElem hi2)⟩ hn ⟨_, rfl, iteF ⟨_, rfl, rfl⟩⟩
      · rintro σ H' ⟨c, rfl, rfl⟩
        exact q
theorem ok_alike {f : Addr} {fd : FuncData} (F : Fun K "_law_alike" "_law_alike" sAli f fd) (T : TAli mg) (hm : mg "_law_alike" = some (.ref f)) (hb : Binds K fd ["_law_found", "_law_due"] []) : ∀ n : Nat, FnOk P w K mg base CX0 (n + 1) f fd ["_law_found", "_law_due"] (spAli K n)
  | 0 => ok_alike1 (sp := fun _ _ _ _ => False) F T ⟨⟨f, fd, ⟨fun _ _ _ _ h => h.elim, fun _ _ _ _ _ _ _ _ _ _ _ _ _ h => h.elim⟩, hm, F.kp, hb⟩⟩ fun _ _ _ _ _ _ _ _ h => by
      obtain ⟨m, h, _⟩ := h
      exact absurd h (by omega)
  | n + 1 => ok_alike1 F T ⟨⟨f, fd, ok_alike F T hm hb n, hm, F.kp, hb⟩⟩ fun x y d H Q E hx hy h hn q => by
      obtain ⟨m, h, hg⟩ := h
      obtain rfl : m = n := by omega
      exact ⟨x, y, d, rfl, hx, hy, hg, by omega, q⟩
end
end Vf
namespace Vf
open PySem PySem.Spec PyProof.Rows L2 Evl
/-! ### numbers within bounds -/
abbrev sIsN : Stmt := topS 2
theorem scIsN : FnScope ["number"] ["number"] (defScope sIsN) := ⟨rfl, rfl, rfl, by decide +kernel, rfl, by decide +kernel, by decide +kernel⟩
abbrev sWit : Stmt := topS 3
theorem scWit : FnScope ["number", "least", "most"] ["number", "least", "most"] (defScope sWit) := ⟨rfl, rfl, rfl, by decide +kernel, rfl, by decide +kernel, by decide +kernel⟩
structure TBnd (mg : Str → Option Value) : Prop where
  z_isinstance : mg "isinstance" = none
  z_bool : mg "bool" = none
/-- a number, or True or False -/
inductive NumV : V → Bool → Prop
  | int (i : Int) : NumV (.int i) true
  | bl (b : Bool) : NumV (.bl b) false
def spIsN : Sp := fun vs H Q _ => ∃ (x : V) (b : Bool), vs = [x] ∧ NumV x b ∧ Q (.bl b) H
def spWit : Sp := fun vs H Q _ => ∃ (x : V) (a b : Int), vs = [x, .int a, .int b] ∧ ((∃ i, x = .int i ∧ Q (.bl (decide (a ≤ i ∧ i ≤ b))) H) ∨ ∃ t, x = .bl t ∧ Q (.bl false) H)
theorem wit_no {p : Prop} [Decidable p] (h : p) : ¬ ((!decide p) = true) := by
  rw [decide_eq_true h]
  exact fun z => by cases z
theorem wit_out {p : Prop} [Decidable p] (h : (!decide p) = true) : ¬ p := fun k => wit_no k h
theorem wit_in {p : Prop} [Decidable p] (h : ¬ ((!decide p) = true)) : p := by
  by_cases k : p
  · exact k
  · exact absurd (by rw [decide_eq_false k]; rfl) h
section
variable {P : Program} {w : World} {K : PySem.W.Frag} {mg : Str → Option Value} {base : Heap}
theorem ok_isn {f : Addr} {fd : FuncData} (F : Fun K "is_number" "is_number" sIsN f fd) (T : TBnd mg) : FnOk P w K mg base CX0 1 f fd ["number"] spIsN := by
  refine F.ok scIsN (fun vs H Q E h => ?_) (fun cdv A outer s H vs Q E hr h => ?_)
  · obtain ⟨x, b, rfl, _⟩ := h
    rfl
  · obtain ⟨x, b, rfl, hx, q⟩ := h
    refine ⟨_, (pss_one (ps_ret (pe_not (pe_callB call_isi (by rfl) T.z_isinstance boot_isinstance (pa_cons (pv 0) (pa_cons (pe_bltn (v := .ty "bool") (by rfl) T.z_bool boot_bool rfl) pa_nil)))))), ?_⟩
    cases hx with
    | int i => exact ⟨.int i, rfl, _, .ty "bool", _, _, false, rfl, .ty "bool", (.base (.int i)), kit_ty (show kitB "int" "bool" = some false by decide +kernel), _, rfl, q⟩
    | bl b => exact ⟨.bl b, rfl, _, .ty "bool", _, _, true, rfl, .ty "bool", (.base (.bl b)), kit_ty (show kitB "bool" "bool" = some true by decide +kernel), _, rfl, q⟩
structure CBnd1 (P : Program) (w : World) (K : PySem.W.Frag) (mg : Str → Option Value) (base : Heap) : Prop where
  is_number : Cal P w K mg base "is_number" 1 ["number"] spIsN
theorem ok_wit {f : Addr} {fd : FuncData} (F : Fun K "is_within" "is_within" sWit f fd) (T : TBnd mg) (C : CBnd1 P w K mg base) : FnOk P w K mg base CX0 2 f fd ["number", "least", "most"] spWit := by
  refine F.ok scWit (fun vs H Q E h => ?_) (fun cdv A outer s H vs Q E hr h => ?_)
  · obtain ⟨x, a, b, rfl, _⟩ := h
    rfl
  · obtain ⟨x, a, b, rfl, h⟩ := h
    refine ⟨_, (pss_one (ps_ret (pe_and (pcall C.is_number (hr.mono (by first | decide | omega)) (pa_cons (pv 0) pa_nil)) (pe_and (pe_cmpR op_ge (pv 0) (pv 1) (nomark _)) (pe_one (pe_cmpR op_le (pv 0) (pv 2) (nomark _))))))), ?_⟩
    rcases h with ⟨i, rfl, q⟩ | ⟨t, rfl, q⟩
    · refine ⟨.int i, rfl, .int i, true, rfl, .int i, true, rfl, iteT ⟨_, rfl, _, rfl, _, _, rfl, rfl, _, rfl, ?_⟩⟩
      refine ite2 (fun e => ⟨_, rfl, _, rfl, _, _, rfl, rfl, ?_⟩) (fun e => ?_)
      · have h1 := of_decide_eq_true e
        rw [show decide (a ≤ i ∧ i ≤ b) = decide (i ≤ b) from decide_eq_decide.mpr ⟨fun k => k.2, fun k => ⟨h1, k⟩⟩] at q
        exact q
      · have h1 := of_decide_eq_false (Bool.eq_false_iff.mpr e)
        rw [show decide (a ≤ i ∧ i ≤ b) = false from decide_eq_false fun k => h1 k.1] at q
        exact q
    · refine ⟨.bl t, rfl, .bl t, false, rfl, .bl t, false, rfl, iteF q⟩
end
structure CBnd (P : Program) (w : World) (K : PySem.W.Frag) (mg : Str → Option Value) (base : Heap) : Prop where
  is_within : Cal P w K mg base "is_within" 2 ["number", "least", "most"] spWit
end Vf
namespace Vf
open PySem PySem.Spec PyProof.Rows L2 Evl
/-! ### numbers as they stand in texts -/
abbrev sNum : Stmt := topS 14
theorem scNum : FnScope ["text", "most"] ["text", "most"] (defScope sNum) := ⟨rfl, rfl, rfl, by decide +kernel, rfl, by decide +kernel, by decide +kernel⟩
abbrev sWrp : Stmt := topS 44
theorem scWrp : FnScope ["signs", "place", "sign"] ["signs"] (defScope sWrp) := ⟨rfl, rfl, rfl, by decide +kernel, rfl, by decide +kernel, by decide +kernel⟩
def KEY : Str := litOf (topS 37)
structure TFig (mg : Str → Option Value) : Prop where
  z_enumerate : mg "enumerate" = none
  mg_KEYS : ∃ t, mg "KEYS" = some (.str KEY t)
  z_len : mg "len" = none
  z_int : mg "int" = none
def Asc (z : Str) : Prop := ∀ c ∈ z.cps.toList, c < 128
open NumText in
/-- the number that a text of figures writes -/
def figV (z : Str) : Nat := digitsVal z.cps.toList
theorem dig_low : ((List.range 128).all fun c => !Unicode.isDigit c || (decide (48 ≤ c) && decide (c ≤ 57))) = true := by decide +kernel
open NumText in
theorem dig_all {z : Str} (h : Asc z) (hd : Txt.isdigit z = true) : AllDigits z.cps.toList ∧ z.cps.toList ≠ [] := by
  have hd2 : (decide (z.length > 0) && z.cps.all Unicode.isDigit) = true := hd
  rw [Bool.and_eq_true, decide_eq_true_iff, ← Array.all_toList, List.all_eq_true] at hd2
  refine ⟨fun c hc => ?_, fun e => ?_⟩
  · have q := List.all_eq_true.mp dig_low c (List.mem_range.mpr (h c hc))
    rw [hd2.2 c hc] at q
    simpa using q
  · have := hd2.1
    rw [← str_len, e] at this
    cases this
theorem asc_iff {z : Str} : Txt.isascii z = true ↔ Asc z := by
  unfold Txt.isascii Asc
  rw [← Array.all_toList, List.all_eq_true]
  exact ⟨fun h c hc => of_decide_eq_true (h c hc), fun h c hc => decide_eq_true (h c hc)⟩
theorem vstr0 {x y : Str} : decide (V.str x = V.str y) = true ↔ x = y := by
  rw [decide_eq_true_iff]
  exact ⟨fun h => V.str.inj h, fun h => by rw [h]⟩
/-- the number of a text of one to m figures, none needless -/
def numOf (z : Str) (m : Nat) : Option Nat :=
  if Txt.isascii z = false ∨ Txt.isdigit z = false ∨ m < z.length then none
  else if Txt.startswith z "0" = true ∧ ¬ z = "0" then none else some (figV z)
def numV : Option Nat → V
  | none => .non
  | some n => .int n
def spNum : Sp := fun vs H Q _ => ∃ (z : Str) (m : Nat), vs = [.str z, .int m] ∧ m ≤ 640 ∧ z.length ≤ 1000000 ∧ Q (numV (numOf z m)) H
section
variable {P : Program} {w : World} {K : PySem.W.Frag} {mg : Str → Option Value} {base : Heap}
theorem bne {b : Bool} : (!b) = true ↔ b = false := by cases b <;> simp
theorem ok_num {f : Addr} {fd : FuncData} (F : Fun K "number_of" "number_of" sNum f fd) (T : TFig mg) : FnOk P w K mg base CX0 1 f fd ["text", "most"] spNum := by
  refine F.ok scNum (fun vs H Q E h => ?_) (fun cdv A outer s H vs Q E hr h => ?_)
  · obtain ⟨z, m, rfl, _⟩ := h
    rfl
  · obtain ⟨z, m, rfl, hm, hz, q⟩ := h
    refine ⟨_, (pss_cons (ps_if (PW.pt (pw_or (pt_not (pt_val (pe_m0 PySem.F.slot_str_isascii PySem.F.type_str_isascii mt_isascii (pv 0)))) (pw_or (pt_not (pt_val (pe_m0 PySem.F.slot_str_isdigit PySem.F.type_str_isdigit mt_isdigit (pv 0)))) (pw_or1 (pt_cmpR op_gt (pe_callB call_len_str (by rfl) T.z_len PySem.boot_len (pa_cons (pv 0) pa_nil)) (pv 1) (nomark _)))))) (pss_one (ps_ret pe_non)) pss_nil)
      (pss_cons (ps_if (PW.pt (pw_and (pt_val (pe_m1 PySem.F.slot_str_startswith PySem.F.type_str_startswith mt_startswith (pv 0) pe_str)) (pw_and1 (pt_cmpR op_ne (pv 0) pe_str (nomark _))))) (pss_one (ps_ret pe_non)) pss_nil)
      (pss_one (ps_ret (pe_callTy call_int_str (by rfl) T.z_int boot_int (pa_cons (pv 0) pa_nil)))))), ?_⟩
    have qn : numOf z m = none → Q .non H := fun e => by rw [e] at q; exact q
    have big : z.length ≤ sizeLine := Nat.le_trans hz (by decide)
    have n1 : (Txt.isascii z = false ∨ Txt.isdigit z = false ∨ m < z.length) → Q .non H := fun e => qn (if_pos e)
    refine ⟨_, rfl, ⟨_, rfl⟩, _, rfl, rfl, trivial, _, rfl, ite2 (fun e => iteT (n1 (.inl (bne.mp e)))) (fun e1 => ?_)⟩
    refine ⟨_, rfl, ⟨_, rfl⟩, _, rfl, rfl, trivial, _, rfl, ite2 (fun e => iteT (n1 (.inr (.inl (bne.mp e))))) (fun e2 => ?_)⟩
    refine ⟨_, rfl, _, rfl, big, _, rfl, _, _, rfl, rfl, _, rfl, ite2 (fun e => n1 (.inr (.inr (Int.ofNat_lt.mp (of_decide_eq_true e))))) (fun e3 => ?_)⟩
    have a1 : Txt.isascii z = true := by simpa using e1
    have a2 : Txt.isdigit z = true := by simpa using e2
    have a3 : ¬ m < z.length := fun k => e3 (decide_eq_true (Int.ofNat_lt.mpr k))
    have n2 : ¬ (Txt.isascii z = false ∨ Txt.isdigit z = false ∨ m < z.length) := by
      rintro (k | k | k)
      · rw [a1] at k; cases k
      · rw [a2] at k; cases k
      · exact a3 k
    have a4 : Asc z := asc_iff.mp a1
    obtain ⟨d1, d2⟩ := dig_all a4 a2
    have hl : z.length ≤ 640 := by omega
    have qs : ¬ (Txt.startswith z "0" = true ∧ ¬ z = "0") → Q (.int (figV z : Nat)) H := fun k => by
      have e : numOf z m = some (figV z) := by unfold numOf; rw [if_neg n2, if_neg k]
      rw [e] at q
      exact q
    refine ⟨_, rfl, ⟨_, rfl⟩, _, _, rfl, rfl, _, rfl, ite2 (fun e4 => ?_) (fun e4 => ?_)⟩
    · refine ⟨_, rfl, rfl, _, rfl, ite2 (fun e5 => ?_) (fun e5 => ?_)⟩
      · have e6 : ¬ z = "0" := fun k => by
          have e5' : (!decide (V.str z = V.str "0")) = true := e5
          rw [decide_eq_true (by rw [k])] at e5'
          cases e5'
        refine qn ?_
        unfold numOf
        rw [if_neg n2, if_pos ⟨e4, e6⟩]
      · refine ⟨_, rfl, _, _, rfl, PySem.intText_digits d1 d2 (Nat.le_trans hl (by decide)), hl, qs ?_⟩
        rintro ⟨_, k⟩
        exact e5 (by
          show (!decide (V.str z = V.str "0")) = true
          rw [decide_eq_false fun h => k (V.str.inj h)]
          rfl)
    · refine ⟨_, rfl, _, _, rfl, PySem.intText_digits d1 d2 (Nat.le_trans hl (by decide)), hl, qs ?_⟩
      rintro ⟨k, _⟩
      exact e4 k
end
/-! ### the first sign that cannot be typed -/
def isK (c : Nat) : Bool := decide (c ∈ KEY.cps.toList)
def wrongAt (l : List Nat) : Option Nat := l.findIdx? fun c => !isK c
def spWrp : Sp := fun vs H Q _ => ∃ z : Str, vs = [.str z] ∧ ∀ H', Ex H H' → Q (numV (wrongAt z.cps.toList)) H'
theorem wrong_none {l : List Nat} (h : ∀ c ∈ l, isK c = true) : wrongAt l = none := by
  unfold wrongAt
  rw [List.findIdx?_eq_none_iff]
  intro c hc
  rw [h c hc]
  rfl
theorem wrong_all {l : List Nat} (h : wrongAt l = none) : ∀ c ∈ l, isK c = true := by
  unfold wrongAt at h
  rw [List.findIdx?_eq_none_iff] at h
  intro c hc
  have := h c hc
  simpa using this
section
variable {P : Program} {w : World} {K : PySem.W.Frag} {mg : Str → Option Value} {base : Heap}
theorem ok_wrp {f : Addr} {fd : FuncData} (F : Fun K "wrong_place" "wrong_place" sWrp f fd) (T : TFig mg) : FnOk P w K mg base CX0 1 f fd ["signs"] spWrp := by
  refine F.ok scWrp (fun vs H Q E h => ?_) (fun cdv A outer s H vs Q E hr h => ?_)
  · obtain ⟨z, rfl, _⟩ := h
    rfl
  · obtain ⟨z, rfl, q⟩ := h
    refine ⟨_, (pss_cons (ps_for PassesOwn.never rfl (pi_enumS (by rfl) T.z_enumerate (pa_cons (pv 0) pa_nil)) (pg_tup rfl (pgs_cons (pg_name (i := 1) scWrp.nd rfl (Or.inl rfl)) (pgs_cons (pg_name (i := 2) scWrp.nd rfl (Or.inl rfl)) pgs_nil))) (pss_one (ps_if (pt_cmpR op_notIn_sign (pv 2) (pgS T.mg_KEYS) rfl) (pss_one (ps_ret (pv 1))) pss_nil)))
      (pss_one (ps_ret pe_non))), ?_⟩
    refine ⟨_, rfl, z, rfl, for_it walk_enumS (fun i σ H' => ∃ c d, σ = [some (.str z), c, d] ∧ Ex H H' ∧ ∀ j, j < i → ∀ c, z.cps.toList[j]? = some c → isK c = true)
      ⟨none, none, rfl, .refl _, fun j hj => absurd hj (by omega)⟩ (fun _ _ _ _ _ => trivial) ?_ ?_⟩
    · rintro i x σ H1 H2 hi ⟨c0, d0, rfl, e1, hk⟩ ⟨T', c, rfl, nT, hc, rfl⟩
      have e2 : Ex H (upd H1 T' (.tup [.int (i : Nat), .str ⟨#[c]⟩])) := e1.trans (Ex.new nT)
      have hc' : z.cps.toList[i]? = some c := by rw [Array.getElem?_toList]; exact hc
      refine ⟨T', _, rfl, SqT.of upd_same, rfl, _, _, rfl, _, _, rfl, rfl, ?_⟩
      refine ⟨_, rfl, c, KEY, rfl, rfl, _, rfl, ite2 (fun e => ?_) (fun e => ?_)⟩
      · have hw : wrongAt z.cps.toList = some i := by
          unfold wrongAt
          rw [List.findIdx?_eq_some_iff_getElem]
          have hl : i < z.cps.toList.length := by simpa using hi
          refine ⟨hl, ?_, fun j hj => ?_⟩
          · have : z.cps.toList[i] = c := by
              rw [List.getElem?_eq_getElem hl] at hc'
              exact Option.some.inj hc'
            rw [this]
            exact e
          · have := hk j hj _ (List.getElem?_eq_getElem (by omega))
            simpa using this
        rw [hw] at q
        exact ⟨_, rfl, q _ e2⟩
      · refine ⟨_, _, rfl, e2, fun j hj c' hc2 => ?_⟩
        by_cases hji : j = i
        · subst hji
          rw [hc'] at hc2
          cases hc2
          unfold isK
          simpa using e
        · exact hk j (by omega) c' hc2
    · rintro σ H1 ⟨c0, d0, rfl, e1, hk⟩
      have hw : wrongAt z.cps.toList = none := wrong_none fun c hc => by
        obtain ⟨j, hj, ej⟩ := List.getElem_of_mem hc
        exact hk j (by simpa using hj) c (by rw [List.getElem?_eq_getElem hj, ej])
      rw [hw] at q
      exact q _ e1
end
structure CWrp (P : Program) (w : World) (K : PySem.W.Frag) (mg : Str → Option Value) (base : Heap) : Prop where
  wrong_place : Cal P w K mg base "wrong_place" 1 ["signs"] spWrp
structure CNum (P : Program) (w : World) (K : PySem.W.Frag) (mg : Str → Option Value) (base : Heap) : Prop where
  number_of : Cal P w K mg base "number_of" 1 ["text", "most"] spNum
end Vf
namespace Vf
open PySem PySem.Spec PyProof.Rows L2 Evl
/-! ### numbers of several texts -/
abbrev sNms : Stmt := topS 15
theorem scNms : FnScope ["texts", "most", "numbers", "text"] ["texts", "most"] (defScope sNms) := ⟨rfl, rfl, rfl, by decide +kernel, rfl, by decide +kernel, by decide +kernel⟩
def numsOf (m : Nat) : List Str → Option (List Nat)
  | [] => some []
  | p :: r => match numOf p m, numsOf m r with
    | some n, some ns => some (n :: ns)
    | _, _ => none
theorem nums_vals : ∀ {ps : List Str} {m : Nat} {ns : List Nat}, numsOf m ps = some ns → ps.map (fun p => numV (numOf p m)) = ns.map fun n => V.int (n : Nat)
  | [], m, ns, h => by
    cases h
    rfl
  | p :: r, m, ns, h => by
    unfold numsOf at h
    cases e1 : numOf p m with
    | none => rw [e1] at h; cases h
    | some n =>
      cases e2 : numsOf m r with
      | none => rw [e1, e2] at h; cases h
      | some q =>
        rw [e1, e2] at h
        cases h
        rw [List.map_cons, List.map_cons, nums_vals e2, e1]
        rfl
theorem nums_none : ∀ {ps : List Str} {m : Nat}, numsOf m ps = none → V.non ∈ ps.map (fun p => numV (numOf p m))
  | [], m, h => nomatch h
  | p :: r, m, h => by
    unfold numsOf at h
    rw [List.map_cons]
    cases e1 : numOf p m with
    | none => exact List.mem_cons_self
    | some n =>
      cases e2 : numsOf m r with
      | none => exact List.mem_cons_of_mem _ (nums_none e2)
      | some q => rw [e1, e2] at h; cases h
theorem inV_non {xs : List V} : inV .non xs = true ↔ V.non ∈ xs := by
  unfold inV
  rw [List.any_eq_true]
  constructor
  · rintro ⟨x, hx, h⟩
    cases x with
    | non => exact hx
    | _ => exact nomatch (show false = true from h)
  · intro h
    exact ⟨_, h, rfl⟩
theorem inV_ints {ns : List Nat} : inV .non (ns.map fun n => V.int (n : Nat)) = false := by
  cases e : inV .non (ns.map fun n => V.int (n : Nat)) with
  | false => rfl
  | true =>
    obtain ⟨n, _, h⟩ := List.mem_map.mp (inV_non.mp e)
    cases h
theorem flat_nums (ps : List Str) (m : Nat) : (ps.map fun p => numV (numOf p m)).all flatV = true := by
  rw [List.all_eq_true]
  intro x hx
  obtain ⟨p, _, rfl⟩ := List.mem_map.mp hx
  cases numOf p m <;> rfl
def spNms (K : PySem.W.Frag) : Sp := fun vs H Q _ => ∃ (a : Addr) (ps : List Str) (m : Nat), vs = [.ref a, .int m] ∧ SqL K H a (ps.map V.str) ∧ m ≤ 640 ∧ ps.length ≤ 1000000 ∧ (∀ p ∈ ps, p.length ≤ 1000000) ∧
  (numsOf m ps = none → ∀ H', Ex H H' → Q .non H') ∧ ∀ ns, numsOf m ps = some ns → ∀ p H', Ex H H' → H p = none → H' p = some (.lst (ns.map fun n => V.int (n : Nat))) → Q (.ref p) H'
section
variable {P : Program} {w : World} {K : PySem.W.Frag} {mg : Str → Option Value} {base : Heap}
theorem ok_nms {f : Addr} {fd : FuncData} (F : Fun K "numbers_of" "numbers_of" sNms f fd) (C : CNum P w K mg base) : FnOk P w K mg base CX0 2 f fd ["texts", "most"] (spNms K) := by
  refine F.ok scNms (fun vs H Q E h => ?_) (fun cdv A outer s H vs Q E hr h => ?_)
  · obtain ⟨a, ps, m, rfl, _⟩ := h
    rfl
  · obtain ⟨a, ps, m, rfl, hS, hm, hl, hz, qn, qs⟩ := h
    refine ⟨_, (pss_cons (ps_setLc (i := 2) (own := [("text", 3)]) (g := gName 3) (tt := tYes) (by rfl) scNms.nd rfl rfl (sw_true rfl rfl rfl (by decide +kernel)) (pi_list (pv 0)) (blkOk_by (own := [("text", 3)]) (N := ["texts", "most", "numbers", "text"]) (sc := defScope sNms) (by decide +kernel)) (fun _ _ _ _ _ => pg_name (i := 3) scNms.nd rfl (Or.inl rfl)) (fun _ _ _ _ _ => pts_nil) (fun _ _ _ _ _ => (pcall C.number_of (hr.mono (by first | decide | omega)) (pa_cons (pv 3) (pa_cons (pv 1) pa_nil)))))
      (pss_one (ps_ret (pe_ifExp (pt_cmpR op_in_seq pe_non (pv 2) rfl) pe_non (pv 2))))), ?_⟩
    refine ⟨_, rfl, a, rfl, ⟨_, hS⟩, fun D hD => ?_⟩
    refine lc_it (walk_list (K := K) (a := a) (xs := ps.map V.str)) (fun i H' => Ex H H' ∧ H' D = some (.lst ((ps.take i).map fun p => numV (numOf p m)))) ⟨Ex.new hD, upd_same⟩ (fun i H' _ h => ex_l h.1 hS) ?_ ?_
    · rintro i x H2 H3 hi ⟨e, hp⟩ ⟨rfl, hx⟩
      rw [List.length_map] at hi
      obtain ⟨p, hp2, rfl⟩ := List.mem_map.mp (List.mem_of_getElem? hx)
      have hpi : ps[i]? = some p := by
        rw [List.getElem?_map] at hx
        cases e9 : ps[i]? with
        | none => rw [e9] at hx; cases hx
        | some p' =>
          rw [e9] at hx
          rw [V.str.inj (Option.some.inj hx)]
      refine ⟨rfl, yes_lc ?_⟩
      refine ⟨_, rfl, _, rfl, p, m, rfl, hm, hz p hp2, _, hp, ?_, ex_set e hD, ?_⟩
      · rw [List.length_map]
        exact Nat.lt_of_le_of_lt (List.length_take_le' ..) (Nat.lt_of_le_of_lt hl (by decide))
      · rw [upd_same, List.take_add_one, hpi, List.map_append]
        rfl
    · rintro H2 ⟨e, hp⟩
      have et : ps.take (ps.map V.str).length = ps := by rw [List.length_map, List.take_length]
      rw [et] at hp
      cases en : numsOf m ps with
      | none =>
        refine ⟨_, rfl, D, _, rfl, .inl (SqL.of hp), rfl, flat_nums _ _, _, rfl, ?_⟩
        exact (if_pos (inV_non.mpr (nums_none en))).mpr (qn en _ e)
      | some ns =>
        rw [nums_vals en] at hp
        refine ⟨_, rfl, D, _, rfl, .inl (SqL.of hp), rfl, ?_, _, rfl, ?_⟩
        · rw [← nums_vals en]
          exact flat_nums _ _
        · show if (inV .non (ns.map fun n => V.int (n : Nat))) = true then _ else _
          rw [inV_ints]
          exact iteF ⟨_, rfl, qs ns en D H2 e hD hp⟩
end
theorem nums_len {ps : List Str} {m : Nat} {ns : List Nat} (h : numsOf m ps = some ns) : ns.length = ps.length := by
  have := congrArg List.length (nums_vals h)
  rw [List.length_map, List.length_map] at this
  exact this.symm
theorem dig_up : ((List.range 58).all fun c => decide (c < 48) || Unicode.isDigit c) = true := by decide +kernel
theorem numL_isdigit (n : Nat) : Txt.isdigit (txt (TL.numL n)) = true := by
  show (decide ((txt (TL.numL n)).length > 0) && (txt (TL.numL n)).cps.all Unicode.isDigit) = true
  rw [Bool.and_eq_true]
  refine ⟨decide_eq_true ?_, ?_⟩
  · rw [txt_len]
    exact List.length_pos_iff.mpr (TL.numL_ne n)
  · rw [← Array.all_toList, txt_cps, List.all_eq_true]
    intro c hc
    have h := TL.numL_digits n c hc
    have q := List.all_eq_true.mp dig_up c (List.mem_range.mpr (by omega))
    rw [Bool.or_eq_true] at q
    exact q.resolve_left (by rw [decide_eq_true_iff]; omega)
theorem numL_asc (n : Nat) : Txt.isascii (txt (TL.numL n)) = true := asc_iff.mpr fun c hc => by
  rw [txt_cps] at hc
  have h := TL.numL_digits n c hc
  omega
theorem numL_head : ∀ (n : Nat) (c : Nat) (r : List Nat), 1 ≤ n → TL.numL n = c :: r → c ≠ 48 := by
  intro n
  induction n using Nat.strongRecOn with
  | _ n ih =>
    intro c r h1 he
    by_cases h : n < 10
    · rw [TL.numL_lt h] at he
      cases he
      omega
    · rw [TL.numL_step (by omega)] at he
      cases e : TL.numL (n / 10) with
      | nil => exact absurd e (TL.numL_ne _)
      | cons d q =>
        rw [e] at he
        have : d = c := (List.cons.inj he).1
        subst this
        exact ih (n / 10) (by omega) d q (by omega) e
theorem starts_sg {z : Str} {c : Nat} : Txt.startswith z (sg c) = true ↔ z.cps.toList[0]? = some c := by
  unfold Txt.startswith
  rw [Bool.and_eq_true, decide_eq_true_iff]
  constructor
  · exact fun h => sub_sg.mp h.2
  · intro h
    refine ⟨?_, sub_sg.mpr h⟩
    have s1 : (sg c).length = 1 := rfl
    rcases e : z.cps.toList with _ | ⟨d, r⟩
    · rw [e] at h; cases h
    · have := congrArg List.length e
      rw [str_len, List.length_cons] at this
      omega
theorem numOf_num {n m : Nat} (h : (TL.numL n).length ≤ m) : numOf (txt (TL.numL n)) m = some n := by
  unfold numOf
  rw [numL_asc, numL_isdigit, if_neg (by
    rintro (k | k | k)
    · cases k
    · cases k
    · rw [txt_len] at k; omega)]
  rw [if_neg]
  · congr 1
    unfold figV
    rw [txt_cps]
    exact TL.numL_val n
  · rintro ⟨k, k2⟩
    have k3 := starts_sg.mp k
    rw [txt_cps] at k3
    by_cases h0 : n = 0
    · subst h0
      exact k2 rfl
    · cases e : TL.numL n with
      | nil => exact absurd e (TL.numL_ne _)
      | cons d r =>
        rw [e] at k3
        exact numL_head n d r (by omega) e (by simpa using k3)
def numT (n : Nat) : Str := txt (TL.numL n)
theorem nums_num {m : Nat} : ∀ {ns : List Nat}, (∀ n ∈ ns, (TL.numL n).length ≤ m) → numsOf m (ns.map numT) = some ns
  | [], _ => rfl
  | n :: r, h => by
    have h1 : numOf (numT n) m = some n := numOf_num (h n List.mem_cons_self)
    have h2 := nums_num (ns := r) fun k hk => h k (List.mem_cons_of_mem _ hk)
    rw [List.map_cons]
    unfold numsOf
    rw [h1, h2]
end Vf
namespace Vf
open PySem PySem.Spec PyProof.Rows L2 Evl GxR
/-! ### letters: the mathematics -/
abbrev sSum : Stmt := topS 21
theorem scSum : FnScope ["body", "total", "sign"] ["body"] (defScope sSum) := ⟨rfl, rfl, rfl, by decide +kernel, rfl, by decide +kernel, by decide +kernel⟩
abbrev sLet : Stmt := topS 22
theorem scLet : FnScope ["body"] ["body"] (defScope sLet) := ⟨rfl, rfl, rfl, by decide +kernel, rfl, by decide +kernel, by decide +kernel⟩
abbrev sHas : Stmt := topS 23
theorem scHas : FnScope ["body"] ["body"] (defScope sHas) := ⟨rfl, rfl, rfl, by decide +kernel, rfl, by decide +kernel, by decide +kernel⟩
abbrev sPac : Stmt := topS 24
theorem scPac : FnScope ["fields", "field"] ["fields"] (defScope sPac) := ⟨rfl, rfl, rfl, by decide +kernel, rfl, by decide +kernel, by decide +kernel⟩
abbrev sUnp : Stmt := topS 25
theorem scUnp : FnScope ["text", "body"] ["text"] (defScope sUnp) := ⟨rfl, rfl, rfl, by decide +kernel, rfl, by decide +kernel, by decide +kernel⟩
def SGN : Str := litOf (topS 18)
def isS (c : Nat) : Bool := decide (c ∈ SGN.cps.toList)
theorem sgn_facts : isS 46 = false ∧ isS 33 = false ∧ isS 124 = true ∧ SGN.cps.toList.all (fun c => decide (c < 128)) = true := by decide +kernel
theorem isS_low {c : Nat} (h : isS c = true) : c < 128 := of_decide_eq_true (List.all_eq_true.mp sgn_facts.2.2.2 c (of_decide_eq_true h))
def sumN (l : List Nat) : Nat := l.foldl (fun t c => (t * 61 + ixS SGN c + 1) % 9973) 0
theorem sumN_lt : ∀ l : List Nat, sumN l < 9973 := by
  have h : ∀ (l : List Nat) (a : Nat), a < 9973 → l.foldl (fun t c => (t * 61 + ixS SGN c + 1) % 9973) a < 9973 := fun l => by
    induction l with
    | nil => exact fun a h => h
    | cons c r ih => exact fun a _ => ih _ (Nat.mod_lt _ (by decide))
  exact fun l => h l 0 (by decide)
theorem sumN_snoc (l : List Nat) (c : Nat) : sumN (l ++ [c]) = (sumN l * 61 + ixS SGN c + 1) % 9973 := by
  unfold sumN
  rw [List.foldl_append]
  rfl
def lett (l : List Nat) : List Nat := TL.numL l.length ++ (46 :: (TL.numL (sumN l) ++ (46 :: (l ++ [33]))))
theorem num_len {n : Nat} (h : n < 10000000) : (TL.numL n).length ≤ 7 := TL.numL_len (by decide) h
theorem behind_lett {l : List Nat} (h : ∀ c ∈ l, isS c = true) : (behind 46 (lett l)).dropLast = l := by
  have e : lett l = (TL.numL l.length ++ (46 :: TL.numL (sumN l))) ++ 46 :: (l ++ [33]) := by
    unfold lett
    simp
  rw [e, behind_app]
  · simp
  · intro hm
    rcases List.mem_append.mp hm with hm | hm
    · have := h 46 hm
      rw [sgn_facts.1] at this
      cases this
    · have := List.mem_singleton.mp hm
      omega
def bodyOf (fs : List Str) : List Nat := (Txt.join (sg 124) fs).cps.toList
theorem txt_body (fs : List Str) : Txt.join (sg 124) fs = txt (bodyOf fs) := (txt_of _).symm
theorem body_isS {fs : List Str} (h : ∀ z ∈ fs, ∀ c ∈ z.cps.toList, isS c = true) : ∀ c ∈ bodyOf fs, isS c = true := by
  intro c hc
  have e : bodyOf fs = TL.joinL [124] (fs.map TL.tl) := by
    show TL.tl (Txt.join (sg 124) fs) = _
    rw [TL.join_eq, TL.tl_join]
    rfl
  rw [e] at hc
  rcases mem_joinL hc with h2 | ⟨p, hp, h2⟩
  · rw [List.mem_singleton.mp h2]
    exact sgn_facts.2.2.1
  · obtain ⟨z, hz, rfl⟩ := List.mem_map.mp hp
    exact h z hz c h2
theorem sum_le {m : Nat} : ∀ fs : List Str, (∀ z ∈ fs, z.length ≤ m) → (fs.map (fun z => z.length)).sum ≤ fs.length * m
  | [], _ => by simp
  | z :: r, h => by
    rw [List.map_cons, List.sum_cons, List.length_cons, Nat.add_mul, Nat.one_mul]
    have h1 := h z List.mem_cons_self
    have h2 := sum_le r fun y hy => h y (List.mem_cons_of_mem _ hy)
    omega
theorem body_len {fs : List Str} {m : Nat} (h : ∀ z ∈ fs, z.length ≤ m) : (bodyOf fs).length ≤ fs.length * m + fs.length := by
  show (TL.tl (Txt.join (sg 124) fs)).length ≤ _
  rw [← TL.len_tl, TL.join_eq]
  cases fs with
  | nil => simp [Str.join, Str.empty, Str.length]
  | cons a r =>
    rw [PyProof.Rows.len_join_cons]
    have h1 := sum_le (a :: r) h
    have e : r.length * (sg 124).length = r.length := by
      show r.length * 1 = _
      omega
    rw [e]
    rw [List.length_cons] at h1 ⊢
    omega
theorem body_len2 (fs : List Str) : (bodyOf fs).length ≤ (fs.map (fun z => z.length)).sum + fs.length := by
  show (TL.tl (Txt.join (sg 124) fs)).length ≤ _
  rw [← TL.len_tl, TL.join_eq]
  cases fs with
  | nil => simp [Str.join, Str.empty, Str.length]
  | cons a r =>
    rw [PyProof.Rows.len_join_cons]
    have e : r.length * (sg 124).length = r.length := by
      show r.length * 1 = _
      omega
    rw [e, List.length_cons]
    omega
theorem split_body {fs : List Str} (hne : fs ≠ []) (h : ∀ z ∈ fs, 124 ∉ z.cps.toList) : Txt.split (txt (bodyOf fs)) (sg 124) = fs := by
  rw [← txt_body]
  exact TL.split_join (s := 124) (S := []) rfl (by decide +kernel) hne h
def unpL (l : List Nat) : Option (List Str) := if (((behind 46 l).dropLast).all isS && decide (lett (behind 46 l).dropLast = l)) = true then some (Txt.split (txt (behind 46 l).dropLast) (sg 124)) else none
theorem unp_lett {fs : List Str} (hne : fs ≠ []) (h : ∀ z ∈ fs, 124 ∉ z.cps.toList) (hs : ∀ z ∈ fs, ∀ c ∈ z.cps.toList, isS c = true) : unpL (lett (bodyOf fs)) = some fs := by
  unfold unpL
  rw [behind_lett (body_isS hs), if_pos, split_body hne h]
  rw [decide_eq_true rfl, Bool.and_true, List.all_eq_true]
  exact body_isS hs
theorem nstr (n : Nat) : ((toString ((n : Nat) : Int) : String) : Str) = txt (TL.numL n) := num_txt n
theorem nstr_len {n : Nat} (h : n < 10000000) : ((toString ((n : Nat) : Int) : String) : Str).length ≤ 7 := by
  rw [nstr, txt_len]
  exact num_len h
/-! ### the program's own letters -/
structure TLet (mg : Str → Option Value) : Prop where
  z_len : mg "len" = none
  z_all : mg "all" = none
  mg_SIGNS : ∃ t, mg "SIGNS" = some (.str SGN t)
  mg_BETWEEN : ∃ t, mg "BETWEEN" = some (.str "|" t)
  mg_SUM_TIMES : ∃ t, mg "SUM_TIMES" = some (.int 61 t)
  mg_SUM_REST : ∃ t, mg "SUM_REST" = some (.int 9973 t)
def spSum : Sp := fun vs H Q _ => ∃ z : Str, vs = [.str z] ∧ (∀ c ∈ z.cps.toList, isS c = true) ∧ Q (.int (sumN z.cps.toList : Nat)) H
def spLet : Sp := fun vs H Q _ => ∃ z : Str, vs = [.str z] ∧ (∀ c ∈ z.cps.toList, isS c = true) ∧ z.length ≤ 1000000 ∧ Q (.str (txt (lett z.cps.toList))) H
def spHas (T : Addr) : Sp := fun vs H Q _ => ∃ z : Str, vs = [.str z] ∧ H T = some (TabO T) ∧ Q (.bl (z.cps.toList.all isS)) H
def Fields (fs : List Str) : Prop := fs ≠ [] ∧ fs.length ≤ 500 ∧ ∀ z ∈ fs, z.length ≤ 1000 ∧ 124 ∉ z.cps.toList ∧ ∀ c ∈ z.cps.toList, isS c = true
def FieldsL (fs : List Str) : Prop := (fs.map (fun z => z.length)).sum + fs.length ≤ 1000000 ∧ ∀ z ∈ fs, ∀ c ∈ z.cps.toList, isS c = true
theorem Fields.toL {fs : List Str} (h : Fields fs) : FieldsL fs := by
  obtain ⟨_, h2, h3⟩ := h
  have := sum_le (m := 1000) fs fun z hz => (h3 z hz).1
  exact ⟨by omega, fun z hz => (h3 z hz).2.2⟩
def spPac (T : Addr) (K : PySem.W.Frag) : Sp := fun vs H Q _ => ∃ (a : Addr) (fs : List Str), vs = [.ref a] ∧ SqL K H a (fs.map V.str) ∧ Fields fs ∧ H T = some (TabO T) ∧ Q (.str (txt (lett (bodyOf fs)))) H
def spUnp (T : Addr) : Sp := fun vs H Q _ => ∃ z : Str, vs = [.str z] ∧ z.length ≤ 1000000 ∧ H T = some (TabO T) ∧ (unpL z.cps.toList = none → ∀ H', Ex H H' → Q .non H') ∧
  ∀ fs, unpL z.cps.toList = some fs → ∀ p H', Ex H H' → H p = none → H' p = some (.lst (fs.map V.str)) → Q (.ref p) H'
section
variable {P : Program} {w : World} {K : PySem.W.Frag} {mg : Str → Option Value} {base : Heap}
theorem ok_sum {f : Addr} {fd : FuncData} (F : Fun K "sum_of" "sum_of" sSum f fd) (T : TLet mg) : FnOk P w K mg base CX0 1 f fd ["body"] spSum := by
  refine F.ok scSum (fun vs H Q E h => ?_) (fun cdv A outer s H vs Q E hr h => ?_)
  · obtain ⟨z, rfl, _⟩ := h
    rfl
  · obtain ⟨z, rfl, hs, q⟩ := h
    refine ⟨_, (pss_cons (ps_set (i := 1) scSum.nd rfl (Or.inl rfl) pe_int)
      (pss_cons (ps_for PassesOwn.never rfl (pi_str (pv 0)) (pg_name (i := 2) scSum.nd rfl (Or.inl rfl)) (pss_one (ps_set (i := 1) scSum.nd rfl (Or.inl rfl) (pe_op op_mod (pe_op op_add (pe_op op_add (pe_op op_mul (pv 1) (pgI T.mg_SUM_TIMES)) (pe_m1 PySem.F.slot_str_index PySem.F.type_str_index mt_sindex (pgS T.mg_SIGNS) (pv 2))) pe_int) (pgI T.mg_SUM_REST)))))
      (pss_one (ps_ret (pv 1))))), ?_⟩
    refine ⟨_, rfl, z, rfl, for_it walk_str (fun i σ H' => ∃ c, σ = [some (.str z), some (.int (sumN (z.cps.toList.take i) : Nat)), c] ∧ H' = H) ⟨_, rfl, rfl⟩ (fun _ _ _ _ _ => trivial) ?_ ?_⟩
    · rintro i x σ H1 H2 hi ⟨c, rfl, rfl⟩ ⟨rfl, cc, hcc, rfl⟩
      have hc : z.cps.toList[i]? = some cc := by rw [Array.getElem?_toList]; exact hcc
      obtain ⟨r, hr⟩ := ix_cons (z := SGN) (of_decide_eq_true (hs cc (List.mem_of_getElem? hc)))
      have hlt := sumN_lt (z.cps.toList.take i)
      refine ⟨_, rfl, _, _, rfl, rfl, .inl ⟨by omega, by omega⟩, ⟨_, rfl⟩, _, rfl, SGN, sg cc, _, r, rfl, rfl, hr, _, _, rfl, rfl, _, _, rfl, rfl, _, _, rfl, rfl, (by show (0 : Int) < 9973; decide), some (.str (sg cc)), ?_, rfl⟩
      rw [List.take_add_one, hc]
      show _ = [some (V.str z), some (V.int (sumN (z.cps.toList.take i ++ [cc]) : Nat)), some (V.str (sg cc))]
      rw [sumN_snoc]
      have e : (((sumN (z.cps.toList.take i) : Nat) : Int) * 61 + (ixS SGN cc : Nat) + 1) % 9973 = (((sumN (z.cps.toList.take i) * 61 + ixS SGN cc + 1) % 9973 : Nat) : Int) := by omega
      rw [← e]
      rfl
    · rintro σ H1 ⟨c, rfl, rfl⟩
      have e : z.cps.toList.take z.cps.size = z.cps.toList := List.take_of_length_le (by simp)
      rw [e]
      exact ⟨_, rfl, q⟩
structure CLet1 (P : Program) (w : World) (K : PySem.W.Frag) (mg : Str → Option Value) (base : Heap) : Prop where
  sum_of : Cal P w K mg base "sum_of" 1 ["body"] spSum
theorem ok_let {f : Addr} {fd : FuncData} (F : Fun K "letter_of" "letter_of" sLet f fd) (T : TLet mg) (C : CLet1 P w K mg base) : FnOk P w K mg base CX0 2 f fd ["body"] spLet := by
  refine F.ok scLet (fun vs H Q E h => ?_) (fun cdv A outer s H vs Q E hr h => ?_)
  · obtain ⟨z, rfl, _⟩ := h
    rfl
  · obtain ⟨z, rfl, hs, hz, q⟩ := h
    refine ⟨_, (pss_one (ps_ret (pe_joined (PJ.cons (pe_fmt (pe_callB call_len_str (by rfl) T.z_len PySem.boot_len (pa_cons (pv 0) pa_nil))) (PJ.cons pe_str (PJ.cons (pe_fmt (pcall C.sum_of (hr.mono (by first | decide | omega)) (pa_cons (pv 0) pa_nil))) (PJ.cons pe_str (PJ.cons (pe_fmt (pv 0)) (PJ.cons pe_str PJ.nil))))))))), ?_⟩
    have n1 := nstr_len (n := z.length) (by omega)
    have n2 := nstr_len (n := sumN z.cps.toList) (Nat.lt_trans (sumN_lt _) (by decide))
    have big : ∀ x : Str, x.length ≤ 2000000 → x.length ≤ sizeLine := fun x h => Nat.le_trans h (by decide)
    have fin : ∀ x : Str, x = txt (lett z.cps.toList) → Q (.str x) H := fun x e => by rw [e]; exact q
    have d1 : (Str.ofString ".").length = 1 := rfl
    have d2 : (Str.ofString "!").length = 1 := rfl
    have d0 : Str.empty.length = 0 := rfl
    refine ⟨_, rfl, z, rfl, big z (by omega), .inr ⟨_, rfl, log_small (n := z.length) (by omega), _, rfl, big _ (by rw [Str.length_append]; omega), _, rfl, big _ (by rw [Str.length_append, Str.length_append]; omega), ?_⟩⟩
    refine ⟨_, rfl, z, rfl, hs, .inr ⟨_, rfl, log_small (n := sumN z.cps.toList) (Nat.lt_trans (sumN_lt _) (by decide)), _, rfl, big _ (by simp only [Str.length_append]; omega), _, rfl, big _ (by simp only [Str.length_append]; omega), ?_⟩⟩
    refine ⟨_, rfl, .inl ⟨z, rfl, big z (by omega), _, rfl, big _ (by simp only [Str.length_append]; omega), _, rfl, big _ (by simp only [Str.length_append]; omega), fin _ ?_⟩⟩
    refine TL.ext_tl ?_
    simp only [TL.tl_append]
    rw [TL.tl_num, TL.tl_num]
    show [] ++ TL.numL z.length ++ [46] ++ TL.numL (sumN z.cps.toList) ++ [46] ++ z.cps.toList ++ [33] = (txt (lett z.cps.toList)).cps.toList
    rw [txt_cps]
    unfold lett
    rw [str_len]
    simp
theorem ok_has0 {f c T0 : Addr} {oc : Value} {od an : Option Addr} {osl : Array (Option Value)} {kV doc pm ct : Value} (lk : K.lookup f = some ⟨oc, od, .func (PySem.W.fnOf "has_only_signs" "has_only_signs" (defArgs sHas) (defBody sHas) (defScope sHas) .none kV doc pm an (.ref c) ct), osl⟩)
    (hcd : PySem.W.codeIn K (.ref c) "has_only_signs" = true) (tab : TabB base mg c T0) (T : TLet mg) :
    FnOk P w K mg base CX0 1 f (PySem.W.fnOf "has_only_signs" "has_only_signs" (defArgs sHas) (defBody sHas) (defScope sHas) .none kV doc pm an (.ref c) ct) ["body"]
      (fun vs H Q _ => ∃ z : Str, vs = [.str z] ∧ TabG H T0 ∧ ∀ H', Tabbed T0 H H' → Q (.bl (z.cps.toList.all isS)) H') := by
  refine fn_of lk hcd scHas (fun vs H Q E h => ?_) fun A outer s H vs Q E hr h => ?_
  · obtain ⟨z, rfl, _⟩ := h
    rfl
  · obtain ⟨z, rfl, ht, q⟩ := h
    refine ⟨_, PSs.nox (pss_one (ps_ret (pe_allT hr rfl T.z_all tab rfl (genS_of rfl rfl (by decide +kernel) rfl rfl (by decide +kernel)) (pv 0) (elt_in rfl rfl rfl T.mg_SIGNS) (fun _ => rfl)))), ?_⟩
    exact ⟨_, rfl, z, rfl, ht, q⟩
end
end Vf
namespace Vf
open PySem PySem.Spec PyProof.Rows L2 Evl GxR
section
variable {P : Program} {w : World} {K : PySem.W.Frag} {mg : Str → Option Value} {base : Heap}
theorem ok_has {f c T0 : Addr} {oc : Value} {od an : Option Addr} {osl : Array (Option Value)} {kV doc pm ct : Value} (lk : K.lookup f = some ⟨oc, od, .func (PySem.W.fnOf "has_only_signs" "has_only_signs" (defArgs sHas) (defBody sHas) (defScope sHas) .none kV doc pm an (.ref c) ct), osl⟩)
    (hcd : PySem.W.codeIn K (.ref c) "has_only_signs" = true) (tab : TabB base mg c T0) (T : TLet mg) :
    FnOk P w K mg base CX0 1 f (PySem.W.fnOf "has_only_signs" "has_only_signs" (defArgs sHas) (defBody sHas) (defScope sHas) .none kV doc pm an (.ref c) ct) ["body"] (spHas T0) := by
  refine tab_fn (T := T0) (ok_has0 lk hcd tab T) (fun vs H Q E h => ?_) fun vs H Q E h => ?_
  · obtain ⟨z, rfl, _⟩ := h
    rfl
  · obtain ⟨z, rfl, hT, q⟩ := h
    exact ⟨hT, fun qs tr => ⟨z, rfl, ⟨qs, upd_same, tr⟩, fun H' ht => ⟨ht, q⟩⟩⟩
structure CLet2 (P : Program) (w : World) (K : PySem.W.Frag) (mg : Str → Option Value) (base : Heap) (T0 : Addr) : Prop where
  letter_of : Cal P w K mg base "letter_of" 2 ["body"] spLet
  has_only_signs : Cal P w K mg base "has_only_signs" 1 ["body"] (spHas T0)
theorem fields_sum {fs : List Str} (h : Fields fs) : (fs.map (fun z => z.length)).sum + fs.length * 1 ≤ 16777216 := by
  obtain ⟨_, h2, h3⟩ := h
  have := sum_le (m := 1000) fs fun z hz => (h3 z hz).1
  omega
theorem fields_body {fs : List Str} (h : Fields fs) : (bodyOf fs).length ≤ 500500 := by
  obtain ⟨_, h2, h3⟩ := h
  have := body_len (m := 1000) fun z hz => (h3 z hz).1
  omega
theorem ok_pac {f T0 : Addr} {fd : FuncData} (F : Fun K "packed" "packed" sPac f fd) (T : TLet mg) (C : CLet2 P w K mg base T0) : FnOk P w K mg base CX0 3 f fd ["fields"] (spPac T0 K) := by
  refine F.ok scPac (fun vs H Q E h => ?_) (fun cdv A outer s H vs Q E hr h => ?_)
  · obtain ⟨a, fs, rfl, _⟩ := h
    rfl
  · obtain ⟨a, fs, rfl, hS, hF, hT, q⟩ := h
    obtain ⟨hne, hl, hz⟩ := id hF
    refine ⟨_, (pss_cons (ps_if (pt_cmpR op_eq (pe_callB call_len_seq (by rfl) T.z_len PySem.boot_len (pa_cons (pv 0) pa_nil)) pe_int (nomark _)) pss_never pss_nil)
      (pss_cons (ps_for PassesOwn.never rfl (pi_list (pv 0)) (pg_name (i := 1) scPac.nd rfl (Or.inl rfl)) (pss_one (ps_if (PW.pt (pw_or (pt_cmpR op_in_sign (pgS T.mg_BETWEEN) (pv 1) rfl) (pw_or1 (pt_not (pt_val (pcall C.has_only_signs (hr.mono (by first | decide | omega)) (pa_cons (pv 1) pa_nil))))))) pss_never pss_nil)))
      (pss_one (ps_ret (pcall C.letter_of (hr.mono (by first | decide | omega)) (pa_cons (pe_join (pgS T.mg_BETWEEN) (pv 0)) pa_nil)))))), ?_⟩
    refine ⟨_, rfl, a, _, rfl, .inl hS, rfl, _, rfl, ?_⟩
    have h0 : decide (V.int ((fs.map V.str).length : Nat) = V.int 0) = false := decide_eq_false fun e => by
      have e2 := V.int.inj e
      rw [List.length_map] at e2
      exact hne (List.length_eq_zero_iff.mp (by omega))
    rw [h0]
    refine iteF ?_
    refine ⟨_, rfl, a, rfl, ⟨_, hS⟩, for_list (K := K) (a := a) (xs := fs.map V.str) (fun i σ H' => ∃ c, σ = [some (.ref a), c] ∧ H' = H) ⟨_, rfl, rfl⟩ (fun i σ H' _ ⟨_, _, e⟩ => by rw [e]; exact hS) ?_ ?_⟩
    · rintro i y σ H1 hi ⟨c, rfl, rfl⟩
      obtain ⟨z, hm, rfl⟩ := List.mem_map.mp (List.mem_of_getElem? hi)
      obtain ⟨z1, z2, z3⟩ := hz z hm
      refine ⟨_, rfl, 124, z, rfl, rfl, _, rfl, ?_⟩
      rw [decide_eq_false z2]
      refine iteF ⟨_, rfl, z, rfl, hT, _, rfl, ?_⟩
      rw [List.all_eq_true.mpr z3]
      exact iteF ⟨_, rfl, rfl⟩
    · rintro σ H1 ⟨c, rfl, rfl⟩
      refine ⟨⟨_, rfl⟩, _, rfl, sg 124, a, fs, rfl, rfl, .inl hS, fields_sum hF, Txt.join (sg 124) fs, rfl, body_isS fun z hm => (hz z hm).2.2, ?_, q⟩
      have := fields_body hF
      rw [txt_body, txt_len]
      omega
theorem ok_unp {f T0 : Addr} {fd : FuncData} (F : Fun K "unpacked" "unpacked" sUnp f fd) (T : TLet mg) (C : CLet2 P w K mg base T0) : FnOk P w K mg base CX0 3 f fd ["text"] (spUnp T0) := by
  refine F.ok scUnp (fun vs H Q E h => ?_) (fun cdv A outer s H vs Q E hr h => ?_)
  · obtain ⟨z, rfl, _⟩ := h
    rfl
  · obtain ⟨z, rfl, hz, hT, qn, qs⟩ := h
    refine ⟨_, (pss_cons (ps_set (i := 1) scUnp.nd rfl (Or.inl rfl) (pe_slice sl_str (pe_ix ix_tup (pe_m1 PySem.F.slot_str_rpartition PySem.F.type_str_rpartition mt_rpart (pv 0) pe_str) pe_int (fun _ _ => rfl)) po_none (po_some (pe_un un_neg pe_int))))
      (pss_cons (ps_if (PW.pt (pw_or (pt_not (pt_val (pcall C.has_only_signs (hr.mono (by first | decide | omega)) (pa_cons (pv 1) pa_nil)))) (pw_or1 (pt_cmpR op_ne (pcall C.letter_of (hr.mono (by first | decide | omega)) (pa_cons (pv 1) pa_nil)) (pv 0) (nomark _))))) (pss_one (ps_ret pe_non)) pss_nil)
      (pss_one (ps_ret (pe_split (pv 1) (pgS T.mg_BETWEEN)))))), ?_⟩
    have big : ∀ n : Nat, n ≤ 1000002 → n ≤ sizeLine := fun n h => Nat.le_trans h (by decide)
    refine ⟨_, rfl, ⟨_, rfl⟩, z, sg 46, rfl, rfl, rfl, big _ (by omega), fun p np => ?_⟩
    have e1 : Ex H (upd H p (.tup [.str (Txt.rpartition z (sg 46)).1, .str (Txt.rpartition z (sg 46)).2.1, .str (Txt.rpartition z (sg 46)).2.2])) := Ex.new np
    have hp : upd H p (.tup [.str (Txt.rpartition z (sg 46)).1, .str (Txt.rpartition z (sg 46)).2.1, .str (Txt.rpartition z (sg 46)).2.2]) p = some (.tup [.str (Txt.rpartition z (sg 46)).1, .str (Txt.rpartition z (sg 46)).2.1, .str (Txt.rpartition z (sg 46)).2.2]) := upd_same
    generalize upd H p (.tup [.str (Txt.rpartition z (sg 46)).1, .str (Txt.rpartition z (sg 46)).2.1, .str (Txt.rpartition z (sg 46)).2.2]) = H1 at e1 hp ⊢
    have hlen : (txt (behind 46 z.cps.toList)).length ≤ z.length := by
      rw [txt_len, ← str_len]
      unfold behind
      rw [List.length_reverse]
      exact Nat.le_trans (List.takeWhile_sublist _).length_le (by rw [List.length_reverse]; exact Nat.le_refl _)
    refine ⟨p, _, 2, .str (txt (behind 46 z.cps.toList)), rfl, rfl, SqT.of hp, ?_, _, rfl, _, rfl, _, rfl, big _ (by omega), ?_⟩
    · rw [← rpart_behind]
      exact atI_nat (j := 2) rfl
    · rw [cutS_butlast, txt_cps]
      have hbl : ((behind 46 z.cps.toList).dropLast).length ≤ z.length := by
        rw [txt_len] at hlen
        rw [List.length_dropLast]
        omega
      have hun : unpL z.cps.toList = if (((behind 46 z.cps.toList).dropLast).all isS && decide (lett (behind 46 z.cps.toList).dropLast = z.cps.toList)) = true then some (Txt.split (txt (behind 46 z.cps.toList).dropLast) (sg 124)) else none := rfl
      generalize (behind 46 z.cps.toList).dropLast = b at hbl hun ⊢
      refine ⟨_, rfl, txt b, rfl, e1 _ _ hT, _, rfl, ?_⟩
      rw [txt_cps]
      by_cases hall : b.all isS = true
      · rw [hall]
        refine iteF ⟨_, rfl, txt b, rfl, by rw [txt_cps]; exact List.all_eq_true.mp hall, by rw [txt_len]; omega, ?_⟩
        rw [txt_cps]
        refine ⟨_, rfl, rfl, _, rfl, ?_⟩
        rw [hall, Bool.true_and] at hun
        by_cases he : lett b = z.cps.toList
        · rw [decide_eq_true he, if_pos rfl] at hun
          have e9 : decide (V.str (txt (lett b)) = V.str z) = true := decide_eq_true (by rw [he, txt_of])
          rw [e9]
          refine iteF ⟨_, rfl, ⟨_, rfl⟩, txt b, sg 124, rfl, rfl, rfl, big _ (by rw [txt_len]; omega), fun p2 n2 => ?_⟩
          exact qs _ hun p2 _ (e1.trans (Ex.new n2)) (fresh_back e1 n2) upd_same
        · rw [decide_eq_false he] at hun
          have e9 : decide (V.str (txt (lett b)) = V.str z) = false := decide_eq_false fun e => he (by rw [← V.str.inj e, txt_cps])
          rw [e9]
          exact iteT (qn hun _ e1)
      · have hf : b.all isS = false := by
          cases q : b.all isS with
          | true => exact absurd q hall
          | false => rfl
        rw [hf, Bool.false_and] at hun
        rw [hf]
        exact iteT (iteT (qn hun _ e1))
end
end Vf
namespace Vf
open PySem PySem.Spec PyProof.Rows L2 Evl GxR
/-! ### what letters say -/
abbrev sLle : Stmt := topS 31
theorem scLle : FnScope ["kind", "name", "session", "pane", "first", "signs", "numbers", "number"] ["kind", "name", "session", "pane", "first", "signs"] (defScope sLle) := ⟨rfl, rfl, rfl, by decide +kernel, rfl, by decide +kernel, by decide +kernel⟩
abbrev sRll : Stmt := topS 32
theorem scRll : FnScope ["text", "fields", "numbers"] ["text"] (defScope sRll) := ⟨rfl, rfl, rfl, by decide +kernel, rfl, by decide +kernel, by decide +kernel⟩
abbrev sHle : Stmt := topS 33
theorem scHle : FnScope ["name", "session", "pane", "done", "changes", "line", "rows", "numbers", "number"] ["name", "session", "pane", "done", "changes", "line", "rows"] (defScope sHle) := ⟨rfl, rfl, rfl, by decide +kernel, rfl, by decide +kernel, by decide +kernel⟩
abbrev sRhl : Stmt := topS 34
theorem scRhl : FnScope ["text", "fields", "numbers"] ["text"] (defScope sRhl) := ⟨rfl, rfl, rfl, by decide +kernel, rfl, by decide +kernel, by decide +kernel⟩
structure TMai (mg : Str → Option Value) : Prop where
  z_len : mg "len" = none
  z_str : mg "str" = none
  mg_TYPED : ∃ t, mg "TYPED" = some (.str "typed" t)
  mg_LEFT : ∃ t, mg "LEFT" = some (.str "left" t)
  mg_SHOWN : ∃ t, mg "SHOWN" = some (.str "shown" t)
  mg_FIGURES : ∃ t, mg "FIGURES" = some (.int 20 t)
/-- a text that may stand in a letter -/
def FldOk (z : Str) : Prop := z.length ≤ 1000 ∧ 124 ∉ z.cps.toList ∧ ∀ c ∈ z.cps.toList, isS c = true
def lookFs (k : Str) (ns : List Nat) (z : Str) : List Str := k :: (ns.map numT ++ [z])
def hallFs (ns : List Nat) (line : Str) (rows : List Str) : List Str := Str.ofString "shown" :: (ns.map numT ++ line :: rows)
def lookL (k : Str) (ns : List Nat) (z : Str) : List Nat := lett (bodyOf (lookFs k ns z))
def hallL (ns : List Nat) (line : Str) (rows : List Str) : List Nat := lett (bodyOf (hallFs ns line rows))
def isKind (k : Str) : Prop := k = "typed" ∨ k = "left"
instance (k : Str) : Decidable (isKind k) := by unfold isKind; infer_instance
def readLook (l : List Nat) : Option (Str × List Nat × Str) := match unpL l with
  | some [k, a, b, c, d, z] => if isKind k then (numsOf 20 [a, b, c, d]).map fun ns => (k, ns, z) else none
  | _ => none
def readHall (l : List Nat) : Option (List Nat × Str × List Str) := match unpL l with
  | some (k :: a :: b :: c :: d :: e :: z :: rows) => if k = "shown" then (numsOf 20 [a, b, c, d, e]).map fun ns => (ns, z, rows) else none
  | _ => none
theorem dig_isS : ((List.range 10).all fun i => isS (48 + i)) = true := by decide +kernel
theorem num_fld {n : Nat} (h : n < 10000000) : FldOk (numT n) := by
  refine ⟨?_, ?_, ?_⟩
  · unfold numT
    rw [txt_len]
    exact Nat.le_trans (num_len h) (by decide)
  · unfold numT
    rw [txt_cps]
    exact TL.numL_free (.inr (by decide))
  · unfold numT
    rw [txt_cps]
    intro c hc
    have h := TL.numL_digits n c hc
    have q := List.all_eq_true.mp dig_isS (c - 48) (List.mem_range.mpr (by omega))
    rw [show 48 + (c - 48) = c by omega] at q
    exact q
theorem word_fld : FldOk (Str.ofString "typed") ∧ FldOk (Str.ofString "left") ∧ FldOk (Str.ofString "shown") := by
  refine ⟨⟨by decide, by decide +kernel, ?_⟩, ⟨by decide, by decide +kernel, ?_⟩, ⟨by decide, by decide +kernel, ?_⟩⟩
  · exact List.all_eq_true.mp (show ((Str.ofString "typed").cps.toList.all isS) = true by decide +kernel)
  · exact List.all_eq_true.mp (show ((Str.ofString "left").cps.toList.all isS) = true by decide +kernel)
  · exact List.all_eq_true.mp (show ((Str.ofString "shown").cps.toList.all isS) = true by decide +kernel)
theorem kind_fld {k : Str} (h : isKind k) : FldOk k := by
  rcases h with rfl | rfl
  · exact word_fld.1
  · exact word_fld.2.1
theorem lookFs_ok {k z : Str} {ns : List Nat} (hk : isKind k) (hl : ns.length = 4) (hn : ∀ n ∈ ns, n < 10000000) (hz : FldOk z) : Fields (lookFs k ns z) := by
  refine ⟨by simp [lookFs], ?_, fun y hy => ?_⟩
  · simp [lookFs, hl]
  · rcases List.mem_cons.mp hy with rfl | hy
    · exact kind_fld hk
    · rcases List.mem_append.mp hy with hy | hy
      · obtain ⟨n, hn2, rfl⟩ := List.mem_map.mp hy
        exact num_fld (hn n hn2)
      · rw [List.mem_singleton.mp hy]; exact hz
theorem hallFs_ok {ns : List Nat} {line : Str} {rows : List Str} (hl : ns.length = 5) (hn : ∀ n ∈ ns, n < 10000000) (hz : FldOk line) (hr : rows.length ≤ 40) (hk : ∀ r ∈ rows, FldOk r) : Fields (hallFs ns line rows) := by
  refine ⟨by simp [hallFs], ?_, fun y hy => ?_⟩
  · simp [hallFs, hl]
    omega
  · rcases List.mem_cons.mp hy with rfl | hy
    · exact word_fld.2.2
    · rcases List.mem_append.mp hy with hy | hy
      · obtain ⟨n, hn2, rfl⟩ := List.mem_map.mp hy
        exact num_fld (hn n hn2)
      · rcases List.mem_cons.mp hy with rfl | hy
        · exact hz
        · exact hk y hy
theorem Fields.unp {fs : List Str} (h : Fields fs) : unpL (lett (bodyOf fs)) = some fs := unp_lett h.1 (fun z hz => (h.2.2 z hz).2.1) (fun z hz => (h.2.2 z hz).2.2)
theorem num20 {n : Nat} (h : n < 10000000) : (TL.numL n).length ≤ 20 := Nat.le_trans (num_len h) (by decide)
theorem look_back {k z : Str} {ns : List Nat} (hk : isKind k) (hl : ns.length = 4) (hn : ∀ n ∈ ns, n < 10000000) (hz : FldOk z) : readLook (lookL k ns z) = some (k, ns, z) := by
  unfold readLook lookL
  rw [(lookFs_ok hk hl hn hz).unp]
  match ns, hl, hn with
  | [a, b, c, d], _, hn =>
    show (if isKind k then (numsOf 20 ([a, b, c, d].map numT)).map (fun ns => (k, ns, z)) else none) = _
    rw [if_pos hk, nums_num fun n h => num20 (hn n h)]
    rfl
theorem hall_back {ns : List Nat} {line : Str} {rows : List Str} (hl : ns.length = 5) (hn : ∀ n ∈ ns, n < 10000000) (hz : FldOk line) (hr : rows.length ≤ 40) (hk : ∀ r ∈ rows, FldOk r) : readHall (hallL ns line rows) = some (ns, line, rows) := by
  unfold readHall hallL
  rw [(hallFs_ok hl hn hz hr hk).unp]
  match ns, hl, hn with
  | [a, b, c, d, e], _, hn =>
    show (if Str.ofString "shown" = Str.ofString "shown" then (numsOf 20 ([a, b, c, d, e].map numT)).map (fun ns => (ns, line, rows)) else none) = _
    rw [if_pos rfl, nums_num fun n h => num20 (hn n h)]
    rfl
def spLle (T0 : Addr) : Sp := fun vs H Q _ => ∃ (k z : Str) (n1 n2 n3 n4 : Nat), vs = [.str k, .int n1, .int n2, .int n3, .int n4, .str z] ∧ isKind k ∧ (∀ n ∈ [n1, n2, n3, n4], n < 10000000) ∧ FldOk z ∧ H T0 = some (TabO T0) ∧
  ∀ H', Ex H H' → Q (.str (txt (lookL k [n1, n2, n3, n4] z))) H'
def spHle (T0 : Addr) (K : PySem.W.Frag) : Sp := fun vs H Q _ => ∃ (a : Addr) (line : Str) (rows : List Str) (n1 n2 n3 n4 n5 : Nat), vs = [.int n1, .int n2, .int n3, .int n4, .int n5, .str line, .ref a] ∧ SqL K H a (rows.map V.str) ∧ (∀ n ∈ [n1, n2, n3, n4, n5], n < 10000000) ∧ FldOk line ∧ rows.length ≤ 40 ∧ (∀ r ∈ rows, FldOk r) ∧ H T0 = some (TabO T0) ∧
  ∀ H', Ex H H' → Q (.str (txt (hallL [n1, n2, n3, n4, n5] line rows))) H'
def spRll (T0 : Addr) : Sp := fun vs H Q _ => ∃ z : Str, vs = [.str z] ∧ z.length ≤ 900000 ∧ H T0 = some (TabO T0) ∧ (readLook z.cps.toList = none → ∀ H', Ex H H' → Q .non H') ∧
  ∀ k ns s, readLook z.cps.toList = some (k, ns, s) → ∀ p H', Ex H H' → H p = none → H' p = some (.tup (.str k :: (ns.map (fun n => V.int (n : Nat)) ++ [.str s]))) → Q (.ref p) H'
def spRhl (T0 : Addr) : Sp := fun vs H Q _ => ∃ z : Str, vs = [.str z] ∧ z.length ≤ 900000 ∧ H T0 = some (TabO T0) ∧ (readHall z.cps.toList = none → ∀ H', Ex H H' → Q .non H') ∧
  ∀ ns line rows, readHall z.cps.toList = some (ns, line, rows) → ∀ p r H', Ex H H' → H p = none → H r = none → H' r = some (.lst (rows.map V.str)) → H' p = some (.tup (ns.map (fun n => V.int (n : Nat)) ++ [.str line, .ref r])) → Q (.ref p) H'
section
variable {P : Program} {w : World} {K : PySem.W.Frag} {mg : Str → Option Value} {base : Heap}
structure CMai1 (P : Program) (w : World) (K : PySem.W.Frag) (mg : Str → Option Value) (base : Heap) (T0 : Addr) : Prop where
  packed : Cal P w K mg base "packed" 3 ["fields"] (spPac T0 K)
structure CMai2 (P : Program) (w : World) (K : PySem.W.Frag) (mg : Str → Option Value) (base : Heap) (T0 : Addr) : Prop where
  unpacked : Cal P w K mg base "unpacked" 3 ["text"] (spUnp T0)
  numbers_of : Cal P w K mg base "numbers_of" 2 ["texts", "most"] (spNms K)
theorem ok_lle {f T0 : Addr} {fd : FuncData} (F : Fun K "look_letter" "look_letter" sLle f fd) (T : TMai mg) (C : CMai1 P w K mg base T0) : FnOk P w K mg base CX0 4 f fd ["kind", "name", "session", "pane", "first", "signs"] (spLle T0) := by
  refine F.ok scLle (fun vs H Q E h => ?_) (fun cdv A outer s H vs Q E hr h => ?_)
  · obtain ⟨k, z, n1, n2, n3, n4, rfl, _⟩ := h
    rfl
  · obtain ⟨k, z, n1, n2, n3, n4, rfl, hk, hn, hz, hT, q⟩ := h
    refine ⟨_, (pss_cons (ps_setLc (i := 6) (own := [("number", 7)]) (g := gName 7) (tt := tYes) (by rfl) scLle.nd rfl rfl (sw_true rfl rfl rfl (by decide +kernel)) (pi_tup (pe_tup (pa_cons (pv 1) (pa_cons (pv 2) (pa_cons (pv 3) (pa_cons (pv 4) pa_nil)))))) (blkOk_by (own := [("number", 7)]) (N := ["kind", "name", "session", "pane", "first", "signs", "numbers", "number"]) (sc := defScope sLle) (by decide +kernel)) (fun _ _ _ _ _ => pg_name (i := 7) scLle.nd rfl (Or.inl rfl)) (fun _ _ _ _ _ => pts_nil) (fun _ _ _ _ _ => (pe_callTy call_str_int (by rfl) T.z_str boot_str (pa_cons (pv 7) pa_nil))))
      (pss_one (ps_ret (pcall C.packed (hr.mono (by first | decide | omega)) (pa_cons (pe_lst (pa_cons (pv 0) (StX.pa_star (pv 6) (pa_cons (pv 5) pa_nil)))) pa_nil))))), ?_⟩
    refine ⟨_, rfl, _, rfl, _, rfl, _, rfl, (by show 4 ≤ sizeLine; decide), fun t nt => ?_⟩
    have e1 : Ex H (upd H t (.tup [.int (n1 : Nat), .int (n2 : Nat), .int (n3 : Nat), .int (n4 : Nat)])) := Ex.new nt
    have ht : upd H t (.tup [.int (n1 : Nat), .int (n2 : Nat), .int (n3 : Nat), .int (n4 : Nat)]) t = some (.tup ([n1, n2, n3, n4].map fun n => V.int (n : Nat))) := upd_same
    generalize upd H t (.tup [.int (n1 : Nat), .int (n2 : Nat), .int (n3 : Nat), .int (n4 : Nat)]) = H1 at e1 ht ⊢
    have hns : [n1, n2, n3, n4].length = 4 := rfl
    generalize [n1, n2, n3, n4] = ns at ht hn hns q ⊢
    refine ⟨t, rfl, ⟨_, SqT.of ht⟩, fun D nD => ?_⟩
    refine lc_it (walk_tup (K := K) (a := t) (xs := ns.map fun n => V.int (n : Nat))) (fun i H' => Ex H1 H' ∧ H' D = some (.lst (((ns.take i).map numT).map V.str))) ⟨Ex.new nD, upd_same⟩ (fun i H' _ h => ex_t h.1 (SqT.of ht)) ?_ ?_
    · rintro i x H2 H3 hi ⟨e, hp⟩ ⟨rfl, hx⟩
      rw [List.getElem?_map] at hx
      cases en : ns[i]? with
      | none => rw [en] at hx; cases hx
      | some n =>
        rw [en] at hx
        obtain rfl := Option.some.inj hx
        refine ⟨rfl, yes_lc ?_⟩
        refine ⟨_, rfl, _, rfl, log_small (hn n (List.mem_of_getElem? en)), _, hp, ?_, ex_set e nD, ?_⟩
        · rw [List.length_map, List.length_map, List.length_take, hns]
          exact Nat.lt_of_le_of_lt (Nat.min_le_right _ _) (by decide)
        · rw [upd_same, List.take_add_one, en, List.map_append, List.map_append]
          show _ = some (HO.lst (_ ++ [V.str (numT n)]))
          unfold numT
          rw [← num_txt]
    · rintro H2 ⟨e, hp⟩
      rw [List.length_map, List.take_length] at hp
      refine ⟨_, rfl, _, rfl, D, _, rfl, .inr (SqL.of hp), _, rfl, ?_, fun l nl => ?_⟩
      · show (V.str k :: (((ns.map numT).map V.str) ++ [V.str z])).length ≤ sizeLine
        simp only [List.length_cons, List.length_append, List.length_map, List.length_nil, hns]
        decide
      · have e3 : Ex H (upd H2 l (.lst ([V.str k] ++ (((ns.map numT).map V.str) ++ [V.str z])))) := (e1.trans e).trans (Ex.new nl)
        refine ⟨l, lookFs k ns z, rfl, SqL.of ?_, lookFs_ok hk hns hn hz, e3 _ _ hT, q _ e3⟩
        rw [upd_same]
        unfold lookFs
        rw [List.map_cons, List.map_append]
        rfl
theorem ok_hle {f T0 : Addr} {fd : FuncData} (F : Fun K "hall_letter" "hall_letter" sHle f fd) (T : TMai mg) (C : CMai1 P w K mg base T0) : FnOk P w K mg base CX0 4 f fd ["name", "session", "pane", "done", "changes", "line", "rows"] (spHle T0 K) := by
  refine F.ok scHle (fun vs H Q E h => ?_) (fun cdv A outer s H vs Q E hr h => ?_)
  · obtain ⟨a, line, rows, n1, n2, n3, n4, n5, rfl, _⟩ := h
    rfl
  · obtain ⟨a, line, rows, n1, n2, n3, n4, n5, rfl, hS, hn, hz, hr1, hr2, hT, q⟩ := h
    refine ⟨_, (pss_cons (ps_setLc (i := 7) (own := [("number", 8)]) (g := gName 8) (tt := tYes) (by rfl) scHle.nd rfl rfl (sw_true rfl rfl rfl (by decide +kernel)) (pi_tup (pe_tup (pa_cons (pv 0) (pa_cons (pv 1) (pa_cons (pv 2) (pa_cons (pv 3) (pa_cons (pv 4) pa_nil))))))) (blkOk_by (own := [("number", 8)]) (N := ["name", "session", "pane", "done", "changes", "line", "rows", "numbers", "number"]) (sc := defScope sHle) (by decide +kernel)) (fun _ _ _ _ _ => pg_name (i := 8) scHle.nd rfl (Or.inl rfl)) (fun _ _ _ _ _ => pts_nil) (fun _ _ _ _ _ => (pe_callTy call_str_int (by rfl) T.z_str boot_str (pa_cons (pv 8) pa_nil))))
      (pss_one (ps_ret (pcall C.packed (hr.mono (by first | decide | omega)) (pa_cons (pe_lst (pa_cons (pgS T.mg_SHOWN) (StX.pa_star (pv 7) (pa_cons (pv 5) (StX.pa_star (pv 6) pa_nil))))) pa_nil))))), ?_⟩
    refine ⟨_, rfl, _, rfl, _, rfl, _, rfl, _, rfl, (by show 5 ≤ sizeLine; decide), fun t nt => ?_⟩
    have e1 : Ex H (upd H t (.tup [.int (n1 : Nat), .int (n2 : Nat), .int (n3 : Nat), .int (n4 : Nat), .int (n5 : Nat)])) := Ex.new nt
    have ht : upd H t (.tup [.int (n1 : Nat), .int (n2 : Nat), .int (n3 : Nat), .int (n4 : Nat), .int (n5 : Nat)]) t = some (.tup ([n1, n2, n3, n4, n5].map fun n => V.int (n : Nat))) := upd_same
    generalize upd H t (.tup [.int (n1 : Nat), .int (n2 : Nat), .int (n3 : Nat), .int (n4 : Nat), .int (n5 : Nat)]) = H1 at e1 ht ⊢
    have hns : [n1, n2, n3, n4, n5].length = 5 := rfl
    generalize [n1, n2, n3, n4, n5] = ns at ht hn hns q ⊢
    refine ⟨t, rfl, ⟨_, SqT.of ht⟩, fun D nD => ?_⟩
    refine lc_it (walk_tup (K := K) (a := t) (xs := ns.map fun n => V.int (n : Nat))) (fun i H' => Ex H1 H' ∧ H' D = some (.lst (((ns.take i).map numT).map V.str))) ⟨Ex.new nD, upd_same⟩ (fun i H' _ h => ex_t h.1 (SqT.of ht)) ?_ ?_
    · rintro i x H2 H3 hi ⟨e, hp⟩ ⟨rfl, hx⟩
      rw [List.getElem?_map] at hx
      cases en : ns[i]? with
      | none => rw [en] at hx; cases hx
      | some n =>
        rw [en] at hx
        obtain rfl := Option.some.inj hx
        refine ⟨rfl, yes_lc ?_⟩
        refine ⟨_, rfl, _, rfl, log_small (hn n (List.mem_of_getElem? en)), _, hp, ?_, ex_set e nD, ?_⟩
        · rw [List.length_map, List.length_map, List.length_take, hns]
          exact Nat.lt_of_le_of_lt (Nat.min_le_right _ _) (by decide)
        · rw [upd_same, List.take_add_one, en, List.map_append, List.map_append]
          show _ = some (HO.lst (_ ++ [V.str (numT n)]))
          unfold numT
          rw [← num_txt]
    · rintro H2 ⟨e, hp⟩
      rw [List.length_map, List.take_length] at hp
      refine ⟨_, rfl, D, _, rfl, .inr (SqL.of hp), _, rfl, _, rfl, a, _, rfl, .inr (ex_l (e1.trans e) hS), ?_, fun l nl => ?_⟩
      · show (V.str (Str.ofString "shown") :: (((ns.map numT).map V.str) ++ V.str line :: (rows.map V.str ++ []))).length ≤ sizeLine
        simp only [List.length_cons, List.length_append, List.length_map, List.length_nil, hns]
        exact Nat.le_trans (m := 100) (by omega) (by decide)
      · have e3 : Ex H (upd H2 l (.lst ([V.str (Str.ofString "shown")] ++ (((ns.map numT).map V.str) ++ V.str line :: (rows.map V.str ++ []))))) := (e1.trans e).trans (Ex.new nl)
        refine ⟨l, hallFs ns line rows, rfl, SqL.of ?_, hallFs_ok hns hn hz hr1 hr2, e3 _ _ hT, q _ e3⟩
        rw [upd_same]
        unfold hallFs
        rw [List.map_cons, List.map_append, List.map_cons, List.append_nil]
theorem seven {α : Type} : ∀ l : List α, ¬ l.length < 7 → ∃ a b c d e f g r, l = a :: b :: c :: d :: e :: f :: g :: r
  | a :: b :: c :: d :: e :: f :: g :: r, _ => ⟨a, b, c, d, e, f, g, r, rfl⟩
  | [], h => absurd (by decide : 0 < 7) h
  | [_], h => absurd (by decide : 1 < 7) h
  | [_, _], h => absurd (by decide : 2 < 7) h
  | [_, _, _], h => absurd (by decide : 3 < 7) h
  | [_, _, _, _], h => absurd (by decide : 4 < 7) h
  | [_, _, _, _, _], h => absurd (by decide : 5 < 7) h
  | [_, _, _, _, _, _], h => absurd (by decide : 6 < 7) h
theorem unp_bounds {z : Str} {fs : List Str} (h : unpL z.cps.toList = some fs) : fs.length ≤ z.length + 1 ∧ ∀ y ∈ fs, y.length ≤ z.length := by
  unfold unpL at h
  have hb : ((behind 46 z.cps.toList).dropLast).length ≤ z.length := by
    rw [List.length_dropLast, ← str_len]
    have : (behind 46 z.cps.toList).length ≤ z.cps.toList.length := by
      unfold behind
      rw [List.length_reverse]
      exact Nat.le_trans (List.takeWhile_sublist _).length_le (by rw [List.length_reverse]; exact Nat.le_refl _)
    omega
  generalize (behind 46 z.cps.toList).dropLast = b at h hb
  by_cases hc : (b.all isS && decide (lett b = z.cps.toList)) = true
  · rw [if_pos hc] at h
    cases h
    obtain ⟨h1, h2⟩ := split_parts (txt b) 124
    rw [txt_len] at h1
    refine ⟨by omega, fun y hy => ?_⟩
    have := (h2 y hy).1
    rw [txt_len] at this
    omega
  · rw [if_neg hc] at h
    cases h
theorem inV_kind {k : Str} : inV (.str k) [V.str (Str.ofString "typed"), V.str (Str.ofString "left")] = decide (isKind k) := by
  have e : ∀ a : Str, eqV (.str a) (.str k) = decide (k = a) := fun a => by
    show (a == k) = _
    by_cases h : k = a
    · subst h; rw [beq_self_eq_true, decide_eq_true rfl]
    · rw [decide_eq_false h, beq_eq_false_iff_ne.mpr fun z => h z.symm]
  unfold inV
  rw [List.any_cons, List.any_cons, List.any_nil, e, e, Bool.or_false]
  unfold isKind
  by_cases h1 : k = Str.ofString "typed" <;> by_cases h2 : k = Str.ofString "left" <;> simp [h1, h2]
theorem ok_rll {f T0 : Addr} {fd : FuncData} (F : Fun K "read_look_letter" "read_look_letter" sRll f fd) (T : TMai mg) (C : CMai2 P w K mg base T0) : FnOk P w K mg base CX0 4 f fd ["text"] (spRll T0) := by
  refine F.ok scRll (fun vs H Q E h => ?_) (fun cdv A outer s H vs Q E hr h => ?_)
  · obtain ⟨z, rfl, _⟩ := h
    rfl
  · obtain ⟨z, rfl, hz, hT, qn, qs⟩ := h
    refine ⟨_, (pss_cons (ps_set (i := 1) scRll.nd rfl (Or.inl rfl) (pcall C.unpacked (hr.mono (by first | decide | omega)) (pa_cons (pv 0) pa_nil)))
      (pss_cons (ps_if (PW.pt (pw_or (pt_cmpR op_isN (pv 1) pe_non (nomark _)) (pw_or (pt_cmpR op_ne (pe_callB call_len_seq (by rfl) T.z_len PySem.boot_len (pa_cons (pv 1) pa_nil)) pe_int (nomark _)) (pw_or1 (pt_cmpR op_notIn_seq (pe_ix ix_list (pv 1) pe_int (fun _ _ => rfl)) (pe_tup (pa_cons (pgS T.mg_TYPED) (pa_cons (pgS T.mg_LEFT) pa_nil))) rfl))))) (pss_one (ps_ret pe_non)) pss_nil)
      (pss_cons (ps_set (i := 2) scRll.nd rfl (Or.inl rfl) (pcall C.numbers_of (hr.mono (by first | decide | omega)) (pa_cons (pe_slice sl_list (pv 1) (po_some pe_int) (po_some pe_int)) (pa_cons (pgI T.mg_FIGURES) pa_nil))))
      (pss_cons (ps_if (pt_cmpR op_isN (pv 2) pe_non (nomark _)) (pss_one (ps_ret pe_non)) pss_nil)
      (pss_one (ps_ret (pe_tup (pa_cons (pe_ix ix_list (pv 1) pe_int (fun _ _ => rfl)) (StX.pa_star (pv 2) (pa_cons (pe_ix ix_list (pv 1) pe_int (fun _ _ => rfl)) pa_nil)))))))))), ?_⟩
    refine ⟨_, rfl, z, rfl, by omega, hT, fun hu H1 e1 => ?_, fun fs hu p H1 e1 np hp => ?_⟩
    · refine ⟨_, rfl, rfl, _, rfl, iteT (qn ?_ _ e1)⟩
      unfold readLook
      rw [hu]
    · obtain ⟨b1, b2⟩ := unp_bounds hu
      refine ⟨_, rfl, rfl, _, rfl, iteF ?_⟩
      refine ⟨_, rfl, p, _, rfl, .inl (SqL.of hp), rfl, _, rfl, ?_⟩
      have hrl : readLook z.cps.toList = match some fs with
        | some [k, a, b, c, d, z] => if isKind k then (numsOf 20 [a, b, c, d]).map fun ns => (k, ns, z) else none
        | _ => none := by unfold readLook; rw [hu]
      by_cases h6 : fs.length = 6
      · rw [show decide (V.int ((fs.map V.str).length : Nat) = V.int 6) = true from decide_eq_true (by rw [List.length_map, h6]; rfl)]
        refine iteF ?_
        match fs, h6, hp, hrl, b1, b2 with
        | [k, a, b, c, d, y], _, hp, hrl, b1, b2 =>
          have hrl2 : readLook z.cps.toList = if isKind k then (numsOf 20 [a, b, c, d]).map fun ns => (k, ns, y) else none := hrl
          refine ⟨_, rfl, p, _, _, _, rfl, rfl, SqL.of hp, atI_nat (j := 0) rfl, (by show 2 ≤ sizeLine; decide), fun t nt => ?_⟩
          have e2 : Ex H1 (upd H1 t (.tup [.str (Str.ofString "typed"), .str (Str.ofString "left")])) := Ex.new nt
          have ht : upd H1 t (.tup [.str (Str.ofString "typed"), .str (Str.ofString "left")]) t = some (.tup [.str (Str.ofString "typed"), .str (Str.ofString "left")]) := upd_same
          generalize upd H1 t (.tup [.str (Str.ofString "typed"), .str (Str.ofString "left")]) = H2 at e2 ht ⊢
          have hp2 := e2 _ _ hp
          refine ⟨t, _, rfl, .inr (SqT.of ht), rfl, rfl, _, rfl, ?_⟩
          show if (!inV (.str k) [V.str (Str.ofString "typed"), V.str (Str.ofString "left")]) = true then _ else _
          rw [inV_kind]
          by_cases hk : isKind k
          · rw [decide_eq_true hk]
            rw [if_pos hk] at hrl2
            refine iteF ?_
            refine ⟨_, rfl, _, rfl, _, rfl, p, _, rfl, SqL.of hp2, fun l nl => ?_⟩
            have e3 : Ex H2 (upd H2 l (.lst (cutV ([k, a, b, c, d, y].map V.str) (some 1) (some 5)))) := Ex.new nl
            have hl : upd H2 l (.lst (cutV ([k, a, b, c, d, y].map V.str) (some 1) (some 5))) l = some (.lst ([a, b, c, d].map V.str)) := upd_same
            generalize upd H2 l (.lst (cutV ([k, a, b, c, d, y].map V.str) (some 1) (some 5))) = H3 at e3 hl ⊢
            refine ⟨l, [a, b, c, d], 20, rfl, SqL.of hl, by decide, (by show 4 ≤ 1000000; decide), fun x hx => ?_, fun hn H4 e4 => ?_, fun ns hn p2 H4 e4 np2 hp2b => ?_⟩
            · have := b2 x (show x ∈ ([k] ++ [a, b, c, d]) ++ [y] from List.mem_append_left _ (List.mem_append_right _ hx))
              omega
            · rw [hn] at hrl2
              exact ⟨_, rfl, rfl, _, rfl, iteT (qn hrl2 _ (((e1.trans e2).trans e3).trans e4))⟩
            · rw [hn] at hrl2
              have hnl := nums_len hn
              refine ⟨_, rfl, rfl, _, rfl, iteF ?_⟩
              have hp4 := e4 _ _ (e3 _ _ hp2)
              refine ⟨_, rfl, p, _, _, _, rfl, rfl, SqL.of hp4, atI_nat (j := 0) rfl, _, rfl, p2, _, rfl, .inr (SqL.of hp2b), _, rfl, p, _, _, _, rfl, rfl, SqL.of hp4, atI_nat (j := 5) rfl, ?_, fun r nr => ?_⟩
              · show (V.str k :: ((ns.map fun n => V.int (n : Nat)) ++ [V.str y])).length ≤ sizeLine
                simp only [List.length_cons, List.length_append, List.length_map, List.length_nil, hnl]
                decide
              · have e5 := (((e1.trans e2).trans e3).trans e4).trans (Ex.new (o := .tup (V.str k :: ((ns.map fun n => V.int (n : Nat)) ++ [V.str y]))) nr)
                exact qs k ns y hrl2 r _ e5 (fresh_back (((e1.trans e2).trans e3).trans e4) nr) upd_same
          · rw [decide_eq_false hk]
            rw [if_neg hk] at hrl2
            exact iteT (qn hrl2 _ (e1.trans e2))
      · rw [show decide (V.int ((fs.map V.str).length : Nat) = V.int 6) = false from decide_eq_false (by rw [List.length_map]; intro e; have := V.int.inj e; omega)]
        refine iteT (qn ?_ _ e1)
        rw [hrl]
        match fs, h6 with
        | [], _ => rfl
        | [_], _ => rfl
        | [_, _], _ => rfl
        | [_, _, _], _ => rfl
        | [_, _, _, _], _ => rfl
        | [_, _, _, _, _], _ => rfl
        | [_, _, _, _, _, _], h => exact absurd rfl h
        | _ :: _ :: _ :: _ :: _ :: _ :: _ :: _, _ => rfl
theorem ok_rhl {f T0 : Addr} {fd : FuncData} (F : Fun K "read_hall_letter" "read_hall_letter" sRhl f fd) (T : TMai mg) (C : CMai2 P w K mg base T0) : FnOk P w K mg base CX0 4 f fd ["text"] (spRhl T0) := by
  refine F.ok scRhl (fun vs H Q E h => ?_) (fun cdv A outer s H vs Q E hr h => ?_)
  · obtain ⟨z, rfl, _⟩ := h
    rfl
  · obtain ⟨z, rfl, hz, hT, qn, qs⟩ := h
    refine ⟨_, (pss_cons (ps_set (i := 1) scRhl.nd rfl (Or.inl rfl) (pcall C.unpacked (hr.mono (by first | decide | omega)) (pa_cons (pv 0) pa_nil)))
      (pss_cons (ps_if (PW.pt (pw_or (pt_cmpR op_isN (pv 1) pe_non (nomark _)) (pw_or (pt_cmpR op_lt (pe_callB call_len_seq (by rfl) T.z_len PySem.boot_len (pa_cons (pv 1) pa_nil)) pe_int (nomark _)) (pw_or1 (pt_cmpR op_ne (pe_ix ix_list (pv 1) pe_int (fun _ _ => rfl)) (pgS T.mg_SHOWN) (nomark _)))))) (pss_one (ps_ret pe_non)) pss_nil)
      (pss_cons (ps_set (i := 2) scRhl.nd rfl (Or.inl rfl) (pcall C.numbers_of (hr.mono (by first | decide | omega)) (pa_cons (pe_slice sl_list (pv 1) (po_some pe_int) (po_some pe_int)) (pa_cons (pgI T.mg_FIGURES) pa_nil))))
      (pss_cons (ps_if (pt_cmpR op_isN (pv 2) pe_non (nomark _)) (pss_one (ps_ret pe_non)) pss_nil)
      (pss_one (ps_ret (pe_tup (StX.pa_star (pv 2) (pa_cons (pe_ix ix_list (pv 1) pe_int (fun _ _ => rfl)) (pa_cons (pe_slice sl_list (pv 1) (po_some pe_int) po_none) pa_nil)))))))))), ?_⟩
    refine ⟨_, rfl, z, rfl, by omega, hT, fun hu H1 e1 => ?_, fun fs hu p H1 e1 np hp => ?_⟩
    · refine ⟨_, rfl, rfl, _, rfl, iteT (qn ?_ _ e1)⟩
      unfold readHall
      rw [hu]
    · obtain ⟨b1, b2⟩ := unp_bounds hu
      refine ⟨_, rfl, rfl, _, rfl, iteF ?_⟩
      have hrl : readHall z.cps.toList = match some fs with
        | some (k :: a :: b :: c :: d :: e :: y :: rows) => if k = "shown" then (numsOf 20 [a, b, c, d, e]).map fun ns => (ns, y, rows) else none
        | _ => none := by unfold readHall; rw [hu]
      refine ⟨_, rfl, p, _, rfl, .inl (SqL.of hp), _, _, rfl, rfl, _, rfl, ?_⟩
      by_cases h7 : fs.length < 7
      · rw [show decide (((fs.map V.str).length : Int) < 7) = true from decide_eq_true (by rw [List.length_map]; omega)]
        refine iteT (qn ?_ _ e1)
        rw [hrl]
        match fs, h7 with
        | [], _ => rfl
        | [_], _ => rfl
        | [_, _], _ => rfl
        | [_, _, _], _ => rfl
        | [_, _, _, _], _ => rfl
        | [_, _, _, _, _], _ => rfl
        | [_, _, _, _, _, _], _ => rfl
        | _ :: _ :: _ :: _ :: _ :: _ :: _ :: _, h => simp at h; omega
      · rw [show decide (((fs.map V.str).length : Int) < 7) = false from decide_eq_false (by rw [List.length_map]; omega)]
        refine iteF ?_
        obtain ⟨k, a, b, c, d, e, y, rows, rfl⟩ := seven fs h7
        · have hrl2 : readHall z.cps.toList = if k = "shown" then (numsOf 20 [a, b, c, d, e]).map fun ns => (ns, y, rows) else none := hrl
          refine ⟨_, rfl, p, _, _, _, rfl, rfl, SqL.of hp, atI_nat (j := 0) rfl, rfl, _, rfl, ?_⟩
          by_cases hk : k = "shown"
          · rw [show decide (V.str k = V.str (Str.ofString "shown")) = true from decide_eq_true (by rw [hk])]
            rw [if_pos hk] at hrl2
            refine iteF ?_
            have ec : cutV ((k :: a :: b :: c :: d :: e :: y :: rows).map V.str) (some 1) (some 6) = [a, b, c, d, e].map V.str := by
              unfold cutV
              have e1 : HT.sIx ((k :: a :: b :: c :: d :: e :: y :: rows).map V.str).length 0 (some 1) = 1 := by
                rw [show (some (1 : Int)) = some ((1 : Nat) : Int) from rfl, HT.sIx_nat]
                simp
              have e6 : HT.sIx ((k :: a :: b :: c :: d :: e :: y :: rows).map V.str).length ((k :: a :: b :: c :: d :: e :: y :: rows).map V.str).length (some 6) = 6 := by
                rw [show (some (6 : Int)) = some ((6 : Nat) : Int) from rfl, HT.sIx_nat]
                simp
              rw [e1, e6]
              rfl
            refine ⟨_, rfl, _, rfl, _, rfl, p, _, rfl, SqL.of hp, fun l nl => ?_⟩
            rw [ec]
            have e3 : Ex H1 (upd H1 l (.lst ([a, b, c, d, e].map V.str))) := Ex.new nl
            have hl : upd H1 l (.lst ([a, b, c, d, e].map V.str)) l = some (.lst ([a, b, c, d, e].map V.str)) := upd_same
            generalize upd H1 l (.lst ([a, b, c, d, e].map V.str)) = H3 at e3 hl ⊢
            refine ⟨l, [a, b, c, d, e], 20, rfl, SqL.of hl, by decide, (by show 5 ≤ 1000000; decide), fun x hx => ?_, fun hn H4 e4 => ?_, fun ns hn p2 H4 e4 np2 hp2b => ?_⟩
            · have := b2 x (show x ∈ ([k] ++ [a, b, c, d, e]) ++ (y :: rows) from List.mem_append_left _ (List.mem_append_right _ hx))
              omega
            · rw [hn] at hrl2
              exact ⟨_, rfl, rfl, _, rfl, iteT (qn hrl2 _ ((e1.trans e3).trans e4))⟩
            · rw [hn] at hrl2
              have hnl := nums_len hn
              refine ⟨_, rfl, rfl, _, rfl, iteF ?_⟩
              have hp4 := e4 _ _ (e3 _ _ hp)
              have ec7 : cutV ((k :: a :: b :: c :: d :: e :: y :: rows).map V.str) (some 7) none = rows.map V.str := by
                unfold cutV
                have e1 : HT.sIx ((k :: a :: b :: c :: d :: e :: y :: rows).map V.str).length 0 (some 7) = 7 := by
                  rw [show (some (7 : Int)) = some ((7 : Nat) : Int) from rfl, HT.sIx_nat]
                  simp
                rw [e1, HT.sIx_none]
                show (rows.map V.str).take _ = _
                exact List.take_of_length_le (by simp)
              refine ⟨_, rfl, p2, _, rfl, .inr (SqL.of hp2b), _, rfl, p, _, _, _, rfl, rfl, SqL.of hp4, atI_nat (j := 6) rfl, _, rfl, _, rfl, p, _, rfl, SqL.of hp4, fun r nr => ?_⟩
              rw [ec7]
              have x4 := (e1.trans e3).trans e4
              have e5 : Ex H4 (upd H4 r (.lst (rows.map V.str))) := Ex.new nr
              have hr5 : upd H4 r (.lst (rows.map V.str)) r = some (.lst (rows.map V.str)) := upd_same
              generalize upd H4 r (.lst (rows.map V.str)) = H5 at e5 hr5 ⊢
              refine ⟨?_, fun u nu => ?_⟩
              · show ((ns.map fun n => V.int (n : Nat)) ++ [V.str y, .ref r]).length ≤ sizeLine
                simp only [List.length_cons, List.length_append, List.length_map, List.length_nil, hnl]
                decide
              · have e6 : Ex H5 (upd H5 u (.tup ((ns.map fun n => V.int (n : Nat)) ++ [V.str y, .ref r]))) := Ex.new nu
                exact qs ns y rows hrl2 u r _ ((x4.trans e5).trans e6) (fresh_back (x4.trans e5) nu) (fresh_back x4 nr) (e6 _ _ hr5) upd_same
          · rw [show decide (V.str k = V.str (Str.ofString "shown")) = false from decide_eq_false (fun z => hk (V.str.inj z))]
            rw [if_neg hk] at hrl2
            exact iteT (qn hrl2 _ e1)
end
structure CMai (P : Program) (w : World) (K : PySem.W.Frag) (mg : Str → Option Value) (base : Heap) (T0 : Addr) : Prop where
  look_letter : Cal P w K mg base "look_letter" 4 ["kind", "name", "session", "pane", "first", "signs"] (spLle T0)
  hall_letter : Cal P w K mg base "hall_letter" 4 ["name", "session", "pane", "done", "changes", "line", "rows"] (spHle T0 K)
  read_look_letter : Cal P w K mg base "read_look_letter" 4 ["text"] (spRll T0)
  read_hall_letter : Cal P w K mg base "read_hall_letter" 4 ["text"] (spRhl T0)
end Vf
namespace Vf
open PySem PySem.Spec PyProof.Rows L2 Evl
/-! ### pieces of a row: the mathematics -/
def more (w : Nat) : Nat → List Nat → List (List Nat)
  | 0, _ => []
  | n + 1, l => if w < l.length then (l.drop w).take w :: more w n (l.drop w) else []
def pieces (w : Nat) (l : List Nat) : List (List Nat) := l.take w :: more w l.length l
def pcs (w : Nat) (z : Str) : List Str := (pieces w z.cps.toList).map fun l => ⟨l.toArray⟩
theorem more_eq {w : Nat} (hw : 1 ≤ w) : ∀ (n : Nat) (l : List Nat), l.length ≤ n → more w n l = (List.range ((l.length + w - 1) / w - 1)).map fun i => (l.drop ((i + 1) * w)).take w
  | 0, l, h => by
    have e : l.length = 0 := by omega
    rw [e]
    have e2 : (0 + w - 1) / w = 0 := Nat.div_eq_of_lt (by omega)
    rw [e2]
    rfl
  | n + 1, l, h => by
    unfold more
    by_cases hl : w < l.length
    · rw [if_pos hl, more_eq hw n (l.drop w) (by rw [List.length_drop]; omega), List.length_drop]
      have e1 : (l.length + w - 1) / w = (l.length - w + w - 1) / w + 1 := by
        have e : l.length + w - 1 = (l.length - w + w - 1) + w := by omega
        rw [e, Nat.add_div_right _ (by omega)]
      have h2 : 1 ≤ (l.length - w + w - 1) / w := (Nat.le_div_iff_mul_le (by omega)).mpr (by omega)
      rw [e1, show (l.length - w + w - 1) / w + 1 - 1 = ((l.length - w + w - 1) / w - 1) + 1 by omega, List.range_succ_eq_map, List.map_cons, List.map_map]
      congr 1
      · rw [Nat.zero_add, Nat.one_mul]
      · apply List.map_congr_left
        intro i _
        show ((l.drop w).drop ((i + 1) * w)).take w = (l.drop ((i + 1 + 1) * w)).take w
        rw [List.drop_drop]
        congr 2
        rw [Nat.add_mul (i + 1) 1 w]
        omega
    · rw [if_neg hl]
      have e2 : (l.length + w - 1) / w - 1 = 0 := by
        have : (l.length + w - 1) / w < 2 := Nat.div_lt_of_lt_mul (by omega)
        omega
      rw [e2]
      rfl
theorem pieces_eq {w : Nat} (hw : 1 ≤ w) (l : List Nat) : pieces w l = (List.range ((max l.length 1 + w - 1) / w)).map fun i => (l.drop (i * w)).take w := by
  unfold pieces
  rw [more_eq hw _ _ (Nat.le_refl _)]
  by_cases h0 : l.length = 0
  · have e : l = [] := List.length_eq_zero_iff.mp h0
    subst e
    have e1 : (max ([] : List Nat).length 1 + w - 1) / w = 1 := by
      show (max 0 1 + w - 1) / w = 1
      rw [show max 0 1 + w - 1 = w by omega, Nat.div_self (by omega)]
    have e2 : (([] : List Nat).length + w - 1) / w = 0 := Nat.div_eq_of_lt (by show 0 + w - 1 < w; omega)
    rw [e1, e2]
    simp
  · rw [show max l.length 1 = l.length by omega]
    have h2 : 1 ≤ (l.length + w - 1) / w := (Nat.le_div_iff_mul_le (by omega)).mpr (by omega)
    rw [show (l.length + w - 1) / w = ((l.length + w - 1) / w - 1) + 1 by omega, List.range_succ_eq_map, List.map_cons, List.map_map]
    congr 1
    rw [Nat.zero_mul, List.drop_zero]
theorem pieces_len {w : Nat} (hw : 1 ≤ w) (l : List Nat) : (pieces w l).length ≤ l.length + 1 := by
  rw [pieces_eq hw, List.length_map, List.length_range]
  refine Nat.le_trans (Nat.div_le_of_le_mul (m := max l.length 1 + w - 1) (k := w) (n := l.length + 1) ?_) (Nat.le_refl _)
  rw [Nat.mul_add, Nat.mul_one]
  have : 1 * l.length ≤ w * l.length := Nat.mul_le_mul_right _ hw
  omega
theorem pcs_len {w : Nat} (hw : 1 ≤ w) (z : Str) : (pcs w z).length ≤ z.length + 1 := by
  unfold pcs
  rw [List.length_map]
  exact pieces_len hw _
theorem piece_len {w : Nat} {l x : List Nat} (hw : 1 ≤ w) (h : x ∈ pieces w l) : ∀ c ∈ x, c ∈ l := by
  rw [pieces_eq hw] at h
  obtain ⟨i, _, rfl⟩ := List.mem_map.mp h
  intro c hc
  exact List.mem_of_mem_drop (List.mem_of_mem_take hc)
theorem rgc_up {j c : Int} {n : Nat} (h0 : 0 ≤ j) (h1 : j < 1000000000) (hc : 1 ≤ c) (hc2 : c < 1000000000) (hn : ((j + c - 1) / c : Int) = (n : Int)) : RgC 0 j c n := by
  have e : Builtin.Range.rangeSize 0 j c = (n : Int) := by rw [PyProof.Rows.rangeSize_pos hc h0]; exact hn
  have h2 : (n : Int) ≤ j + c := by
    rw [← hn]
    exact Int.ediv_le_of_le_mul (by omega) (by
      have : (j + c) * 1 ≤ (j + c) * c := Int.mul_le_mul_of_nonneg_left hc (by omega)
      omega)
  refine ⟨by omega, by omega, ?_, e⟩
  unfold Builtin.Range.small
  rw [e]
  simp only [Builtin.Range.rangeFitsLong, Bool.and_eq_true, Bool.or_eq_true, decide_eq_true_eq, beq_iff_eq, show c > 0 by omega, if_true]
  omega
theorem cutS_at {z : Str} {a w : Nat} (h : a ≤ z.length) : cutS z (some (a : Int)) (some ((a : Int) + (w : Int))) = ⟨((z.cps.toList.drop a).take w).toArray⟩ := by
  unfold cutS
  have e : ((a : Int) + (w : Int)) = ((a + w : Nat) : Int) := by omega
  rw [e, HT.sIx_nat, HT.sIx_nat, Nat.min_eq_left h]
  have hz : z.length = z.cps.toList.length := by show z.cps.size = _; simp
  congr 2
  by_cases hh : a + w ≤ z.length
  · rw [Nat.min_eq_left hh, Nat.add_sub_cancel_left]
  · rw [Nat.min_eq_right (by omega), List.take_of_length_le (by rw [List.length_drop]; omega), List.take_of_length_le (by rw [List.length_drop]; omega)]
theorem cutV_lastN (xs : List V) (h : Nat) (hh : 1 ≤ h) : cutV xs (some (-(h : Int))) none = xs.drop (xs.length - h) := by
  unfold cutV
  have e : HT.sIx xs.length 0 (some (-(h : Int))) = xs.length - h := by
    show (if (-(h : Int)) < 0 then (-(h : Int) + (xs.length : Int)).toNat else _) = _
    rw [if_pos (by omega)]
    omega
  rw [e, HT.sIx_none, List.take_of_length_le (by rw [List.length_drop]; omega)]
theorem cutV_from (xs : List V) (k : Nat) : cutV xs (some (k : Int)) none = xs.drop k := by
  unfold cutV
  rw [HT.sIx_nat, HT.sIx_none]
  by_cases hh : k ≤ xs.length
  · rw [Nat.min_eq_left hh, List.take_of_length_le (by rw [List.length_drop]; omega)]
  · rw [Nat.min_eq_right (by omega), Nat.sub_self, List.take_zero, List.drop_eq_nil_of_le (by omega)]
/-! ### the program's own pictures -/
abbrev sChk : Stmt := topS 52
theorem scChk : FnScope ["wide", "high"] ["wide", "high"] (defScope sChk) := ⟨rfl, rfl, rfl, by decide +kernel, rfl, by decide +kernel, by decide +kernel⟩
abbrev sCut : Stmt := topS 53
theorem scCut : FnScope ["row", "wide", "signs", "at"] ["row", "wide"] (defScope sCut) := ⟨rfl, rfl, rfl, by decide +kernel, rfl, by decide +kernel, by decide +kernel⟩
abbrev sVie : Stmt := topS 54
theorem scVie : FnScope ["rows", "line", "wide", "high", "pieces", "row"] ["rows", "line", "wide", "high"] (defScope sVie) := ⟨rfl, rfl, rfl, by decide +kernel, rfl, by decide +kernel, by decide +kernel⟩
structure TPic (mg : Str → Option Value) : Prop where
  z_len : mg "len" = none
  z_max : mg "max" = none
  z_range : mg "range" = none
  mg_NARROWEST : ∃ t, mg "NARROWEST" = some (.int 2 t)
  mg_WIDEST : ∃ t, mg "WIDEST" = some (.int 40 t)
  mg_LOWEST : ∃ t, mg "LOWEST" = some (.int 1 t)
  mg_HIGHEST : ∃ t, mg "HIGHEST" = some (.int 20 t)
def spChk : Sp := fun vs H Q _ => ∃ (w h : Nat), vs = [.int w, .int h] ∧ 2 ≤ w ∧ w ≤ 40 ∧ 1 ≤ h ∧ h ≤ 20 ∧ Q .non H
def spCut : Sp := fun vs H Q _ => ∃ (z : Str) (w : Nat), vs = [.str z, .int w] ∧ 1 ≤ w ∧ w ≤ 100 ∧ z.length ≤ 100000 ∧ ∀ p H', Ex H H' → H p = none → H' p = some (.lst ((pcs w z).map V.str)) → Q (.ref p) H'
def picture (rows : List Str) (line : Str) (w h : Nat) : List Str := ((rows ++ ["> " ++ line]).flatMap (pcs w)).drop (((rows ++ ["> " ++ line]).flatMap (pcs w)).length - h)
def spVie (K : PySem.W.Frag) : Sp := fun vs H Q _ => ∃ (a : Addr) (rows : List Str) (line : Str) (w h : Nat), vs = [.ref a, .str line, .int w, .int h] ∧ SqL K H a (rows.map V.str) ∧ rows.length ≤ 1000 ∧ (∀ z ∈ rows, z.length ≤ 1000) ∧ line.length ≤ 1000 ∧
  2 ≤ w ∧ w ≤ 40 ∧ 1 ≤ h ∧ h ≤ 20 ∧ ∀ p H', Ex H H' → H p = none → H' p = some (.lst ((picture rows line w h).map V.str)) → Q (.ref p) H'
section
variable {P : Program} {w : World} {K : PySem.W.Frag} {mg : Str → Option Value} {base : Heap}
theorem ok_chk {f : Addr} {fd : FuncData} (F : Fun K "check_size" "check_size" sChk f fd) (T : TPic mg) (C : CBnd P w K mg base) : FnOk P w K mg base CX0 3 f fd ["wide", "high"] spChk := by
  refine F.ok scChk (fun vs H Q E h => ?_) (fun cdv A outer s H vs Q E hr h => ?_)
  · obtain ⟨w, h, rfl, _⟩ := h
    rfl
  · obtain ⟨wd, hg, rfl, h1, h2, h3, h4, q⟩ := h
    refine ⟨_, (pss_cons (ps_if (pt_not (pt_val (pcall C.is_within (hr.mono (by first | decide | omega)) (pa_cons (pv 0) (pa_cons (pgI T.mg_NARROWEST) (pa_cons (pgI T.mg_WIDEST) pa_nil)))))) pss_never pss_nil)
      (pss_one (ps_if (pt_not (pt_val (pcall C.is_within (hr.mono (by first | decide | omega)) (pa_cons (pv 1) (pa_cons (pgI T.mg_LOWEST) (pa_cons (pgI T.mg_HIGHEST) pa_nil)))))) pss_never pss_nil))), ?_⟩
    refine ⟨_, rfl, _, _, _, rfl, .inl ⟨_, rfl, _, rfl, ite2 (fun e => absurd e (wit_no (by omega))) fun _ => ?_⟩⟩
    refine ⟨_, rfl, _, _, _, rfl, .inl ⟨_, rfl, _, rfl, ite2 (fun e => absurd e (wit_no (by omega))) fun _ => ?_⟩⟩
    exact q
theorem ok_cut {f : Addr} {fd : FuncData} (F : Fun K "cut" "cut" sCut f fd) (T : TPic mg) : FnOk P w K mg base CX0 1 f fd ["row", "wide"] spCut := by
  refine F.ok scCut (fun vs H Q E h => ?_) (fun cdv A outer s H vs Q E hr h => ?_)
  · obtain ⟨z, w, rfl, _⟩ := h
    rfl
  · obtain ⟨z, wd, rfl, h1, h2, h3, q⟩ := h
    refine ⟨_, (pss_cons (ps_set (i := 2) scCut.nd rfl (Or.inl rfl) (pe_callB (call_max2 rfl) (by rfl) T.z_max boot_max (pa_cons (pe_callB call_len_str (by rfl) T.z_len PySem.boot_len (pa_cons (pv 0) pa_nil)) (pa_cons pe_int pa_nil))))
      (pss_one (ps_ret (pe_lc (own := [("at", 3)]) (g := gName 3) (tt := tYes) rfl scCut.nd (pi_range3 (by rfl) T.z_range (pa_cons pe_int (pa_cons (pv 2) (pa_cons (pv 1) pa_nil)))) (blkOk_by (own := [("at", 3)]) (N := ["row", "wide", "signs", "at"]) (sc := defScope sCut) (by decide +kernel)) (fun _ _ _ _ _ => pg_name (i := 3) scCut.nd rfl (Or.inl rfl)) (fun _ _ _ _ _ => pts_nil) (fun _ _ _ _ _ => (pe_slice sl_str (pv 0) (po_some (pv 3)) (po_some (pe_op op_add (pv 3) (pv 1))))))))), ?_⟩
    refine ⟨.str z, rfl, z, rfl, Nat.le_trans h3 (by decide), _, _, rfl, ?_⟩
    have em : (if (1 : Int) > (z.length : Int) then (1 : Int) else (z.length : Int)) = ((max z.length 1 : Nat) : Int) := by split <;> omega
    rw [em]
    refine ⟨.int ((max z.length 1 : Nat) : Int), rfl, .int wd, rfl, 0, _, _, (max z.length 1 + wd - 1) / wd, rfl, rgc_up (by omega) (by omega) (by omega) (by omega) (by rw [show (((max z.length 1 : Nat) : Int) + (wd : Int) - 1) = ((max z.length 1 + wd - 1 : Nat) : Int) by omega]; exact (Int.natCast_ediv _ _).symm), fun D hD => ?_⟩
    have hz : z.cps.toList.length = z.length := by show _ = z.cps.size; simp
    refine lc_it walk_rangeC (fun i H' => Ex H H' ∧ H' D = some (.lst ((((pieces wd z.cps.toList).take i).map fun l => (⟨l.toArray⟩ : Str)).map V.str))) ⟨Ex.new hD, upd_same⟩ (fun _ _ _ _ => trivial) ?_ ?_
    · rintro i x H1 H2 hi ⟨e, hp⟩ ⟨rfl, rfl⟩
      have hle : i * wd ≤ z.length := by
        have q1 : (i + 1) * wd ≤ max z.length 1 + wd - 1 := (Nat.le_div_iff_mul_le (by omega)).mp hi
        rw [Nat.add_mul, Nat.one_mul] at q1
        by_cases h0 : z.length = 0
        · have : i * wd < 1 := by omega
          omega
        · omega
      refine ⟨rfl, yes_lc ?_⟩
      refine ⟨.str z, rfl, _, rfl, _, rfl, _, rfl, .int wd, rfl, _, _, rfl, rfl, _, rfl, z, rfl, Nat.le_trans h3 (by decide), _, hp, ?_, ex_set e hD, ?_⟩
      · rw [List.length_map, List.length_map, List.length_take]
        refine Nat.lt_of_le_of_lt (Nat.min_le_right _ _) (Nat.lt_of_le_of_lt (pieces_len h1 _) ?_)
        rw [hz]
        exact Nat.lt_of_le_of_lt (Nat.add_le_add_right h3 1) (by decide)
      · rw [upd_same]
        have ep : (pieces wd z.cps.toList)[i]? = some ((z.cps.toList.drop (i * wd)).take wd) := by
          rw [pieces_eq h1, List.getElem?_map, List.getElem?_range (by rw [hz]; exact hi)]
          rfl
        rw [List.take_add_one, ep, List.map_append, List.map_append]
        have ec : cutS z (some (0 + (i : Int) * (wd : Int))) (some (0 + (i : Int) * (wd : Int) + (wd : Int))) = ⟨((z.cps.toList.drop (i * wd)).take wd).toArray⟩ := by
          have e2 : (0 + (i : Int) * (wd : Int)) = ((i * wd : Nat) : Int) := by rw [Int.zero_add, Int.natCast_mul]
          rw [e2]
          exact cutS_at hle
        rw [ec]
        rfl
    · rintro H1 ⟨e, hp⟩
      have el : (pieces wd z.cps.toList).take ((max z.length 1 + wd - 1) / wd) = pieces wd z.cps.toList := List.take_of_length_le (by
        rw [pieces_eq h1, List.length_map, List.length_range, hz]
        exact Nat.le_refl _)
      rw [el] at hp
      exact q D H1 e hD hp
structure CPic (P : Program) (w : World) (K : PySem.W.Frag) (mg : Str → Option Value) (base : Heap) : Prop where
  check_size : Cal P w K mg base "check_size" 3 ["wide", "high"] spChk
  cut : Cal P w K mg base "cut" 1 ["row", "wide"] spCut
theorem flat_len {w : Nat} (hw : 1 ≤ w) : ∀ rows : List Str, (∀ z ∈ rows, z.length ≤ 1002) → (rows.flatMap (pcs w)).length ≤ rows.length * 1003
  | [], _ => Nat.zero_le _
  | z :: r, h => by
    rw [List.flatMap_cons, List.length_append, List.length_cons]
    have h1 := pcs_len hw z
    have h2 := h z (List.mem_cons_self)
    have h3 := flat_len hw r (fun y hy => h y (List.mem_cons_of_mem _ hy))
    omega
theorem ok_view {f : Addr} {fd : FuncData} (F : Fun K "view" "view" sVie f fd) (T : TPic mg) (C : CPic P w K mg base) : FnOk P w K mg base CX0 4 f fd ["rows", "line", "wide", "high"] (spVie K) := by
  refine F.ok scVie (fun vs H Q E h => ?_) (fun cdv A outer s H vs Q E hr h => ?_)
  · obtain ⟨a, rows, line, w, h, rfl, _⟩ := h
    rfl
  · obtain ⟨a, rows, line, wd, hg, rfl, hS, hl, hz, hll, h1, h2, h3, h4, q⟩ := h
    refine ⟨_, (pss_cons (ps_expr (pcall C.check_size (hr.mono (by first | decide | omega)) (pa_cons (pv 2) (pa_cons (pv 3) pa_nil))))
      (pss_cons (ps_set (i := 4) scVie.nd rfl (Or.inl rfl) (pe_lst pa_nil))
      (pss_cons (ps_for PassesOwn.never rfl (pi_list (pv 0)) (pg_name (i := 5) scVie.nd rfl (Or.inl rfl)) (pss_one (ps_expr (pe_bm PySem.F.plainAttrs_list PySem.F.slot_list_extend PySem.F.type_list_extend mt_extend (pv 4) (pa_cons (pcall C.cut (hr.mono (by first | decide | omega)) (pa_cons (pv 5) (pa_cons (pv 2) pa_nil))) pa_nil)))))
      (pss_cons (ps_expr (pe_bm PySem.F.plainAttrs_list PySem.F.slot_list_extend PySem.F.type_list_extend mt_extend (pv 4) (pa_cons (pcall C.cut (hr.mono (by first | decide | omega)) (pa_cons (pe_op op_add_str pe_str (pv 1)) (pa_cons (pv 2) pa_nil))) pa_nil)))
      (pss_one (ps_ret (pe_slice sl_list (pv 4) (po_some (pe_un un_neg (pv 3))) po_none))))))), ?_⟩
    refine ⟨_, rfl, _, rfl, wd, hg, rfl, h1, h2, h3, h4, ?_⟩
    refine ⟨Nat.zero_le _, fun l hnl => ?_⟩
    refine ⟨.ref a, rfl, a, rfl, ⟨_, ex_l (Ex.new hnl) hS⟩, for_list (K := K) (a := a) (xs := rows.map V.str) (fun i σ H' => ∃ c, σ = [some (.ref a), some (.str line), some (.int wd), some (.int hg), some (.ref l), c] ∧ Ex H H' ∧ H' l = some (.lst (((rows.take i).flatMap (pcs wd)).map V.str)))
      ⟨none, rfl, Ex.new hnl, upd_same⟩ (fun i σ H' _ ⟨_, _, e, _⟩ => ex_l e hS) ?_ ?_⟩
    · rintro i y σ H1 hi ⟨c, rfl, e, hp⟩
      have hi2 : i < rows.length := by
        have q := (List.getElem?_eq_some_iff.mp hi).1
        rw [List.length_map] at q
        exact q
      have ey : y = .str rows[i] := by
        rw [List.getElem?_map, List.getElem?_eq_getElem hi2] at hi
        exact (Option.some.inj hi).symm
      subst ey
      have hzi := hz _ (List.getElem_mem hi2)
      refine ⟨.ref l, rfl, .inl ⟨rfl, _, SqL.of hp⟩, _, rfl, _, rfl, rows[i], wd, rfl, by omega, by omega, by omega, fun c H2 e2 nc hc => ?_⟩
      have hp2 := e2 _ _ hp
      refine ⟨l, c, _, _, rfl, rfl, hp2, hc, ?_, ?_⟩
      · have g1 := flat_len (w := wd) (by omega) (rows.take i) (fun z hm => Nat.le_trans (hz z (List.mem_of_mem_take hm)) (by omega))
        have g2 := pcs_len (w := wd) (by omega) rows[i]
        rw [List.length_take] at g1
        rw [List.length_map, List.length_map]
        refine Nat.le_trans (m := 2000000) ?_ (by decide)
        omega
      · refine ⟨_, rfl, ex_set (e.trans e2) hnl, ?_⟩
        rw [upd_same, List.take_add_one, List.getElem?_eq_getElem hi2, List.flatMap_append, List.map_append]
        simp
    · rintro σ H1 ⟨c, rfl, e, hp⟩
      rw [List.length_map, List.take_length] at hp
      refine ⟨.ref l, rfl, .inl ⟨rfl, _, SqL.of hp⟩, _, rfl, _, _, rfl, rfl, ?_, _, rfl, "> " ++ line, wd, rfl, by omega, by omega, ?_, fun c H2 e2 nc hc => ?_⟩
      · show 2 + line.length ≤ _
        exact Nat.le_trans (Nat.add_le_add_left hll 2) (by decide)
      · rw [Str.length_append]
        show 2 + line.length ≤ _
        omega
      · have hp2 := e2 _ _ hp
        refine ⟨l, c, _, _, rfl, rfl, hp2, hc, ?_, ?_⟩
        · have g1 := flat_len (w := wd) (by omega) rows (fun z hm => Nat.le_trans (hz z hm) (by omega))
          have g2 := pcs_len (w := wd) (by omega) ("> " ++ line)
          have g3 : ("> " ++ line).length = 2 + line.length := Str.length_append _ _
          rw [List.length_map, List.length_map]
          refine Nat.le_trans (m := 2000000) ?_ (by decide)
          omega
        · refine ⟨.ref l, rfl, _, rfl, _, rfl, _, rfl, l, _, rfl, SqL.of upd_same, fun p np => ?_⟩
          have e3 : Ex H (upd H2 l (.lst (((rows.flatMap (pcs wd)).map V.str) ++ (pcs wd ("> " ++ line)).map V.str))) := ex_set (e.trans e2) hnl
          refine q p _ (e3.trans (Ex.new np)) (fresh_back e3 np) ?_
          rw [upd_same, cutV_lastN _ _ h3]
          unfold picture
          rw [List.flatMap_append, ← List.map_append, List.map_drop, List.length_map]
          simp
end
end Vf
namespace Vf
open PySem PySem.Spec PyProof.Rows L2 Evl
abbrev sPIn : Stmt := inClass (topS 46) 0
theorem scPIn : FnScope ["self"] ["self"] (defScope sPIn) := ⟨rfl, rfl, rfl, by decide +kernel, rfl, by decide +kernel, by decide +kernel⟩
abbrev sPRo : Stmt := inClass (topS 46) 3
theorem scPRo : FnScope ["self"] ["self"] (defScope sPRo) := ⟨rfl, rfl, rfl, by decide +kernel, rfl, by decide +kernel, by decide +kernel⟩
abbrev sPLi : Stmt := inClass (topS 46) 4
theorem scPLi : FnScope ["self"] ["self"] (defScope sPLi) := ⟨rfl, rfl, rfl, by decide +kernel, rfl, by decide +kernel, by decide +kernel⟩
abbrev sPJo : Stmt := inClass (topS 46) 5
theorem scPJo : FnScope ["self"] ["self"] (defScope sPJo) := ⟨rfl, rfl, rfl, by decide +kernel, rfl, by decide +kernel, by decide +kernel⟩
abbrev sPCh : Stmt := inClass (topS 46) 6
theorem scPCh : FnScope ["self"] ["self"] (defScope sPCh) := ⟨rfl, rfl, rfl, by decide +kernel, rfl, by decide +kernel, by decide +kernel⟩
abbrev sPTy : Stmt := inClass (topS 46) 7
theorem scPTy : FnScope ["self"] ["self"] (defScope sPTy) := ⟨rfl, rfl, rfl, by decide +kernel, rfl, by decide +kernel, by decide +kernel⟩
abbrev sPSi : Stmt := inClass (topS 46) 8
theorem scPSi : FnScope ["self", "number"] ["self", "number"] (defScope sPSi) := ⟨rfl, rfl, rfl, by decide +kernel, rfl, by decide +kernel, by decide +kernel⟩
abbrev sPAr : Stmt := inClass (topS 46) 10
theorem scPAr : FnScope ["self", "row"] ["self", "row"] (defScope sPAr) := ⟨rfl, rfl, rfl, by decide +kernel, rfl, by decide +kernel, by decide +kernel⟩
abbrev sPCl : Stmt := inClass (topS 46) 11
theorem scPCl : FnScope ["self"] ["self"] (defScope sPCl) := ⟨rfl, rfl, rfl, by decide +kernel, rfl, by decide +kernel, by decide +kernel⟩
abbrev sPSl : Stmt := inClass (topS 46) 12
theorem scPSl : FnScope ["self", "line"] ["self", "line"] (defScope sPSl) := ⟨rfl, rfl, rfl, by decide +kernel, rfl, by decide +kernel, by decide +kernel⟩
abbrev sPAc : Stmt := inClass (topS 46) 13
theorem scPAc : FnScope ["self", "kind", "text"] ["self", "kind", "text"] (defScope sPAc) := ⟨rfl, rfl, rfl, by decide +kernel, rfl, by decide +kernel, by decide +kernel⟩
/-! ### what a pane holds -/
structure Pn where
  rows : List Str
  line : Str
  job : Option (Int × Int)
  typed : List (List V)
  log : List (Str × Str)
def Pn.new : Pn := ⟨[], ⟨#[]⟩, none, [], []⟩
def chV (c : Str × Str) : List V := [.str c.1, .str c.2]
def Pn.chg (s : Pn) (k x : Str) : Pn := { s with log := s.log ++ [(k, x)] }
def Pn.addRow (s : Pn) (r : Str) : Pn := Pn.chg { s with rows := lst 40 (s.rows ++ [r]) } "row" r
def Pn.clr (s : Pn) : Pn := Pn.chg { s with rows := [] } "clear" ⟨#[]⟩
def Pn.setLine (s : Pn) (l : Str) : Pn := if l = s.line then s else Pn.chg { s with line := l } "line" l
structure TPn (mg : Str → Option Value) : Prop where
  z_len : mg "len" = none
  z_int : mg "int" = none
  z_list : mg "list" = none
  mg_SAY : ∃ t, mg "SAY" = some (.str "say " t)
  mg_MANY : ∃ t, mg "MANY" = some (.str "many " t)
  mg_LINE_SIGNS : ∃ t, mg "LINE_SIGNS" = some (.int 30 t)
  mg_ROWS_KEPT : ∃ t, mg "ROWS_KEPT" = some (.int 40 t)
  mg_TYPED_KEPT : ∃ t, mg "TYPED_KEPT" = some (.int 100 t)
  mg_CHANGES_KEPT : ∃ t, mg "CHANGES_KEPT" = some (.int 30 t)
structure TPan (K : PySem.W.Frag) (mg : Str → Option Value) (cP : Addr) : Prop extends TPn mg where
  cl : Cls K cP
  nR : NoAttr K cP "_rows"
  nL : NoAttr K cP "_line"
  nJ : NoAttr K cP "_job"
  nT : NoAttr K cP "_typed"
  nC : NoAttr K cP "_changes"
  nU : NoAttr K cP "_latest"
theorem ex_free {H H' : Hp} {a : Addr} (e : Ex H H') (n : H' a = none) : H a = none := by
  cases h : H a with
  | none => rfl
  | some o =>
    rw [e _ _ h] at n
    cases n
/-- the fields in their order -/
def pf (r : Addr) (line : Str) (jv : V) (t : Addr) (n : Int) (u : Addr) : List (Str × V) :=
  [("_rows", .ref r), ("_line", .str line), ("_job", jv), ("_typed", .ref t), ("_changes", .int n), ("_latest", .ref u)]
theorem q12 : (("_line" : Str) == "_rows") = false := by decide +kernel
theorem q13 : (("_job" : Str) == "_rows") = false := by decide +kernel
theorem q14 : (("_typed" : Str) == "_rows") = false := by decide +kernel
theorem q15 : (("_changes" : Str) == "_rows") = false := by decide +kernel
theorem q16 : (("_latest" : Str) == "_rows") = false := by decide +kernel
theorem q23 : (("_job" : Str) == "_line") = false := by decide +kernel
theorem q24 : (("_typed" : Str) == "_line") = false := by decide +kernel
theorem q25 : (("_changes" : Str) == "_line") = false := by decide +kernel
theorem q26 : (("_latest" : Str) == "_line") = false := by decide +kernel
theorem q34 : (("_typed" : Str) == "_job") = false := by decide +kernel
theorem q35 : (("_changes" : Str) == "_job") = false := by decide +kernel
theorem q36 : (("_latest" : Str) == "_job") = false := by decide +kernel
theorem q45 : (("_changes" : Str) == "_typed") = false := by decide +kernel
theorem q46 : (("_latest" : Str) == "_typed") = false := by decide +kernel
theorem q56 : (("_latest" : Str) == "_changes") = false := by decide +kernel
theorem nq {a b : Str} (h : (a == b) = false) : ¬ b = a := fun e => by
  rw [e, beq_self_eq_true] at h
  cases h
section
variable {r t u : Addr} {line : Str} {jv : V} {n : Int}
theorem pf_rows : (pf r line jv t n u).lookup ("_rows" : Str) = some (.ref r) := lk_hd
theorem pf_line : (pf r line jv t n u).lookup ("_line" : Str) = some (.str line) := (lk_tl q12).trans lk_hd
theorem pf_job : (pf r line jv t n u).lookup ("_job" : Str) = some jv := (lk_tl q13).trans ((lk_tl q23).trans lk_hd)
theorem pf_typed : (pf r line jv t n u).lookup ("_typed" : Str) = some (.ref t) := (lk_tl q14).trans ((lk_tl q24).trans ((lk_tl q34).trans lk_hd))
theorem pf_changes : (pf r line jv t n u).lookup ("_changes" : Str) = some (.int n) := (lk_tl q15).trans ((lk_tl q25).trans ((lk_tl q35).trans ((lk_tl q45).trans lk_hd)))
theorem pf_latest : (pf r line jv t n u).lookup ("_latest" : Str) = some (.ref u) := (lk_tl q16).trans ((lk_tl q26).trans ((lk_tl q36).trans ((lk_tl q46).trans ((lk_tl q56).trans lk_hd))))
theorem pf_no {m : Str} (h1 : (m == "_rows") = false) (h2 : (m == "_line") = false) (h3 : (m == "_job") = false) (h4 : (m == "_typed") = false) (h5 : (m == "_changes") = false) (h6 : (m == "_latest") = false) : (pf r line jv t n u).lookup m = none :=
  (lk_tl h1).trans ((lk_tl h2).trans ((lk_tl h3).trans ((lk_tl h4).trans ((lk_tl h5).trans ((lk_tl h6).trans rfl)))))
theorem put_rows {a : Addr} : putF "_rows" (.ref a) (pf r line jv t n u) = pf a line jv t n u := put_hd
theorem put_line {z : Str} : putF "_line" (.str z) (pf r line jv t n u) = pf r z jv t n u := by
  unfold pf
  rw [put_tl (nq q12), put_hd]
theorem put_job {z : V} : putF "_job" z (pf r line jv t n u) = pf r line z t n u := by
  unfold pf
  rw [put_tl (nq q13), put_tl (nq q23), put_hd]
theorem put_changes {z : Int} : putF "_changes" (.int z) (pf r line jv t n u) = pf r line jv t z u := by
  unfold pf
  rw [put_tl (nq q15), put_tl (nq q25), put_tl (nq q35), put_tl (nq q45), put_hd]
theorem pf_made : putF "_latest" (.ref u) (putF "_changes" (.int n) (putF "_typed" (.ref t) (putF "_job" jv (putF "_line" (.str line) (putF "_rows" (.ref r) []))))) = pf r line jv t n u := by
  unfold pf
  rw [put_nil, put_tl (nq q12), put_nil, put_tl (nq q13), put_tl (nq q23), put_nil, put_tl (nq q14), put_tl (nq q24), put_tl (nq q34), put_nil, put_tl (nq q15), put_tl (nq q25), put_tl (nq q35), put_tl (nq q45), put_nil,
    put_tl (nq q16), put_tl (nq q26), put_tl (nq q36), put_tl (nq q46), put_tl (nq q56), put_nil]
theorem pf_short : (pf r line jv t n u).length < 1000 := by show 6 < 1000; decide
end
def JobAt (H : Hp) (jv : V) : Option (Int × Int) → Prop
  | none => jv = .non
  | some (b, n) => ∃ a, jv = .ref a ∧ H a = some (.tup [.int b, .int n])
theorem JobAt.mono {H H' : Hp} {jv : V} (e : TupEx H H') : ∀ {j : Option (Int × Int)}, JobAt H jv j → JobAt H' jv j
  | none, h => h
  | some (b, n), ⟨a, h1, h2⟩ => ⟨a, h1, e _ _ h2⟩
/-- the pane at p, its lists at r, t, u -/
structure PanAt (C : Addr) (H : Hp) (p dx r t u : Addr) (s : Pn) : Prop where
  ex : ∃ (jv : V) (ts us : List V), H p = some (.ins C dx (pf r s.line jv t s.log.length u)) ∧ H t = some (.lst ts) ∧ H u = some (.lst us) ∧ JobAt H jv s.job ∧ Tups H ts s.typed ∧ Tups H us ((lst 30 s.log).map chV)
  hr : H r = some (.lst (s.rows.map V.str))
  rt : r ≠ t
  ru : r ≠ u
  tu : t ≠ u
/-- behind the heap H0 a pane stands at p: which lists it has is left open -/
def Pan (C : Addr) (H0 H : Hp) (p : Addr) (s : Pn) : Prop :=
  Ex H0 H ∧ H0 p = none ∧ ∃ dx r t u : Addr, H0 r = none ∧ H0 t = none ∧ H0 u = none ∧ PanAt C H p dx r t u s
/-- what every pane's state keeps -/
structure POk (s : Pn) : Prop where
  line : s.line.length ≤ 30
  lasc : Asc s.line
  rows : s.rows.length ≤ 40
  rasc : ∀ z ∈ s.rows, Asc z ∧ z.length ≤ 100
  gasc : ∀ c ∈ s.log, Asc c.1 ∧ Asc c.2
  typed : s.typed.length ≤ 100
  job : ∀ b n, s.job = some (b, n) → 0 ≤ b ∧ b < n ∧ n ≤ 99
theorem Pan.ex {C : Addr} {H0 H H' : Hp} {p : Addr} {s : Pn} (h : Pan C H0 H p s) (e : Ex H H') : Pan C H0 H' p s := by
  obtain ⟨h1, h2, dx, r, t, u, h3, h4, h5, ⟨⟨jv, ts, us, a1, a2, a3, a4, a5, a6⟩, a7, a8, a9, a10⟩⟩ := h
  exact ⟨h1.trans e, h2, dx, r, t, u, h3, h4, h5, ⟨⟨jv, ts, us, e _ _ a1, e _ _ a2, e _ _ a3, a4.mono (TupEx.ex e), a5.mono (TupEx.ex e), a6.mono (TupEx.ex e)⟩, e _ _ a7, a8, a9, a10⟩⟩
section
variable {P : Program} {w : World} {K : PySem.W.Frag} {mg : Str → Option Value} {base : Heap}
/-- a method that changes the pane and tells nothing -/
def spMut (C : Addr) (A : List V → Pn → Prop) (F : List V → Pn → Pn) : Sp := fun vs H Q _ => ∃ (H0 : Hp) (p : Addr) (s : Pn) (r : List V), vs = .ref p :: r ∧ Pan C H0 H p s ∧ POk s ∧ A r s ∧ ∀ H', Pan C H0 H' p (F r s) → Q .non H'
def spAc (C : Addr) : Sp := fun vs H Q _ => ∃ (H0 : Hp) (p : Addr) (s : Pn) (k x : Str), vs = [.ref p, .str k, .str x] ∧ Pan C H0 H p s ∧ ∀ H', Pan C H0 H' p (s.chg k x) → Q .non H'
theorem ok_ac {f cP : Addr} {fd : FuncData} (F : Fun K "_add_change" "Pane._add_change" sPAc f fd) (T : TPan K mg cP) : FnOk P w K mg base CX0 1 f fd ["self", "kind", "text"] (spAc cP) := by
  refine F.ok scPAc (fun vs H Q E h => ?_) (fun cdv A outer s H vs Q E hr h => ?_)
  · obtain ⟨H0, p, s, k, x, rfl, _⟩ := h
    rfl
  · obtain ⟨H0, p, st, k, x, rfl, ⟨h1, h2, dx, r, t, u, h3, h4, h5, ⟨⟨jv, ts, us, a1, a2, a3, a4, a5, a6⟩, a7, a8, a9, a10⟩⟩, q⟩ := h
    refine ⟨_, (pss_cons (ps_fldaug (pv 0) pe_int in_add)
      (pss_cons (ps_expr (pe_bm PySem.F.plainAttrs_list PySem.F.slot_list_append PySem.F.type_list_append mt_append (pe_fld (pv 0) rfl) (pa_cons (pe_tup (pa_cons (pv 1) (pa_cons (pv 2) pa_nil))) pa_nil)))
      (pss_one (ps_delS (pe_fld (pv 0) rfl) (po_some (pe_un un_neg (pgI T.mg_CHANGES_KEPT))))))), ?_⟩
    have nup : u ≠ p := ne_of a3 a1 (by intro z; cases z)
    have ntp : t ≠ p := ne_of a2 a1 (by intro z; cases z)
    have nrp : r ≠ p := ne_of a7 a1 (by intro z; cases z)
    have lu : us.length ≤ 30 := by rw [a6.len, List.length_map]; exact lst_le
    refine ⟨_, rfl, p, cP, dx, _, _, rfl, a1, T.cl, T.nC, pf_changes, _, _, rfl, rfl, dx, _, a1, pf_short, ?_⟩
    rw [put_changes]
    have b1 : upd H p (.ins cP dx (pf r st.line jv t (st.log.length + 1) u)) u = some (.lst us) := by rw [upd_ne nup]; exact a3
    refine ⟨_, rfl, p, cP, dx, _, _, rfl, upd_same, T.cl, T.nU, pf_latest, .inl ⟨rfl, _, SqL.of b1⟩, _, rfl, _, rfl, (by show 2 ≤ sizeLine; decide), fun l nl => ?_⟩
    have nlp : p ≠ l := ne_of_none upd_same nl
    have nlu : u ≠ l := ne_of_none b1 nl
    have nl0 : H l = none := by rw [upd_ne nlp.symm] at nl; exact nl
    have nlt : t ≠ l := ne_of_none a2 nl0
    have nlr : r ≠ l := ne_of_none a7 nl0
    have b2 : upd (upd H p (.ins cP dx (pf r st.line jv t (st.log.length + 1) u))) l (.tup [.str k, .str x]) u = some (.lst us) := by rw [upd_ne nlu]; exact b1
    refine ⟨u, us, _, rfl, rfl, b2, Nat.lt_of_le_of_lt lu (by decide), ?_⟩
    refine ⟨_, rfl, p, cP, dx, _, _, rfl, (by rw [upd_ne nup.symm, upd_ne nlp, upd_same]), T.cl, T.nU, pf_latest, _, rfl, _, rfl, u, _, 30, rfl, rfl, by decide, upd_same, ?_⟩
    refine q _ ⟨ex_set (ex_set (ex_set (ex_set h1 h2) (ex_free h1 nl0)) h5) h5, h2, dx, r, t, u, h3, h4, h5, ⟨⟨jv, ts, _, ?_, ?_, upd_same, ?_, ?_, ?_⟩, ?_, a8, a9, a10⟩⟩
    · rw [upd_ne nup.symm, upd_ne nup.symm, upd_ne nlp, upd_same]
      show some (HO.ins cP dx (pf r st.line jv t ((st.log.length : Int) + 1) u)) = some (HO.ins cP dx (pf r st.line jv t (((st.log ++ [(k, x)]).length : Nat) : Int) u))
      rw [List.length_append, List.length_singleton, Int.natCast_add]
      rfl
    · rw [upd_ne a10, upd_ne a10, upd_ne nlt, upd_ne ntp]
      exact a2
    · exact a4.mono (TupEx.trans (TupEx.ins a1) (TupEx.trans (TupEx.new nl) (TupEx.trans (TupEx.lst b2) (TupEx.lst upd_same))))
    · exact a5.mono (TupEx.trans (TupEx.ins a1) (TupEx.trans (TupEx.new nl) (TupEx.trans (TupEx.lst b2) (TupEx.lst upd_same))))
    · have e : (lst 30 (st.log ++ [(k, x)])).map chV = lst 30 ((lst 30 st.log).map chV ++ [chV (k, x)]) := by
        rw [← lst_snoc, ← lst_map, List.map_append]
        rfl
      show Tups _ _ ((lst 30 (st.log ++ [(k, x)])).map chV)
      rw [e]
      refine Tups.lst (Tups.snoc ?_ (a6.mono (TupEx.trans (TupEx.ins a1) (TupEx.trans (TupEx.new nl) (TupEx.trans (TupEx.lst b2) (TupEx.lst upd_same))))))
      rw [upd_ne nlu.symm, upd_ne nlu.symm, upd_same]
      rfl
    · rw [upd_ne a9, upd_ne a9, upd_ne nlr, upd_ne nrp]
      exact a7
def spAr (C : Addr) : Sp := fun vs H Q _ => ∃ (H0 : Hp) (p : Addr) (s : Pn) (x : Str), vs = [.ref p, .str x] ∧ Pan C H0 H p s ∧ s.rows.length ≤ 40 ∧ ∀ H', Pan C H0 H' p (s.addRow x) → Q .non H'
structure CAc (P : Program) (w : World) (K : PySem.W.Frag) (mg : Str → Option Value) (base : Heap) (cP : Addr) : Prop where
  add_change : MCal P w K mg base cP "_add_change" 1 ["self", "kind", "text"] (spAc cP)
theorem ok_ar {f cP : Addr} {fd : FuncData} (F : Fun K "_add_row" "Pane._add_row" sPAr f fd) (T : TPan K mg cP) (C : CAc P w K mg base cP) : FnOk P w K mg base CX0 2 f fd ["self", "row"] (spAr cP) := by
  refine F.ok scPAr (fun vs H Q E h => ?_) (fun cdv A outer s H vs Q E hr h => ?_)
  · obtain ⟨H0, p, s, x, rfl, _⟩ := h
    rfl
  · obtain ⟨H0, p, st, x, rfl, ⟨h1, h2, dx, r, t, u, h3, h4, h5, ⟨⟨jv, ts, us, a1, a2, a3, a4, a5, a6⟩, a7, a8, a9, a10⟩⟩, hR, q⟩ := h
    refine ⟨_, (pss_cons (ps_expr (pe_bm PySem.F.plainAttrs_list PySem.F.slot_list_append PySem.F.type_list_append mt_append (pe_fld (pv 0) rfl) (pa_cons (pv 1) pa_nil)))
      (pss_cons (ps_delS (pe_fld (pv 0) rfl) (po_some (pe_un un_neg (pgI T.mg_ROWS_KEPT))))
      (pss_one (ps_expr (pmeth (pv 0) T.cl C.add_change (hr.mono (by first | decide | omega)) (pa_cons pe_str (pa_cons (pv 1) pa_nil))))))), ?_⟩
    have nrp : r ≠ p := ne_of a7 a1 (by intro z; cases z)
    refine ⟨_, rfl, p, cP, dx, _, _, rfl, a1, T.cl, T.nR, pf_rows, .inl ⟨rfl, _, SqL.of a7⟩, _, rfl, r, _, _, rfl, rfl, a7, Nat.lt_of_le_of_lt (by rw [List.length_map]; exact hR) (show 40 < sizeLine by decide), ?_⟩
    have c1 : ∀ o, upd H r o p = some (.ins cP dx (pf r st.line jv t st.log.length u)) := fun o => by rw [upd_ne nrp.symm]; exact a1
    have c2 : ∀ o o', upd (upd H r o) r o' p = some (.ins cP dx (pf r st.line jv t st.log.length u)) := fun o o' => by rw [upd_ne nrp.symm]; exact c1 o
    refine ⟨_, rfl, p, cP, dx, _, _, rfl, c1 _, T.cl, T.nR, pf_rows, _, rfl, _, rfl, r, _, 40, rfl, rfl, by decide, upd_same, ?_⟩
    refine ⟨_, rfl, p, dx, _, rfl, c2 _ _, pf_no (by decide +kernel) (by decide +kernel) (by decide +kernel) (by decide +kernel) (by decide +kernel) (by decide +kernel), _, rfl, H0, p, { st with rows := lst 40 (st.rows ++ [x]) }, _, _, rfl, ?_, q⟩
    refine ⟨ex_set (ex_set h1 h3) h3, h2, dx, r, t, u, h3, h4, h5, ⟨⟨jv, ts, us, c2 _ _, ?_, ?_, ?_, ?_, ?_⟩, ?_, a8, a9, a10⟩⟩
    · rw [upd_ne a8.symm, upd_ne a8.symm]
      exact a2
    · rw [upd_ne a9.symm, upd_ne a9.symm]
      exact a3
    · exact a4.mono (TupEx.trans (TupEx.lst a7) (TupEx.lst upd_same))
    · exact a5.mono (TupEx.trans (TupEx.lst a7) (TupEx.lst upd_same))
    · exact a6.mono (TupEx.trans (TupEx.lst a7) (TupEx.lst upd_same))
    · rw [upd_same]
      show some (HO.lst (lst 40 (st.rows.map V.str ++ [V.str x]))) = some (HO.lst ((lst 40 (st.rows ++ [x])).map V.str))
      rw [← lst_map, List.map_append]
      rfl
def spCl (C : Addr) : Sp := fun vs H Q _ => ∃ (H0 : Hp) (p : Addr) (s : Pn), vs = [.ref p] ∧ Pan C H0 H p s ∧ ∀ H', Pan C H0 H' p s.clr → Q .non H'
theorem ok_cl {f cP : Addr} {fd : FuncData} (F : Fun K "_clear_rows" "Pane._clear_rows" sPCl f fd) (T : TPan K mg cP) (C : CAc P w K mg base cP) : FnOk P w K mg base CX0 2 f fd ["self"] (spCl cP) := by
  refine F.ok scPCl (fun vs H Q E h => ?_) (fun cdv A outer s H vs Q E hr h => ?_)
  · obtain ⟨H0, p, s, rfl, _⟩ := h
    rfl
  · obtain ⟨H0, p, st, rfl, ⟨h1, h2, dx, r, t, u, h3, h4, h5, ⟨⟨jv, ts, us, a1, a2, a3, a4, a5, a6⟩, a7, a8, a9, a10⟩⟩, q⟩ := h
    refine ⟨_, (pss_cons (ps_fld (pv 0) (pe_lst pa_nil) rfl)
      (pss_one (ps_expr (pmeth (pv 0) T.cl C.add_change (hr.mono (by first | decide | omega)) (pa_cons pe_str (pa_cons pe_str pa_nil)))))), ?_⟩
    have ntp : t ≠ p := ne_of a2 a1 (by intro z; cases z)
    have nup : u ≠ p := ne_of a3 a1 (by intro z; cases z)
    refine ⟨Nat.zero_le _, fun l nl => ?_⟩
    have npl : p ≠ l := ne_of_none a1 nl
    refine ⟨_, rfl, p, cP, dx, _, rfl, (by rw [upd_ne npl]; exact a1), T.cl, T.nR, pf_short, ?_⟩
    rw [put_rows]
    refine ⟨_, rfl, p, dx, _, rfl, upd_same, pf_no (by decide +kernel) (by decide +kernel) (by decide +kernel) (by decide +kernel) (by decide +kernel) (by decide +kernel), H0, p, { st with rows := [] }, _, _, rfl, ?_, q⟩
    refine ⟨ex_set (ex_set h1 (ex_free h1 nl)) h2, h2, dx, l, t, u, ex_free h1 nl, h4, h5, ⟨⟨jv, ts, us, upd_same, ?_, ?_, ?_, ?_, ?_⟩, ?_, (ne_of_none a2 nl).symm, (ne_of_none a3 nl).symm, a10⟩⟩
    · rw [upd_ne ntp, upd_ne (ne_of_none a2 nl)]
      exact a2
    · rw [upd_ne nup, upd_ne (ne_of_none a3 nl)]
      exact a3
    · exact a4.mono (TupEx.trans (TupEx.new nl) (TupEx.ins (by rw [upd_ne npl]; exact a1)))
    · exact a5.mono (TupEx.trans (TupEx.new nl) (TupEx.ins (by rw [upd_ne npl]; exact a1)))
    · exact a6.mono (TupEx.trans (TupEx.new nl) (TupEx.ins (by rw [upd_ne npl]; exact a1)))
    · rw [upd_ne npl.symm, upd_same]
      rfl
theorem vstr {x y : Str} : (decide (V.str x = V.str y) = true) ↔ x = y := by
  rw [decide_eq_true_iff]
  exact ⟨fun h => V.str.inj h, fun h => by rw [h]⟩
def spSl (C : Addr) : Sp := fun vs H Q _ => ∃ (H0 : Hp) (p : Addr) (s : Pn) (x : Str), vs = [.ref p, .str x] ∧ Pan C H0 H p s ∧ ∀ H', Pan C H0 H' p (s.setLine x) → Q .non H'
theorem ok_sl {f cP : Addr} {fd : FuncData} (F : Fun K "_set_line" "Pane._set_line" sPSl f fd) (T : TPan K mg cP) (C : CAc P w K mg base cP) : FnOk P w K mg base CX0 2 f fd ["self", "line"] (spSl cP) := by
  refine F.ok scPSl (fun vs H Q E h => ?_) (fun cdv A outer s H vs Q E hr h => ?_)
  · obtain ⟨H0, p, s, x, rfl, _⟩ := h
    rfl
  · obtain ⟨H0, p, st, x, rfl, ⟨h1, h2, dx, r, t, u, h3, h4, h5, ⟨⟨jv, ts, us, a1, a2, a3, a4, a5, a6⟩, a7, a8, a9, a10⟩⟩, q⟩ := h
    refine ⟨_, (pss_cons (ps_if (pt_cmpR op_eq (pv 1) (pe_fld (pv 0) rfl) (nomark _)) (pss_one ps_retN) pss_nil)
      (pss_cons (ps_fld (pv 0) (pv 1) rfl)
      (pss_one (ps_expr (pmeth (pv 0) T.cl C.add_change (hr.mono (by first | decide | omega)) (pa_cons pe_str (pa_cons (pv 1) pa_nil))))))), ?_⟩
    have nrp : r ≠ p := ne_of a7 a1 (by intro z; cases z)
    have ntp : t ≠ p := ne_of a2 a1 (by intro z; cases z)
    have nup : u ≠ p := ne_of a3 a1 (by intro z; cases z)
    refine ⟨_, rfl, _, rfl, p, cP, dx, _, _, rfl, a1, T.cl, T.nL, pf_line, rfl, _, rfl, ite2 (fun e => ?_) (fun e => ?_)⟩
    · refine q _ ?_
      rw [show st.setLine x = st from if_pos (vstr.mp e)]
      exact ⟨h1, h2, dx, r, t, u, h3, h4, h5, ⟨⟨jv, ts, us, a1, a2, a3, a4, a5, a6⟩, a7, a8, a9, a10⟩⟩
    · refine ⟨_, rfl, _, rfl, p, cP, dx, _, rfl, a1, T.cl, T.nL, pf_short, ?_⟩
      rw [put_line]
      refine ⟨_, rfl, p, dx, _, rfl, upd_same, pf_no (by decide +kernel) (by decide +kernel) (by decide +kernel) (by decide +kernel) (by decide +kernel) (by decide +kernel), _, rfl, H0, p, { st with line := x }, _, _, rfl, ?_, fun H' z => q H' (by rw [show st.setLine x = Pn.chg { st with line := x } "line" x from if_neg fun e2 => e (vstr.mpr e2)]; exact z)⟩
      refine ⟨ex_set h1 h2, h2, dx, r, t, u, h3, h4, h5, ⟨⟨jv, ts, us, upd_same, ?_, ?_, ?_, ?_, ?_⟩, ?_, a8, a9, a10⟩⟩
      · rw [upd_ne ntp]
        exact a2
      · rw [upd_ne nup]
        exact a3
      · exact a4.mono (TupEx.ins a1)
      · exact a5.mono (TupEx.ins a1)
      · exact a6.mono (TupEx.ins a1)
      · rw [upd_ne nrp]
        exact a7
/-! ### what is told -/
def spRo (C : Addr) : Sp := fun vs H Q _ => ∃ (H0 : Hp) (p : Addr) (s : Pn), vs = [.ref p] ∧ Pan C H0 H p s ∧ ∀ l, H l = none → Q (.ref l) (upd H l (.lst (s.rows.map V.str)))
theorem ok_ro {f cP : Addr} {fd : FuncData} (F : Fun K "rows" "Pane.rows" sPRo f fd) (T : TPan K mg cP) : FnOk P w K mg base CX0 1 f fd ["self"] (spRo cP) := by
  refine F.ok scPRo (fun vs H Q E h => ?_) (fun cdv A outer s H vs Q E hr h => ?_)
  · obtain ⟨H0, p, s, rfl, _⟩ := h
    rfl
  · obtain ⟨H0, p, st, rfl, ⟨h1, h2, dx, r, t, u, h3, h4, h5, ⟨⟨jv, ts, us, a1, a2, a3, a4, a5, a6⟩, a7, a8, a9, a10⟩⟩, q⟩ := h
    refine ⟨_, (pss_one (ps_ret (pe_callTy call_list_of (by rfl) T.z_list boot_list (pa_cons (pe_fld (pv 0) rfl) pa_nil)))), ?_⟩
    exact ⟨_, rfl, p, cP, dx, _, _, rfl, a1, T.cl, T.nR, pf_rows, r, _, rfl, .inl (SqL.of a7), q⟩
def spLi (C : Addr) : Sp := fun vs H Q _ => ∃ (H0 : Hp) (p : Addr) (s : Pn), vs = [.ref p] ∧ Pan C H0 H p s ∧ Q (.str s.line) H
theorem ok_li {f cP : Addr} {fd : FuncData} (F : Fun K "line" "Pane.line" sPLi f fd) (T : TPan K mg cP) : FnOk P w K mg base CX0 1 f fd ["self"] (spLi cP) := by
  refine F.ok scPLi (fun vs H Q E h => ?_) (fun cdv A outer s H vs Q E hr h => ?_)
  · obtain ⟨H0, p, s, rfl, _⟩ := h
    rfl
  · obtain ⟨H0, p, st, rfl, ⟨h1, h2, dx, r, t, u, h3, h4, h5, ⟨⟨jv, ts, us, a1, a2, a3, a4, a5, a6⟩, a7, a8, a9, a10⟩⟩, q⟩ := h
    refine ⟨_, (pss_one (ps_ret (pe_fld (pv 0) rfl))), ?_⟩
    exact ⟨_, rfl, p, cP, dx, _, _, rfl, a1, T.cl, T.nL, pf_line, q⟩
def spJo (C : Addr) : Sp := fun vs H Q _ => ∃ (H0 : Hp) (p : Addr) (s : Pn), vs = [.ref p] ∧ Pan C H0 H p s ∧ ∀ jv, JobAt H jv s.job → Q jv H
theorem ok_jo {f cP : Addr} {fd : FuncData} (F : Fun K "job" "Pane.job" sPJo f fd) (T : TPan K mg cP) : FnOk P w K mg base CX0 1 f fd ["self"] (spJo cP) := by
  refine F.ok scPJo (fun vs H Q E h => ?_) (fun cdv A outer s H vs Q E hr h => ?_)
  · obtain ⟨H0, p, s, rfl, _⟩ := h
    rfl
  · obtain ⟨H0, p, st, rfl, ⟨h1, h2, dx, r, t, u, h3, h4, h5, ⟨⟨jv, ts, us, a1, a2, a3, a4, a5, a6⟩, a7, a8, a9, a10⟩⟩, q⟩ := h
    refine ⟨_, (pss_one (ps_ret (pe_fld (pv 0) rfl))), ?_⟩
    exact ⟨_, rfl, p, cP, dx, _, _, rfl, a1, T.cl, T.nJ, pf_job, q _ a4⟩
def spCh (C : Addr) : Sp := fun vs H Q _ => ∃ (H0 : Hp) (p : Addr) (s : Pn), vs = [.ref p] ∧ Pan C H0 H p s ∧ Q (.int s.log.length) H
theorem ok_ch {f cP : Addr} {fd : FuncData} (F : Fun K "changes" "Pane.changes" sPCh f fd) (T : TPan K mg cP) : FnOk P w K mg base CX0 1 f fd ["self"] (spCh cP) := by
  refine F.ok scPCh (fun vs H Q E h => ?_) (fun cdv A outer s H vs Q E hr h => ?_)
  · obtain ⟨H0, p, s, rfl, _⟩ := h
    rfl
  · obtain ⟨H0, p, st, rfl, ⟨h1, h2, dx, r, t, u, h3, h4, h5, ⟨⟨jv, ts, us, a1, a2, a3, a4, a5, a6⟩, a7, a8, a9, a10⟩⟩, q⟩ := h
    refine ⟨_, (pss_one (ps_ret (pe_fld (pv 0) rfl))), ?_⟩
    exact ⟨_, rfl, p, cP, dx, _, _, rfl, a1, T.cl, T.nC, pf_changes, q⟩
def spTy (C : Addr) : Sp := fun vs H Q _ => ∃ (H0 : Hp) (p : Addr) (s : Pn), vs = [.ref p] ∧ Pan C H0 H p s ∧ ∀ l ts, H l = none → Tups H ts s.typed → Q (.ref l) (upd H l (.lst ts))
theorem ok_ty {f cP : Addr} {fd : FuncData} (F : Fun K "typed" "Pane.typed" sPTy f fd) (T : TPan K mg cP) : FnOk P w K mg base CX0 1 f fd ["self"] (spTy cP) := by
  refine F.ok scPTy (fun vs H Q E h => ?_) (fun cdv A outer s H vs Q E hr h => ?_)
  · obtain ⟨H0, p, s, rfl, _⟩ := h
    rfl
  · obtain ⟨H0, p, st, rfl, ⟨h1, h2, dx, r, t, u, h3, h4, h5, ⟨⟨jv, ts, us, a1, a2, a3, a4, a5, a6⟩, a7, a8, a9, a10⟩⟩, q⟩ := h
    refine ⟨_, (pss_one (ps_ret (pe_callTy call_list_of (by rfl) T.z_list boot_list (pa_cons (pe_fld (pv 0) rfl) pa_nil)))), ?_⟩
    exact ⟨_, rfl, p, cP, dx, _, _, rfl, a1, T.cl, T.nT, pf_typed, t, _, rfl, .inl (SqL.of a2), fun l hl => q l ts hl a5⟩
theorem cutV_last {xs : List V} {c : Nat} (hc : 0 < c) : cutV xs (some (-(c : Int))) none = xs.drop (xs.length - c) := by
  unfold cutV
  have e : HT.sIx xs.length 0 (some (-(c : Int))) = xs.length - c := by
    show (if (-(c : Int)) < 0 then ((-(c : Int)) + (xs.length : Int)).toNat else min (-(c : Int)).toNat xs.length) = _
    rw [if_pos (by omega)]
    omega
  rw [e, HT.sIx_none, List.take_of_length_le (by rw [List.length_drop]; omega)]
theorem cutV_rest {xs : List V} {w : Nat} : cutV xs (some (w : Int)) none = xs.drop w := by
  unfold cutV
  rw [HT.sIx_nat, HT.sIx_none]
  by_cases hh : w ≤ xs.length
  · rw [Nat.min_eq_left hh, List.take_of_length_le (by rw [List.length_drop]; omega)]
  · rw [Nat.min_eq_right (by omega), Nat.sub_self, List.take_zero, List.drop_eq_nil_of_le (by omega)]
def spSi (C : Addr) : Sp := fun vs H Q _ => ∃ (H0 : Hp) (p : Addr) (s : Pn) (n : Int), vs = [.ref p, .int n] ∧ Pan C H0 H p s ∧
  ((n < s.log.length - min 30 s.log.length ∨ (s.log.length : Int) < n) → Q .non H) ∧
  (∀ (m : Nat) (l : Addr) (us : List V), n = m → s.log.length ≤ m + 30 → m ≤ s.log.length → H l = none → Tups H us ((s.log.drop m).map chV) → Q (.ref l) (upd H l (.lst us)))
theorem putF_len {f : Str} {v : V} : ∀ {fs : List (Str × V)} {n : Nat}, fs.length ≤ n → (putF f v fs).length ≤ n + 1
  | [], n, h => Nat.succ_le_succ (Nat.zero_le _)
  | (g, y) :: r, 0, h => by cases h
  | (g, y) :: r, n + 1, h => by
    show (if g = f then (g, v) :: r else (g, y) :: putF f v r).length ≤ n + 1 + 1
    by_cases e : g = f
    · rw [if_pos e]
      exact Nat.le_succ_of_le h
    · rw [if_neg e]
      exact Nat.succ_le_succ (putF_len (Nat.le_of_succ_le_succ h))
def spIn (C : Addr) : Sp := fun vs H Q _ => ∃ (H0 : Hp) (p dx : Addr), vs = [.ref p] ∧ Ex H0 H ∧ H0 p = none ∧ H p = some (.ins C dx []) ∧ ∀ H', Pan C H0 H' p Pn.new → Q .non H'
theorem ok_in {f cP : Addr} {fd : FuncData} (F : Fun K "__init__" "Pane.__init__" sPIn f fd) (T : TPan K mg cP) : FnOk P w K mg base CX0 1 f fd ["self"] (spIn cP) := by
  refine F.ok scPIn (fun vs H Q E h => ?_) (fun cdv A outer s H vs Q E hr h => ?_)
  · obtain ⟨H0, p, dx, rfl, _⟩ := h
    rfl
  · obtain ⟨H0, p, dx, rfl, h1, h2, h3, q⟩ := h
    refine ⟨_, (pss_cons (ps_fld (pv 0) (pe_lst pa_nil) rfl)
      (pss_cons (ps_fld (pv 0) pe_str rfl)
      (pss_cons (ps_fld (pv 0) pe_non rfl)
      (pss_cons (ps_fld (pv 0) (pe_lst pa_nil) rfl)
      (pss_cons (ps_fld (pv 0) pe_int rfl)
      (pss_one (ps_fld (pv 0) (pe_lst pa_nil) rfl))))))), ?_⟩
    refine ⟨Nat.zero_le _, fun r nr => ?_⟩
    have npr : p ≠ r := ne_of_none h3 nr
    refine ⟨_, rfl, p, cP, dx, _, rfl, (by rw [upd_ne npr]; exact h3), T.cl, T.nR, (by show 0 < 1000; decide), ?_⟩
    refine ⟨_, rfl, p, cP, dx, _, rfl, upd_same, T.cl, T.nL, Nat.lt_of_le_of_lt (putF_len (Nat.zero_le 0)) (by decide), ?_⟩
    refine ⟨_, rfl, p, cP, dx, _, rfl, upd_same, T.cl, T.nJ, Nat.lt_of_le_of_lt (putF_len (putF_len (Nat.zero_le 0))) (by decide), ?_⟩
    refine ⟨Nat.zero_le _, fun t nt => ?_⟩
    have npt : p ≠ t := ne_of_none upd_same nt
    have nrt : r ≠ t := ne_of_none (o := .lst []) (by rw [upd_ne npr.symm, upd_ne npr.symm, upd_ne npr.symm, upd_same]) nt
    have nt0 : H0 t = none := by
      refine ex_free h1 ?_
      rw [upd_ne npt.symm, upd_ne npt.symm, upd_ne npt.symm, upd_ne nrt.symm] at nt
      exact nt
    refine ⟨_, rfl, p, cP, dx, _, rfl, (by rw [upd_ne npt, upd_same]), T.cl, T.nT, Nat.lt_of_le_of_lt (putF_len (putF_len (putF_len (Nat.zero_le 0)))) (by decide), ?_⟩
    refine ⟨_, rfl, p, cP, dx, _, rfl, upd_same, T.cl, T.nC, Nat.lt_of_le_of_lt (putF_len (putF_len (putF_len (putF_len (Nat.zero_le 0))))) (by decide), ?_⟩
    refine ⟨Nat.zero_le _, fun u nu => ?_⟩
    have npu : p ≠ u := ne_of_none upd_same nu
    have ntu : t ≠ u := ne_of_none (o := .lst []) (by rw [upd_ne npt.symm, upd_ne npt.symm, upd_same]) nu
    have nru : r ≠ u := ne_of_none (o := .lst []) (by rw [upd_ne npr.symm, upd_ne npr.symm, upd_ne nrt, upd_ne npr.symm, upd_ne npr.symm, upd_ne npr.symm, upd_same]) nu
    have nu0 : H0 u = none := by
      refine ex_free h1 ?_
      rw [upd_ne npu.symm, upd_ne npu.symm, upd_ne ntu.symm, upd_ne npu.symm, upd_ne npu.symm, upd_ne npu.symm, upd_ne nru.symm] at nu
      exact nu
    have nr0 : H0 r = none := ex_free h1 nr
    refine ⟨_, rfl, p, cP, dx, _, rfl, (by rw [upd_ne npu, upd_same]), T.cl, T.nU, Nat.lt_of_le_of_lt (putF_len (putF_len (putF_len (putF_len (putF_len (Nat.zero_le 0)))))) (by decide), ?_⟩
    rw [pf_made]
    refine q _ ⟨ex_set (ex_set (ex_set (ex_set (ex_set (ex_set (ex_set (ex_set (ex_set h1 nr0) h2) h2) h2) nt0) h2) h2) nu0) h2, h2, dx, r, t, u, nr0, nt0, nu0, ⟨⟨.non, [], [], upd_same, ?_, ?_, rfl, trivial, trivial⟩, ?_, nrt, nru, ntu⟩⟩
    · rw [upd_ne npt.symm, upd_ne ntu, upd_ne npt.symm, upd_ne npt.symm, upd_same]
    · rw [upd_ne npu.symm, upd_same]
    · rw [upd_ne npr.symm, upd_ne nru, upd_ne npr.symm, upd_ne npr.symm, upd_ne nrt, upd_ne npr.symm, upd_ne npr.symm, upd_ne npr.symm, upd_same]
      rfl
end
end Vf
namespace Vf
open PySem PySem.Spec PyProof.Rows L2 Evl
abbrev sJsz : Stmt := topS 45
theorem scJsz : FnScope ["line"] ["line"] (defScope sJsz) := ⟨rfl, rfl, rfl, by decide +kernel, rfl, by decide +kernel, by decide +kernel⟩
abbrev sPDo : Stmt := inClass (topS 46) 9
theorem scPDo : FnScope ["self", "line", "size"] ["self"] (defScope sPDo) := ⟨rfl, rfl, rfl, by decide +kernel, rfl, by decide +kernel, by decide +kernel⟩
abbrev sPPr : Stmt := inClass (topS 46) 1
theorem scPPr : FnScope ["self", "look", "session", "sign"] ["self", "look", "session", "sign"] (defScope sPPr) := ⟨rfl, rfl, rfl, by decide +kernel, rfl, by decide +kernel, by decide +kernel⟩
abbrev sPBe : Stmt := inClass (topS 46) 2
theorem scPBe : FnScope ["self"] ["self"] (defScope sPBe) := ⟨rfl, rfl, rfl, by decide +kernel, rfl, by decide +kernel, by decide +kernel⟩
/-! ### the job that a line begins -/
abbrev rp (x y : Str) : Str := Txt.removeprefix x y
theorem rp_drop (x y : Str) : ∃ k, (rp x y).cps.toList = x.cps.toList.drop k := by
  unfold rp
  rw [StrLaws.removeprefix_eq]
  by_cases h : (decide (0 + y.length ≤ x.length) && Builtin.Str.subAt x y 0) = true
  · rw [if_pos h]
    refine ⟨y.length, ?_⟩
    show ((x.cps.toList.drop y.length).take (x.length - y.length)).toArray.toList = _
    rw [List.take_of_length_le (by rw [List.length_drop, str_len]; exact Nat.le_refl _)]
  · rw [if_neg h]
    exact ⟨0, by rw [List.drop_zero]⟩
theorem rp_asc {x y : Str} (h : Asc x) : Asc (rp x y) := by
  obtain ⟨k, e⟩ := rp_drop x y
  intro c hc
  rw [e] at hc
  exact h c (List.mem_of_mem_drop hc)
theorem rp_len {x y : Str} : (rp x y).length ≤ x.length := by
  obtain ⟨k, e⟩ := rp_drop x y
  rw [← str_len, e, List.length_drop, str_len]
  exact Nat.sub_le _ _
def jobSize (z : Str) : Int :=
  if rp z "many " = z ∨ Txt.isdigit (rp z "many ") = false then 0
  else if Txt.startswith (rp z "many ") "0" = true ∨ 2 < (rp z "many ").length then 0
  else (figV (rp z "many ") : Nat)
open NumText in
theorem fig_lt {z : Str} (h : AllDigits z.cps.toList) (hl : z.length ≤ 2) : figV z ≤ 99 := by
  unfold figV digitsVal
  rw [← str_len] at hl
  match e : z.cps.toList, hl with
  | [], _ => exact Nat.zero_le _
  | [a], _ =>
    have h1 := h a (by rw [e]; exact List.mem_singleton.mpr rfl)
    show 0 * 10 + (a - 48) ≤ 99
    omega
  | [a, b], _ =>
    have h1 := h a (by rw [e]; simp)
    have h2 := h b (by rw [e]; simp)
    show (0 * 10 + (a - 48)) * 10 + (b - 48) ≤ 99
    omega
  | a :: b :: c :: r, hl => simp at hl
theorem job_range {z : Str} (h : Asc z) : 0 ≤ jobSize z ∧ jobSize z ≤ 99 := by
  unfold jobSize
  by_cases h1 : rp z "many " = z ∨ Txt.isdigit (rp z "many ") = false
  · rw [if_pos h1]
    decide
  · rw [if_neg h1]
    by_cases h2 : Txt.startswith (rp z "many ") "0" = true ∨ 2 < (rp z "many ").length
    · rw [if_pos h2]
      decide
    · rw [if_neg h2]
      have h3 := fig_lt (z := rp z "many ") (dig_all (rp_asc h) (by
        cases e : Txt.isdigit (rp z "many ") with
        | true => rfl
        | false => exact absurd (.inr e) h1)).1 (by
        have : ¬ 2 < (rp z "many ").length := fun q => h2 (.inr q)
        omega)
      omega
section
variable {P : Program} {w : World} {K : PySem.W.Frag} {mg : Str → Option Value} {base : Heap}
def spJsz : Sp := fun vs H Q _ => ∃ z : Str, vs = [.str z] ∧ Asc z ∧ z.length ≤ 100 ∧ Q (.int (jobSize z)) H
theorem rp_not {x y : Str} (h : Txt.startswith x y = false) : rp x y = x := by
  unfold rp
  rw [StrLaws.removeprefix_eq]
  have h2 : (decide (0 + y.length ≤ x.length) && Builtin.Str.subAt x y 0) = false := h
  rw [if_neg (by rw [h2]; simp)]
theorem rp_ne {x y : Str} (h : Txt.startswith x y = true) (hy : 0 < y.length) : ¬ rp x y = x := by
  unfold rp
  rw [StrLaws.removeprefix_eq]
  have h2 : (decide (0 + y.length ≤ x.length) && Builtin.Str.subAt x y 0) = true := h
  rw [if_pos h2]
  intro e
  have e2 := congrArg (fun z : Str => z.cps.toList.length) e
  have e3 : ((x.cps.toList.drop y.length).take (x.length - y.length)).toArray.toList.length = x.cps.toList.length := e2
  have h3 := of_decide_eq_true (Bool.and_eq_true_iff.mp h2).1
  rw [List.length_take, List.length_drop, str_len] at e3
  omega
theorem job_num {z : Str} (ha : Asc z) : jobSize z = if Txt.startswith z "many " = true then (((numOf (rp z "many ") 2).getD 0 : Nat) : Int) else 0 := by
  cases e : Txt.startswith z "many " with
  | false =>
    rw [if_neg (by simp)]
    exact if_pos (.inl (rp_not e))
  | true =>
    rw [if_pos rfl]
    have n1 := rp_ne e (by decide)
    have a1 := asc_iff.mpr (rp_asc (y := "many ") ha)
    unfold jobSize numOf
    rw [a1]
    cases e2 : Txt.isdigit (rp z "many ") with
    | false => rw [if_pos (.inr rfl), if_pos (.inr (.inl rfl))]; rfl
    | true =>
      rw [if_neg (by rintro (k | k); exact n1 k; cases k)]
      by_cases h2 : 2 < (rp z "many ").length
      · rw [if_pos (.inr h2), if_pos (.inr (.inr h2))]; rfl
      · rw [if_neg (c := (true = false ∨ true = false ∨ _)) (by rintro (k | k | k); cases k; cases k; exact h2 k)]
        cases e3 : Txt.startswith (rp z "many ") "0" with
        | false => rw [if_neg (by rintro (k | k); cases k; exact h2 k), if_neg (by rintro ⟨k, _⟩; cases k)]; rfl
        | true =>
          rw [if_pos (.inl rfl)]
          by_cases h4 : rp z "many " = "0"
          · rw [if_neg (by rintro ⟨_, k⟩; exact k h4), h4]; rfl
          · rw [if_pos ⟨rfl, h4⟩]; rfl
theorem ok_jsz {f : Addr} {fd : FuncData} (F : Fun K "job_size" "job_size" sJsz f fd) (T : TPn mg) (C : CNum P w K mg base) : FnOk P w K mg base CX0 2 f fd ["line"] spJsz := by
  refine F.ok scJsz (fun vs H Q E h => ?_) (fun cdv A outer s H vs Q E hr h => ?_)
  · obtain ⟨z, rfl, _⟩ := h
    rfl
  · obtain ⟨z, rfl, ha, hz, q⟩ := h
    refine ⟨_, (pss_cons (ps_if (pt_not (pt_val (pe_m1 PySem.F.slot_str_startswith PySem.F.type_str_startswith mt_startswith (pv 0) (pgS T.mg_MANY)))) (pss_one (ps_ret pe_int)) pss_nil)
      (pss_one (ps_ret (pe_orT (pcall C.number_of (hr.mono (by first | decide | omega)) (pa_cons (pe_m1 PySem.F.slot_str_removeprefix PySem.F.type_str_removeprefix mt_removeprefix (pv 0) (pgS T.mg_MANY)) (pa_cons pe_int pa_nil))) (pe_one pe_int))))), ?_⟩
    rw [job_num ha] at q
    have lf : (rp z "many ").length ≤ 100 := Nat.le_trans rp_len hz
    refine ⟨_, rfl, ⟨_, rfl⟩, _, _, rfl, rfl, _, rfl, ite2 (fun e => ?_) (fun e => ?_)⟩
    · have e1 : Txt.startswith z "many " = false := bne.mp e
      rw [e1] at q
      exact q
    · have e1 : Txt.startswith z "many " = true := by simpa using e
      rw [if_pos e1] at q
      refine ⟨_, rfl, ⟨_, rfl⟩, z, _, rfl, rfl, Nat.le_trans hz (by decide), _, 2, rfl, by decide, Nat.le_trans lf (by decide), ?_⟩
      cases en : numOf (rp z "many ") 2 with
      | none =>
        rw [en] at q
        exact ⟨false, rfl, q⟩
      | some n =>
        rw [en] at q
        refine ⟨_, rfl, ?_⟩
        by_cases h0 : n = 0
        · subst h0
          exact iteF q
        · refine (if_pos (show (((n : Nat) : Int) != 0) = true by simpa using h0)).mpr q
/-! ### a line that is done -/
theorem vne {x y : Str} : (!decide (V.str x = V.str y)) = false ↔ x = y := by
  rw [Bool.not_eq_false', vstr]
theorem vne2 {x y : Str} (h : ¬ x = y) : (!decide (V.str x = V.str y)) = true := by
  cases e : (!decide (V.str x = V.str y)) with
  | true => rfl
  | false => exact absurd (vne.mp e) h
theorem Pan.at {C : Addr} {H0 H : Hp} {p : Addr} {s : Pn} (h : Pan C H0 H p s) : ∃ dx r t u jv, H p = some (.ins C dx (pf r s.line jv t s.log.length u)) ∧ JobAt H jv s.job := by
  obtain ⟨h1, h2, dx, r, t, u, h3, h4, h5, ⟨⟨jv, ts, us, a1, a2, a3, a4, a5, a6⟩, a7, a8, a9, a10⟩⟩ := h
  exact ⟨dx, r, t, u, jv, a1, a4⟩
theorem Pan.job {C : Addr} {H0 H : Hp} {p dx : Addr} {fs : List (Str × V)} {s : Pn} {jv' : V} {j : Option (Int × Int)} (h : Pan C H0 H p s) (e : H p = some (.ins C dx fs)) (k : JobAt H jv' j) :
    Pan C H0 (upd H p (.ins C dx (putF "_job" jv' fs))) p { s with job := j } := by
  obtain ⟨h1, h2, dx1, r, t, u, h3, h4, h5, ⟨⟨jv, ts, us, a1, a2, a3, a4, a5, a6⟩, a7, a8, a9, a10⟩⟩ := h
  rw [a1] at e
  cases e
  have nrp : r ≠ p := ne_of a7 a1 (by intro z; cases z)
  have ntp : t ≠ p := ne_of a2 a1 (by intro z; cases z)
  have nup : u ≠ p := ne_of a3 a1 (by intro z; cases z)
  rw [put_job]
  exact ⟨ex_set h1 h2, h2, dx, r, t, u, h3, h4, h5, ⟨⟨jv', ts, us, upd_same, by rw [upd_ne ntp]; exact a2, by rw [upd_ne nup]; exact a3, k.mono (TupEx.ins a1), a5.mono (TupEx.ins a1), a6.mono (TupEx.ins a1)⟩, by rw [upd_ne nrp]; exact a7, a8, a9, a10⟩⟩
theorem JobAt.non {H : Hp} {jv : V} : ∀ {j : Option (Int × Int)}, JobAt H jv j → (jv = .non ↔ j = none)
  | none, h => ⟨fun _ => rfl, fun _ => h⟩
  | some (b, n), ⟨a, h, _⟩ => ⟨fun k => (by rw [h] at k; cases k), fun k => (by cases k)⟩
def Pn.said (s : Pn) : Pn := (s.addRow ("> " ++ s.line)).setLine ⟨#[]⟩
def Pn.doLine (s : Pn) : Pn :=
  if Txt.startswith s.line "say " = true then s.said.addRow (rp s.line "say ")
  else if s.line = "clear" then s.said.clr
  else if s.line = "stop" ∧ s.said.job ≠ none then { s.said with job := none }
  else if 0 < jobSize s.line then { s.said with job := some (0, jobSize s.line) }
  else if ¬ s.line = "" then s.said.addRow ("? " ++ s.line)
  else s.said
theorem set_rows {s : Pn} {x : Str} : (s.setLine x).rows = s.rows := by
  unfold Pn.setLine
  by_cases h : x = s.line
  · rw [if_pos h]
  · rw [if_neg h]
    rfl
def spDo (C : Addr) : Sp := fun vs H Q _ => ∃ (H0 : Hp) (p : Addr) (s : Pn), vs = [.ref p] ∧ Pan C H0 H p s ∧ s.rows.length ≤ 40 ∧ Asc s.line ∧ s.line.length ≤ 30 ∧ ∀ H', Pan C H0 H' p s.doLine → Q .non H'
structure CDo (P : Program) (w : World) (K : PySem.W.Frag) (mg : Str → Option Value) (base : Heap) (cP : Addr) : Prop where
  job_size : Cal P w K mg base "job_size" 2 ["line"] spJsz
  add_row : MCal P w K mg base cP "_add_row" 2 ["self", "row"] (spAr cP)
  set_line : MCal P w K mg base cP "_set_line" 2 ["self", "line"] (spSl cP)
  clear_rows : MCal P w K mg base cP "_clear_rows" 2 ["self"] (spCl cP)
theorem ok_do {f cP : Addr} {fd : FuncData} (F : Fun K "_do_line" "Pane._do_line" sPDo f fd) (T : TPan K mg cP) (C : CDo P w K mg base cP) : FnOk P w K mg base CX0 3 f fd ["self"] (spDo cP) := by
  refine F.ok scPDo (fun vs H Q E h => ?_) (fun cdv A outer s H vs Q E hr h => ?_)
  · obtain ⟨H0, p, s, rfl, _⟩ := h
    rfl
  · obtain ⟨H0, p, st, rfl, R, hR, ha, hl, q⟩ := h
    refine ⟨_, (pss_cons (ps_set (i := 1) scPDo.nd rfl (Or.inl rfl) (pe_fld (pv 0) rfl))
      (pss_cons (ps_expr (pmeth (pv 0) T.cl C.add_row (hr.mono (by first | decide | omega)) (pa_cons (pe_op op_add_str pe_str (pv 1)) pa_nil)))
      (pss_cons (ps_expr (pmeth (pv 0) T.cl C.set_line (hr.mono (by first | decide | omega)) (pa_cons pe_str pa_nil)))
      (pss_cons (ps_set (i := 2) scPDo.nd rfl (Or.inl rfl) (pcall C.job_size (hr.mono (by first | decide | omega)) (pa_cons (pv 1) pa_nil)))
      (pss_one (ps_if (pt_val (pe_m1 PySem.F.slot_str_startswith PySem.F.type_str_startswith mt_startswith (pv 1) (pgS T.mg_SAY))) (pss_one (ps_expr (pmeth (pv 0) T.cl C.add_row (hr.mono (by first | decide | omega)) (pa_cons (pe_m1 PySem.F.slot_str_removeprefix PySem.F.type_str_removeprefix mt_removeprefix (pv 1) (pgS T.mg_SAY)) pa_nil)))) (pss_one (ps_if (pt_cmpR op_eq (pv 1) pe_str (nomark _)) (pss_one (ps_expr (pmeth0 (pv 0) T.cl C.clear_rows (hr.mono (by first | decide | omega))))) (pss_one (ps_if (PW.pt (pw_and (pt_cmpR op_eq (pv 1) pe_str (nomark _)) (pw_and1 (pt_cmpR op_notN (pe_fld (pv 0) rfl) pe_non (nomark _))))) (pss_one (ps_fld (pv 0) pe_non rfl)) (pss_one (ps_if (pt_cmpR op_gt (pv 2) pe_int (nomark _)) (pss_one (ps_fld (pv 0) (pe_tup (pa_cons pe_int (pa_cons (pv 2) pa_nil))) rfl)) (pss_one (ps_if (pt_cmpR op_ne (pv 1) pe_str (nomark _)) (pss_one (ps_expr (pmeth (pv 0) T.cl C.add_row (hr.mono (by first | decide | omega)) (pa_cons (pe_op op_add_str pe_str (pv 1)) pa_nil)))) pss_nil)))))))))))))), ?_⟩
    have ladd : ∀ {x : Str}, x.length ≤ 2 → x.length + st.line.length ≤ sizeLine := fun hx => Nat.le_trans (show _ ≤ 32 by omega) (by decide)
    obtain ⟨dx, r, t, u, jv, b0, j0⟩ := R.at
    refine ⟨_, rfl, p, cP, dx, _, _, rfl, b0, T.cl, T.nL, pf_line, ?_⟩
    refine ⟨_, rfl, p, dx, _, rfl, b0, pf_no (by decide +kernel) (by decide +kernel) (by decide +kernel) (by decide +kernel) (by decide +kernel) (by decide +kernel), _, rfl, _, _, rfl, rfl, ladd (by decide), H0, p, st, _, rfl, R, hR, fun H1 R1 => ?_⟩
    obtain ⟨dx1, r1, t1, u1, jv1, b1, j1⟩ := R1.at
    refine ⟨_, rfl, p, dx1, _, rfl, b1, pf_no (by decide +kernel) (by decide +kernel) (by decide +kernel) (by decide +kernel) (by decide +kernel) (by decide +kernel), H0, p, _, _, rfl, R1, fun H2 R2 => ?_⟩
    have R2 : Pan cP H0 H2 p st.said := R2
    have r2 : st.said.rows.length ≤ 40 := by
      show ((st.addRow _).setLine _).rows.length ≤ 40
      rw [set_rows]
      exact lst_le
    obtain ⟨dx2, r2', t2, u2, jv2, b2, j2⟩ := R2.at
    refine ⟨_, rfl, st.line, rfl, ha, Nat.le_trans hl (by decide), ?_⟩
    refine ⟨_, rfl, ⟨_, rfl⟩, _, _, rfl, rfl, _, rfl, ite2 (fun e1 => ?_) (fun e1 => ?_)⟩
    · refine ⟨_, rfl, p, dx2, _, rfl, b2, pf_no (by decide +kernel) (by decide +kernel) (by decide +kernel) (by decide +kernel) (by decide +kernel) (by decide +kernel), _, rfl, ⟨_, rfl⟩, st.line, _, rfl, rfl, Nat.le_trans hl (by decide), H0, p, _, _, rfl, R2, r2, fun H3 R3 => q _ ?_⟩
      rw [show st.doLine = st.said.addRow (rp st.line "say ") from if_pos e1]
      exact R3
    · refine ⟨_, rfl, rfl, _, rfl, ite2 (fun e2 => ?_) (fun e2 => ?_)⟩
      · refine ⟨_, rfl, p, dx2, _, rfl, b2, pf_no (by decide +kernel) (by decide +kernel) (by decide +kernel) (by decide +kernel) (by decide +kernel) (by decide +kernel), H0, p, _, rfl, R2, fun H3 R3 => q _ ?_⟩
        rw [show st.doLine = st.said.clr from by unfold Pn.doLine; rw [if_neg e1, if_pos (vstr.mp e2)]]
        exact R3
      · have e2 : ¬ st.line = "clear" := fun k => e2 (vstr.mpr k)
        refine ⟨_, rfl, rfl, _, rfl, ite2 (fun e3 => ?_) (fun e3 => ite2 (fun z => by cases z) (fun _ => ?_))⟩
        · refine ⟨_, rfl, p, cP, dx2, _, _, rfl, b2, T.cl, T.nJ, pf_job, rfl, _, rfl, ite2 (fun e6 => ?_) (fun e6 => ?_)⟩
          · have e6 : st.said.job ≠ none := fun k => (by rw [decide_eq_true (j2.non.mpr k)] at e6; cases e6)
            refine ⟨_, rfl, p, cP, dx2, _, rfl, b2, T.cl, T.nJ, pf_short, q _ ?_⟩
            rw [show st.doLine = { st.said with job := none } from by unfold Pn.doLine; rw [if_neg e1, if_neg e2, if_pos ⟨vstr.mp e3, e6⟩]]
            exact R2.job b2 rfl
          · have e3 : ¬ (st.line = "stop" ∧ st.said.job ≠ none) := fun k => e6 (by rw [decide_eq_false (fun z => k.2 (j2.non.mp z))]; rfl)
            refine ⟨_, rfl, _, _, rfl, rfl, _, rfl, ite2 (fun e4 => ?_) (fun e4 => ?_)⟩
            · have e4 : 0 < jobSize st.line := of_decide_eq_true e4
              refine ⟨_, rfl, (by show 2 ≤ sizeLine; decide), fun l nl => ?_⟩
              have npl : p ≠ l := ne_of_none b2 nl
              refine ⟨_, rfl, p, cP, dx2, _, rfl, (by rw [upd_ne npl]; exact b2), T.cl, T.nJ, pf_short, q _ ?_⟩
              rw [show st.doLine = { st.said with job := some (0, jobSize st.line) } from by unfold Pn.doLine; rw [if_neg e1, if_neg e2, if_neg e3, if_pos e4]]
              exact (R2.ex (Ex.new nl)).job (by rw [upd_ne npl]; exact b2) ⟨l, rfl, upd_same⟩
            · have e4 : ¬ 0 < jobSize st.line := fun k => e4 (decide_eq_true k)
              refine ⟨_, rfl, rfl, _, rfl, ite2 (fun e5 => ?_) (fun e5 => ?_)⟩
              · have e5 : ¬ st.line = "" := fun k => (by rw [vne.mpr k] at e5; cases e5)
                refine ⟨_, rfl, p, dx2, _, rfl, b2, pf_no (by decide +kernel) (by decide +kernel) (by decide +kernel) (by decide +kernel) (by decide +kernel) (by decide +kernel), _, rfl, _, _, rfl, rfl, ladd (by decide), H0, p, _, _, rfl, R2, r2, fun H3 R3 => q _ ?_⟩
                rw [show st.doLine = st.said.addRow ("? " ++ st.line) from by unfold Pn.doLine; rw [if_neg e1, if_neg e2, if_neg e3, if_neg e4, if_pos e5]]
                exact R3
              · have e5 : ¬ ¬ st.line = "" := fun k => e5 (by rw [vne2 k])
                refine q _ ?_
                rw [show st.doLine = st.said from by unfold Pn.doLine; rw [if_neg e1, if_neg e2, if_neg e3, if_neg e4, if_neg e5]]
                exact R2
        · have e3 : ¬ (st.line = "stop" ∧ st.said.job ≠ none) := fun k => e3 (vstr.mpr k.1)
          refine ⟨_, rfl, _, _, rfl, rfl, _, rfl, ite2 (fun e4 => ?_) (fun e4 => ?_)⟩
          · have e4 : 0 < jobSize st.line := of_decide_eq_true e4
            refine ⟨_, rfl, (by show 2 ≤ sizeLine; decide), fun l nl => ?_⟩
            have npl : p ≠ l := ne_of_none b2 nl
            refine ⟨_, rfl, p, cP, dx2, _, rfl, (by rw [upd_ne npl]; exact b2), T.cl, T.nJ, pf_short, q _ ?_⟩
            rw [show st.doLine = { st.said with job := some (0, jobSize st.line) } from by unfold Pn.doLine; rw [if_neg e1, if_neg e2, if_neg e3, if_pos e4]]
            exact (R2.ex (Ex.new nl)).job (by rw [upd_ne npl]; exact b2) ⟨l, rfl, upd_same⟩
          · have e4 : ¬ 0 < jobSize st.line := fun k => e4 (decide_eq_true k)
            refine ⟨_, rfl, rfl, _, rfl, ite2 (fun e5 => ?_) (fun e5 => ?_)⟩
            · have e5 : ¬ st.line = "" := fun k => (by rw [vne.mpr k] at e5; cases e5)
              refine ⟨_, rfl, p, dx2, _, rfl, b2, pf_no (by decide +kernel) (by decide +kernel) (by decide +kernel) (by decide +kernel) (by decide +kernel) (by decide +kernel), _, rfl, _, _, rfl, rfl, ladd (by decide), H0, p, _, _, rfl, R2, r2, fun H3 R3 => q _ ?_⟩
              rw [show st.doLine = st.said.addRow ("? " ++ st.line) from by unfold Pn.doLine; rw [if_neg e1, if_neg e2, if_neg e3, if_neg e4, if_pos e5]]
              exact R3
            · have e5 : ¬ ¬ st.line = "" := fun k => e5 (by rw [vne2 k])
              refine q _ ?_
              rw [show st.doLine = st.said from by unfold Pn.doLine; rw [if_neg e1, if_neg e2, if_neg e3, if_neg e4, if_neg e5]]
              exact R2
end
end Vf
namespace Vf
open PySem PySem.Spec PyProof.Rows L2 Evl
/-! ### a sign that is typed -/
def Pn.press (s : Pn) (v w : V) (c : Nat) : Pn :=
  let s1 := { s with typed := lst 100 (s.typed ++ [[v, w, .str (sg c)]]) }
  if sg c = ";" then s1.doLine
  else if sg c = "<" then s1.setLine (cutS s1.line none (some (-1)))
  else if s1.line.length < 30 then s1.setLine (s1.line ++ sg c)
  else s1
def ofRow (b n : Int) : Str := ((Str.empty ++ Str.ofString (toString b)) ++ Str.ofString " of ") ++ Str.ofString (toString n)
def Pn.beat (s : Pn) : Pn := match s.job with
  | none => s
  | some (b, n) => { s.addRow (ofRow (b + 1) n) with job := if b + 1 < n then some (b + 1, n) else none }
section
variable {P : Program} {w : World} {K : PySem.W.Frag} {mg : Str → Option Value} {base : Heap}
def spPr (C : Addr) : Sp := fun vs H Q _ => ∃ (H0 : Hp) (p : Addr) (s : Pn) (x y : V) (c : Nat), vs = [.ref p, x, y, .str (sg c)] ∧ c ∈ KEY.cps.toList ∧ Pan C H0 H p s ∧ POk s ∧ ∀ H', Pan C H0 H' p (s.press x y c) → Q .non H'
structure CPr (P : Program) (w : World) (K : PySem.W.Frag) (mg : Str → Option Value) (base : Heap) (cP : Addr) : Prop where
  do_line : MCal P w K mg base cP "_do_line" 3 ["self"] (spDo cP)
  set_line : MCal P w K mg base cP "_set_line" 2 ["self", "line"] (spSl cP)
  wrong_place : Cal P w K mg base "wrong_place" 1 ["signs"] spWrp
theorem ok_pr {f cP : Addr} {fd : FuncData} (F : Fun K "press" "Pane.press" sPPr f fd) (T : TPan K mg cP) (C : CPr P w K mg base cP) : FnOk P w K mg base CX0 4 f fd ["self", "look", "session", "sign"] (spPr cP) := by
  refine F.ok scPPr (fun vs H Q E h => ?_) (fun cdv A outer s H vs Q E hr h => ?_)
  · obtain ⟨H0, p, s, x, y, c, rfl, _⟩ := h
    rfl
  · obtain ⟨H0, p, st, x, y, c, rfl, hc, Rp, O, q⟩ := h
    refine ⟨_, (pss_cons (ps_if (PW.pt (pw_or (pt_cmpR op_ne (pe_callB call_len_str (by rfl) T.z_len PySem.boot_len (pa_cons (pv 3) pa_nil)) pe_int (nomark _)) (pw_or1 (pt_cmpR op_notN (pcall C.wrong_place (hr.mono (by first | decide | omega)) (pa_cons (pv 3) pa_nil)) pe_non (nomark _))))) pss_never pss_nil)
      (pss_cons (ps_expr (pe_bm PySem.F.plainAttrs_list PySem.F.slot_list_append PySem.F.type_list_append mt_append (pe_fld (pv 0) rfl) (pa_cons (pe_tup (pa_cons (pv 1) (pa_cons (pv 2) (pa_cons (pv 3) pa_nil)))) pa_nil)))
      (pss_cons (ps_delS (pe_fld (pv 0) rfl) (po_some (pe_un un_neg (pgI T.mg_TYPED_KEPT))))
      (pss_one (ps_if (pt_cmpR op_eq (pv 3) pe_str (nomark _)) (pss_one (ps_expr (pmeth0 (pv 0) T.cl C.do_line (hr.mono (by first | decide | omega))))) (pss_one (ps_if (pt_cmpR op_eq (pv 3) pe_str (nomark _)) (pss_one (ps_expr (pmeth (pv 0) T.cl C.set_line (hr.mono (by first | decide | omega)) (pa_cons (pe_slice sl_str (pe_fld (pv 0) rfl) po_none (po_some (pe_un un_neg pe_int))) pa_nil)))) (pss_one (ps_if (pt_cmpR op_lt (pe_callB call_len_str (by rfl) T.z_len PySem.boot_len (pa_cons (pe_fld (pv 0) rfl) pa_nil)) (pgI T.mg_LINE_SIGNS) (nomark _)) (pss_one (ps_expr (pmeth (pv 0) T.cl C.set_line (hr.mono (by first | decide | omega)) (pa_cons (pe_op op_add_str (pe_fld (pv 0) rfl) (pv 3)) pa_nil)))) pss_nil))))))))), ?_⟩
    refine ⟨_, rfl, _, rfl, (by show 1 ≤ sizeLine; decide), rfl, _, rfl, ite2 (fun z => by cases z) (fun _ => ?_)⟩
    refine ⟨_, rfl, sg c, rfl, fun Hw eW => ?_⟩
    have hwn : wrongAt (sg c).cps.toList = none := wrong_none fun k hk => by
      have e : k = c := List.mem_singleton.mp hk
      rw [e]
      exact decide_eq_true hc
    rw [hwn]
    refine ⟨rfl, _, rfl, iteF ?_⟩
    have Rp := Rp.ex eW
    clear eW
    revert Rp
    generalize Hw = H
    intro Rp
    obtain ⟨h1, h2, dx, r, t, u, h3, h4, h5, ⟨⟨jv, ts, us, a1, a2, a3, a4, a5, a6⟩, a7, a8, a9, a10⟩⟩ := Rp
    have lt_ : ts.length ≤ 100 := by rw [a5.len]; exact O.typed
    have ntp : t ≠ p := ne_of a2 a1 (by intro z; cases z)
    · refine ⟨_, rfl, p, cP, dx, _, _, rfl, a1, T.cl, T.nT, pf_typed, .inl ⟨rfl, _, SqL.of a2⟩, _, rfl, _, rfl, _, rfl, (by show 3 ≤ sizeLine; decide), fun l nl => ?_⟩
      have npl : p ≠ l := ne_of_none a1 nl
      have ntl : t ≠ l := ne_of_none a2 nl
      have nul : u ≠ l := ne_of_none a3 nl
      have nrl : r ≠ l := ne_of_none a7 nl
      have b2 : upd H l (.tup [x, y, .str (sg c)]) t = some (.lst ts) := by rw [upd_ne ntl]; exact a2
      refine ⟨t, ts, _, rfl, rfl, b2, Nat.lt_of_le_of_lt lt_ (by decide), ?_⟩
      refine ⟨_, rfl, p, cP, dx, _, _, rfl, (by rw [upd_ne ntp.symm, upd_ne npl]; exact a1), T.cl, T.nT, pf_typed, _, rfl, _, rfl, t, _, 100, rfl, rfl, by decide, upd_same, ?_⟩
      have R : Pan cP H0 (upd (upd (upd H l (.tup [x, y, .str (sg c)])) t (.lst (ts ++ [.ref l]))) t (.lst ((ts ++ [V.ref l]).drop ((ts ++ [V.ref l]).length - 100)))) p { st with typed := lst 100 (st.typed ++ [[x, y, .str (sg c)]]) } := by
        refine ⟨ex_set (ex_set (ex_set h1 (ex_free h1 nl)) h4) h4, h2, dx, r, t, u, h3, h4, h5, ⟨⟨jv, _, us, ?_, upd_same, ?_, ?_, ?_, ?_⟩, ?_, a8, a9, a10⟩⟩
        · rw [upd_ne ntp.symm, upd_ne ntp.symm, upd_ne npl]
          exact a1
        · rw [upd_ne a10.symm, upd_ne a10.symm, upd_ne nul]
          exact a3
        · exact a4.mono (TupEx.trans (TupEx.new nl) (TupEx.trans (TupEx.lst b2) (TupEx.lst upd_same)))
        · refine Tups.lst (Tups.snoc ?_ (a5.mono (TupEx.trans (TupEx.new nl) (TupEx.trans (TupEx.lst b2) (TupEx.lst upd_same)))))
          rw [upd_ne ntl.symm, upd_ne ntl.symm, upd_same]
        · exact a6.mono (TupEx.trans (TupEx.new nl) (TupEx.trans (TupEx.lst b2) (TupEx.lst upd_same)))
        · rw [upd_ne a8, upd_ne a8, upd_ne nrl]
          exact a7
      generalize (upd (upd (upd H l (.tup [x, y, .str (sg c)])) t (.lst (ts ++ [.ref l]))) t (.lst ((ts ++ [V.ref l]).drop ((ts ++ [V.ref l]).length - 100)))) = H1 at R ⊢
      obtain ⟨dx1, r1, t1, u1, jv1, b1, j1⟩ := R.at
      refine ⟨_, rfl, rfl, _, rfl, ite2 (fun e1 => ?_) (fun e1 => ?_)⟩
      · refine ⟨_, rfl, p, dx1, _, rfl, b1, pf_no (by decide +kernel) (by decide +kernel) (by decide +kernel) (by decide +kernel) (by decide +kernel) (by decide +kernel), H0, p, _, rfl, R, O.rows, O.lasc, O.line, fun H2 R2 => q _ ?_⟩
        rw [show st.press x y c = Pn.doLine { st with typed := lst 100 (st.typed ++ [[x, y, .str (sg c)]]) } from if_pos (vstr.mp e1)]
        exact R2
      · have e1 : ¬ sg c = ";" := fun k => e1 (vstr.mpr k)
        refine ⟨_, rfl, rfl, _, rfl, ite2 (fun e2 => ?_) (fun e2 => ?_)⟩
        · refine ⟨_, rfl, p, dx1, _, rfl, b1, pf_no (by decide +kernel) (by decide +kernel) (by decide +kernel) (by decide +kernel) (by decide +kernel) (by decide +kernel), _, rfl, p, cP, dx1, _, _, rfl, b1, T.cl, T.nL, pf_line, _, rfl, _, rfl, st.line, rfl, Nat.le_trans O.line (by decide), H0, p, _, _, rfl, R, fun H2 R2 => q _ ?_⟩
          rw [show st.press x y c = Pn.setLine { st with typed := lst 100 (st.typed ++ [[x, y, .str (sg c)]]) } (cutS st.line none (some (-1))) from (if_neg e1).trans (if_pos (vstr.mp e2))]
          exact R2
        · have e2 : ¬ sg c = "<" := fun k => e2 (vstr.mpr k)
          refine ⟨_, rfl, p, cP, dx1, _, _, rfl, b1, T.cl, T.nL, pf_line, _, rfl, Nat.le_trans O.line (by decide), _, _, rfl, rfl, _, rfl, ite2 (fun e3 => ?_) (fun e3 => ?_)⟩
          · have e3 : st.line.length < 30 := Int.ofNat_lt.mp (of_decide_eq_true e3)
            refine ⟨_, rfl, p, dx1, _, rfl, b1, pf_no (by decide +kernel) (by decide +kernel) (by decide +kernel) (by decide +kernel) (by decide +kernel) (by decide +kernel), _, rfl, p, cP, dx1, _, _, rfl, b1, T.cl, T.nL, pf_line, _, rfl, _, _, rfl, rfl, Nat.le_trans (show _ ≤ 32 from by show st.line.length + 1 ≤ 32; omega) (by decide), H0, p, _, _, rfl, R, fun H2 R2 => q _ ?_⟩
            rw [show st.press x y c = Pn.setLine { st with typed := lst 100 (st.typed ++ [[x, y, .str (sg c)]]) } (st.line ++ sg c) from (if_neg e1).trans ((if_neg e2).trans (if_pos e3))]
            exact R2
          · refine q _ ?_
            rw [show st.press x y c = { st with typed := lst 100 (st.typed ++ [[x, y, .str (sg c)]]) } from (if_neg e1).trans ((if_neg e2).trans (if_neg fun k => e3 (decide_eq_true (Int.ofNat_lt.mpr k))))]
            exact R
/-! ### a beat -/
theorem nst_len {n : Int} (h0 : 0 ≤ n) (h1 : n ≤ 1000) : (Str.ofString (toString n)).length ≤ 7 := by
  obtain ⟨m, rfl⟩ := Int.eq_ofNat_of_zero_le h0
  rw [num_txt, txt_len]
  exact TL.numL_len (by decide) (show m < 10 ^ 7 by omega)
theorem nst_asc {n : Int} (h0 : 0 ≤ n) : Asc (Str.ofString (toString n)) := by
  obtain ⟨m, rfl⟩ := Int.eq_ofNat_of_zero_le h0
  intro c hc
  rw [num_txt, txt_cps] at hc
  have := TL.numL_digits m c hc
  omega
theorem log2s {n : Int} (h0 : 0 ≤ n) (h1 : n ≤ 1000) : n.natAbs.log2 < 1920 := by
  obtain ⟨m, rfl⟩ := Int.eq_ofNat_of_zero_le h0
  rw [Int.natAbs_natCast]
  by_cases h : m = 0
  · subst h
    decide
  · exact Nat.lt_of_lt_of_le ((Nat.log2_lt h).mpr (show m < 2 ^ 10 by omega)) (by decide)
def spBe (C : Addr) : Sp := fun vs H Q _ => ∃ (H0 : Hp) (p : Addr) (s : Pn), vs = [.ref p] ∧ Pan C H0 H p s ∧ POk s ∧ ∀ H', Pan C H0 H' p s.beat → Q .non H'
structure CBe (P : Program) (w : World) (K : PySem.W.Frag) (mg : Str → Option Value) (base : Heap) (cP : Addr) : Prop where
  add_row : MCal P w K mg base cP "_add_row" 2 ["self", "row"] (spAr cP)
end
end Vf
namespace Vf
open PySem PySem.Spec PyProof.Rows L2 Evl
/-! ### what every pane's state keeps -/
theorem asc_app {x y : Str} (h1 : Asc x) (h2 : Asc y) : Asc (x ++ y) := fun c hc => by
  have e : (x ++ y).cps.toList = x.cps.toList ++ y.cps.toList := by
    show (x.cps ++ y.cps).toList = _
    simp
  rw [e] at hc
  exact (List.mem_append.mp hc).elim (h1 c) (h2 c)
theorem asc_sg {c : Nat} (h : c < 128) : Asc (sg c) := fun d hd => by
  rw [show d = c from List.mem_singleton.mp hd]
  exact h
theorem asc_of {z : Str} (h : (z.cps.toList.all fun c => decide (c < 128)) = true) : Asc z := fun c hc => of_decide_eq_true (List.all_eq_true.mp h c hc)
theorem POk.new : POk Pn.new := ⟨Nat.zero_le _, (fun _ h => nomatch h), Nat.zero_le _, (fun _ h => nomatch h), (fun _ h => nomatch h), Nat.zero_le _, (fun _ _ h => nomatch h)⟩
theorem POk.log {s : Pn} {k x : Str} (O : POk s) (hk : Asc k) (hx : Asc x) : ∀ c ∈ s.log ++ [(k, x)], Asc c.1 ∧ Asc c.2 := fun c hc => by
  rcases List.mem_append.mp hc with hc | hc
  · exact O.gasc c hc
  · rw [List.mem_singleton.mp hc]
    exact ⟨hk, hx⟩
theorem POk.addRow {s : Pn} {x : Str} (O : POk s) (hx : Asc x) (hl : x.length ≤ 100) : POk (s.addRow x) :=
  ⟨O.line, O.lasc, lst_le, fun z hz => (List.mem_append.mp (lst_mem hz)).elim (O.rasc z) fun h => by rw [List.mem_singleton.mp h]; exact ⟨hx, hl⟩, O.log (asc_of (by decide +kernel)) hx, O.typed, O.job⟩
theorem POk.clr {s : Pn} (O : POk s) : POk s.clr :=
  ⟨O.line, O.lasc, Nat.zero_le _, (fun _ h => nomatch h), O.log (asc_of (by decide +kernel)) (asc_of (by decide +kernel)), O.typed, O.job⟩
theorem POk.setLine {s : Pn} {x : Str} (O : POk s) (hx : Asc x) (hl : x.length ≤ 30) : POk (s.setLine x) := by
  unfold Pn.setLine
  by_cases h : x = s.line
  · rw [if_pos h]
    exact O
  · rw [if_neg h]
    exact ⟨hl, hx, O.rows, O.rasc, O.log (asc_of (by decide +kernel)) hx, O.typed, O.job⟩
theorem POk.setJob {s : Pn} {j : Option (Int × Int)} (O : POk s) (h : ∀ b n, j = some (b, n) → 0 ≤ b ∧ b < n ∧ n ≤ 99) : POk { s with job := j } := ⟨O.line, O.lasc, O.rows, O.rasc, O.gasc, O.typed, h⟩
theorem POk.setTyped {s : Pn} {T : List (List V)} (O : POk s) (h : T.length ≤ 100) : POk { s with typed := T } := ⟨O.line, O.lasc, O.rows, O.rasc, O.gasc, h, O.job⟩
theorem POk.said {s : Pn} (O : POk s) : POk s.said := by
  refine (O.addRow (asc_app (asc_of (by decide +kernel)) O.lasc) ?_).setLine (fun _ h => nomatch h) (Nat.zero_le _)
  rw [Str.length_append]
  have := O.line
  have d : (Str.ofString "> ").length = 2 := rfl
  omega
theorem POk.doLine {s : Pn} (O : POk s) : POk s.doLine := by
  have hl := O.line
  unfold Pn.doLine
  by_cases h1 : Txt.startswith s.line "say " = true
  · rw [if_pos h1]
    exact O.said.addRow (rp_asc O.lasc) (Nat.le_trans rp_len (by omega))
  · rw [if_neg h1]
    by_cases h2 : s.line = "clear"
    · rw [if_pos h2]
      exact O.said.clr
    · rw [if_neg h2]
      by_cases h3 : s.line = "stop" ∧ s.said.job ≠ none
      · rw [if_pos h3]
        exact O.said.setJob (fun _ _ h => nomatch h)
      · rw [if_neg h3]
        by_cases h4 : 0 < jobSize s.line
        · rw [if_pos h4]
          refine O.said.setJob fun b n h => ?_
          cases h
          exact ⟨Int.le_refl _, h4, (job_range O.lasc).2⟩
        · rw [if_neg h4]
          by_cases h5 : ¬ s.line = ""
          · rw [if_pos h5]
            refine O.said.addRow (asc_app (asc_of (by decide +kernel)) O.lasc) ?_
            rw [Str.length_append]
            have d : (Str.ofString "? ").length = 2 := rfl
            omega
          · rw [if_neg h5]
            exact O.said
theorem key_low : (KEY.cps.toList.all fun c => decide (c < 128)) = true := by decide +kernel
theorem POk.press {s : Pn} {x y : V} {c : Nat} (O : POk s) (hc : c ∈ KEY.cps.toList) : POk (s.press x y c) := by
  have O1 : POk { s with typed := lst 100 (s.typed ++ [[x, y, .str (sg c)]]) } := O.setTyped lst_le
  unfold Pn.press
  by_cases h1 : sg c = ";"
  · exact (if_pos h1).symm ▸ O1.doLine
  · show POk (if sg c = ";" then _ else _)
    rw [if_neg h1]
    by_cases h2 : sg c = "<"
    · rw [if_pos h2]
      refine O1.setLine ?_ ?_
      · show Asc (cutS s.line none (some (-1)))
        rw [cutS_butlast]
        intro d hd
        rw [txt_cps] at hd
        exact O.lasc d (List.dropLast_subset _ hd)
      · show (cutS s.line none (some (-1))).length ≤ 30
        rw [cutS_butlast, txt_len, List.length_dropLast, str_len]
        have := O.line
        omega
    · rw [if_neg h2]
      by_cases h3 : s.line.length < 30
      · rw [show (if s.line.length < 30 then _ else _) = _ from if_pos h3]
        refine O1.setLine (asc_app O.lasc (asc_sg (of_decide_eq_true (List.all_eq_true.mp key_low c hc)))) ?_
        rw [Str.length_append]
        show s.line.length + 1 ≤ 30
        omega
      · rw [show (if s.line.length < 30 then _ else _) = _ from if_neg h3]
        exact O1
theorem POk.beat {s : Pn} (O : POk s) : POk s.beat := by
  unfold Pn.beat
  cases e : s.job with
  | none => exact O
  | some bn =>
    obtain ⟨b, n⟩ := bn
    obtain ⟨o1, o2, o3⟩ := O.job b n e
    have n1 := nst_len (n := b + 1) (by omega) (by omega)
    have n2 := nst_len (n := n) (by omega) (by omega)
    refine (O.addRow (asc_app (asc_app (asc_app (asc_of (by decide +kernel)) (nst_asc (by omega))) (asc_of (by decide +kernel))) (nst_asc (by omega))) ?_).setJob fun b' n' h => ?_
    · show (((Str.empty ++ Str.ofString (toString (b + 1))) ++ Str.ofString " of ") ++ Str.ofString (toString n)).length ≤ 100
      have d1 : (Str.ofString " of ").length = 4 := rfl
      have d0 : Str.empty.length = 0 := rfl
      simp only [Str.length_append]
      omega
    · by_cases h2 : b + 1 < n
      · rw [if_pos h2] at h
        cases h
        omega
      · rw [if_neg h2] at h
        cases h
/-! ### changes lead from one state to the next -/
def ledS (a : List Str × Str) (c : Str × Str) : List Str × Str :=
  if c.1 = "line" then (a.1, c.2) else if c.1 = "clear" then ([], a.2) else (lst 40 (a.1 ++ [c.2]), a.2)
def Leads (s t : Pn) : Prop := ∃ d : List (Str × Str), t.log = s.log ++ d ∧ d.foldl ledS (s.rows, s.line) = (t.rows, t.line)
theorem Leads.refl {s : Pn} : Leads s s := ⟨[], by simp, rfl⟩
theorem Leads.trans {s t u : Pn} (h : Leads s t) (k : Leads t u) : Leads s u := by
  obtain ⟨d, h1, h2⟩ := h
  obtain ⟨e, k1, k2⟩ := k
  exact ⟨d ++ e, by rw [k1, h1, List.append_assoc], by rw [List.foldl_append, h2, k2]⟩
theorem kinds : ¬ (("row" : Str) = "line") ∧ ¬ (("row" : Str) = "clear") ∧ ¬ (("clear" : Str) = "line") := by decide +kernel
theorem Leads.addRow {s : Pn} {x : Str} : Leads s (s.addRow x) := ⟨[("row", x)], rfl, by
  show ledS (s.rows, s.line) ("row", x) = _
  unfold ledS
  rw [if_neg kinds.1, if_neg kinds.2.1]
  rfl⟩
theorem Leads.clr {s : Pn} : Leads s s.clr := ⟨[("clear", ⟨#[]⟩)], rfl, by
  show ledS (s.rows, s.line) ("clear", ⟨#[]⟩) = _
  unfold ledS
  rw [if_neg kinds.2.2, if_pos rfl]
  rfl⟩
theorem Leads.setLine {s : Pn} {x : Str} : Leads s (s.setLine x) := by
  unfold Pn.setLine
  by_cases h : x = s.line
  · rw [if_pos h]
    exact .refl
  · rw [if_neg h]
    exact ⟨[("line", x)], rfl, by
      show ledS (s.rows, s.line) ("line", x) = _
      unfold ledS
      rw [if_pos rfl]
      rfl⟩
theorem Leads.setJob {s t : Pn} {j : Option (Int × Int)} (h : Leads s t) : Leads s { t with job := j } := h
theorem Leads.said {s : Pn} : Leads s s.said := Leads.trans Leads.addRow Leads.setLine
theorem Leads.doLine {s : Pn} : Leads s s.doLine := by
  unfold Pn.doLine
  split
  · exact Leads.said.trans Leads.addRow
  · split
    · exact Leads.said.trans Leads.clr
    · split
      · exact Leads.said.setJob
      · split
        · exact Leads.said.setJob
        · split
          · exact Leads.said.trans Leads.addRow
          · exact Leads.said
theorem Leads.press {s : Pn} {x y : V} {c : Nat} : Leads s (s.press x y c) := by
  have h0 : ∀ {t : Pn}, Leads { s with typed := lst 100 (s.typed ++ [[x, y, .str (sg c)]]) } t → Leads s t := fun h => h
  unfold Pn.press
  dsimp only
  split
  · exact h0 Leads.doLine
  · split
    · exact h0 Leads.setLine
    · split
      · exact h0 Leads.setLine
      · exact h0 Leads.refl
theorem Leads.beat {s : Pn} : Leads s s.beat := by
  unfold Pn.beat
  split
  · exact .refl
  · exact Leads.setJob Leads.addRow
/-! ### who types changes nothing else -/
def typ (s : Pn) (T : List (List V)) : Pn := { s with typed := T }
theorem setLine_typ {s : Pn} {T : List (List V)} {x : Str} : (typ s T).setLine x = typ (s.setLine x) T := by
  unfold Pn.setLine
  show (if x = s.line then _ else _) = _
  split <;> rfl
theorem said_typ {s : Pn} {T : List (List V)} : (typ s T).said = typ s.said T := by
  unfold Pn.said
  exact setLine_typ (s := s.addRow ("> " ++ s.line))
theorem doLine_typ {s : Pn} {T : List (List V)} : (typ s T).doLine = typ s.doLine T := by
  unfold Pn.doLine
  rw [said_typ]
  show (if Txt.startswith s.line "say " = true then _ else if s.line = "clear" then _ else if s.line = "stop" ∧ s.said.job ≠ none then _ else if 0 < jobSize s.line then _ else if ¬ s.line = "" then _ else _) = _
  repeat' split
  all_goals first | rfl | (exfalso; simp_all)
theorem press_typ {s : Pn} {T : List (List V)} {x y x' y' : V} {c : Nat} : ∃ T', (typ s T).press x y c = typ (s.press x' y' c) T' := by
  refine ⟨lst 100 (T ++ [[x, y, .str (sg c)]]), ?_⟩
  unfold Pn.press
  show (if sg c = ";" then (typ s _).doLine else if sg c = "<" then (typ s _).setLine (cutS s.line none (some (-1))) else if s.line.length < 30 then (typ s _).setLine (s.line ++ sg c) else typ s _) = typ (if sg c = ";" then (typ s _).doLine else if sg c = "<" then (typ s _).setLine (cutS s.line none (some (-1))) else if s.line.length < 30 then (typ s _).setLine (s.line ++ sg c) else typ s _) _
  rw [doLine_typ, doLine_typ, setLine_typ, setLine_typ, setLine_typ, setLine_typ]
  repeat' split
  all_goals rfl
theorem beat_typ {s : Pn} {T : List (List V)} : (typ s T).beat = typ s.beat T := by
  unfold Pn.beat
  show (match s.job with | none => _ | some (b, n) => _) = _
  cases s.job <;> rfl
end Vf
namespace Vf
open PySem PySem.Spec PyProof.Rows L2 Evl
/-! ### panes side by side -/
theorem PanAt.mono {C p dx r t u : Addr} {H H' : Hp} {s : Pn} (h : PanAt C H p dx r t u s) (e : TupEx H H') (hp : H' p = H p) (hr : H' r = H r) (ht : H' t = H t) (hu : H' u = H u) : PanAt C H' p dx r t u s := by
  obtain ⟨⟨jv, ts, us, a1, a2, a3, a4, a5, a6⟩, a7, a8, a9, a10⟩ := h
  exact ⟨⟨jv, ts, us, by rw [hp]; exact a1, by rw [ht]; exact a2, by rw [hu]; exact a3, a4.mono e, a5.mono e, a6.mono e⟩, by rw [hr]; exact a7, a8, a9, a10⟩
/-- the places of a pane, taken out of the heap -/
def without (H : Hp) (p r t u : Addr) : Hp := fun a => if a = p ∨ a = r ∨ a = t ∨ a = u then none else H a
theorem without_in {H : Hp} {p r t u a : Addr} (h : a = p ∨ a = r ∨ a = t ∨ a = u) : without H p r t u a = none := if_pos h
theorem without_out {H : Hp} {p r t u a : Addr} (h1 : a ≠ p) (h2 : a ≠ r) (h3 : a ≠ t) (h4 : a ≠ u) : without H p r t u a = H a := if_neg fun h => h.elim h1 fun h => h.elim h2 fun h => h.elim h3 h4
theorem without_ex {H : Hp} {p r t u : Addr} : Ex (without H p r t u) H := fun a o h => by
  unfold without at h
  by_cases e : a = p ∨ a = r ∨ a = t ∨ a = u
  · rw [if_pos e] at h
    cases h
  · rw [if_neg e] at h
    exact h
theorem ex_without {H0 H : Hp} {p r t u : Addr} (e : Ex H0 H) (h1 : H0 p = none) (h2 : H0 r = none) (h3 : H0 t = none) (h4 : H0 u = none) : Ex H0 (without H p r t u) := fun a o h => by
  rw [without_out (ne_of_none h h1) (ne_of_none h h2) (ne_of_none h h3) (ne_of_none h h4)]
  exact e a o h
theorem Pan.swap {C : Addr} {Hb H1 H : Hp} {p q : Addr} {s t : Pn} (h1 : Pan C Hb H1 q t) (h2 : Pan C H1 H p s) : ∃ H1', Pan C Hb H1' p s ∧ Pan C H1' H q t := by
  obtain ⟨b1, b2, dx', r', t', u', b3, b4, b5, B⟩ := h1
  obtain ⟨c1, c2, dx, r, tt, u, c3, c4, c5, D⟩ := h2
  obtain ⟨⟨jv', ts', us', a1, a2, a3, a4, a5, a6⟩, a7, a8, a9, a10⟩ := id B
  obtain ⟨⟨jv, ts, us, d1, d2, d3, d4, d5, d6⟩, d7, d8, d9, d10⟩ := id D
  have apart : ∀ x, H1 x = none → without H q r' t' u' x = H x := fun x hx => without_out (ne_of_none a1 hx).symm (ne_of_none a7 hx).symm (ne_of_none a2 hx).symm (ne_of_none a3 hx).symm
  have tup : TupEx H (without H q r' t' u') := fun x xs hx => by
    rw [without_out]
    · exact hx
    · rintro rfl
      rw [c1 _ _ a1] at hx
      cases hx
    · rintro rfl
      rw [c1 _ _ a7] at hx
      cases hx
    · rintro rfl
      rw [c1 _ _ a2] at hx
      cases hx
    · rintro rfl
      rw [c1 _ _ a3] at hx
      cases hx
  refine ⟨without H q r' t' u', ⟨ex_without (b1.trans c1) b2 b3 b4 b5, ex_free b1 c2, dx, r, tt, u, ex_free b1 c3, ex_free b1 c4, ex_free b1 c5, D.mono tup (apart _ c2) (apart _ c3) (apart _ c4) (apart _ c5)⟩, without_ex, without_in (.inl rfl), dx', r', t', u', without_in (.inr (.inl rfl)), without_in (.inr (.inr (.inl rfl))), without_in (.inr (.inr (.inr rfl))), ?_⟩
  exact ⟨⟨jv', ts', us', c1 _ _ a1, c1 _ _ a2, c1 _ _ a3, a4.mono (TupEx.ex c1), a5.mono (TupEx.ex c1), a6.mono (TupEx.ex c1)⟩, c1 _ _ a7, a8, a9, a10⟩
theorem Pan.grow {C : Addr} {H0 H : Hp} {p R : Addr} {s : Pn} {o : HO} (h : Pan C H0 H p s) (n : H R = none) : Pan C (upd H0 R o) (upd H R o) p s := by
  obtain ⟨b1, b2, dx, r, t, u, b3, b4, b5, B⟩ := h
  obtain ⟨⟨jv, ts, us, a1, a2, a3, a4, a5, a6⟩, a7, a8, a9, a10⟩ := id B
  have k1 := ne_of_none a1 n
  have k2 := ne_of_none a7 n
  have k3 := ne_of_none a2 n
  have k4 := ne_of_none a3 n
  refine ⟨fun a o' e => ?_, by rw [upd_ne k1]; exact b2, dx, r, t, u, by rw [upd_ne k2]; exact b3, by rw [upd_ne k3]; exact b4, by rw [upd_ne k4]; exact b5, B.mono (TupEx.new n) (upd_ne k1) (upd_ne k2) (upd_ne k3) (upd_ne k4)⟩
  by_cases ea : a = R
  · subst ea
    rw [upd_same] at e ⊢
    exact e
  · rw [upd_ne ea] at e ⊢
    exact b1 a o' e
theorem Pan.shrink {C : Addr} {H0 H1 H : Hp} {p : Addr} {s : Pn} (h : Pan C H1 H p s) (e : Ex H0 H1) : Pan C H0 H p s := by
  obtain ⟨b1, b2, dx, r, t, u, b3, b4, b5, B⟩ := h
  exact ⟨e.trans b1, ex_free e b2, dx, r, t, u, ex_free e b3, ex_free e b4, ex_free e b5, B⟩
/-- two panes behind one heap -/
def Two (C : Addr) (Hb H : Hp) (p q : Addr) (s t : Pn) : Prop := ∃ H1, Pan C Hb H1 q t ∧ Pan C H1 H p s
section
variable {C : Addr} {Hb H H' : Hp} {p q R : Addr} {s t s' t' : Pn}
theorem Two.ex (h : Two C Hb H p q s t) (e : Ex H H') : Two C Hb H' p q s t := by
  obtain ⟨H1, h1, h2⟩ := h
  exact ⟨H1, h1, h2.ex e⟩
theorem Two.base (h : Two C Hb H p q s t) : Ex Hb H := by
  obtain ⟨H1, h1, h2⟩ := h
  exact h1.1.trans h2.1
theorem Two.flip (h : Two C Hb H p q s t) : Two C Hb H q p t s := by
  obtain ⟨H1, h1, h2⟩ := h
  obtain ⟨H2, h3, h4⟩ := Pan.swap h1 h2
  exact ⟨H2, h3, h4⟩
theorem Two.left (h : Two C Hb H p q s t) : ∃ H1, Pan C H1 H p s ∧ ∀ H' s', Pan C H1 H' p s' → Two C Hb H' p q s' t := by
  obtain ⟨H1, h1, h2⟩ := h
  exact ⟨H1, h2, fun H' s' h => ⟨H1, h1, h⟩⟩
theorem Two.right (h : Two C Hb H p q s t) : ∃ H1, Pan C H1 H q t ∧ ∀ H' t', Pan C H1 H' q t' → Two C Hb H' p q s t' := by
  obtain ⟨H1, h1, h2⟩ := h.flip.left
  exact ⟨H1, h1, fun H' t' h => (h2 H' t' h).flip⟩
theorem Two.atL (h : Two C Hb H p q s t) : ∃ G dx r tt u jv, Pan C G H p s ∧ H p = some (.ins C dx (pf r s.line jv tt s.log.length u)) := by
  obtain ⟨G, R, _⟩ := h.left
  obtain ⟨dx, r, tt, u, jv, b, _⟩ := R.at
  exact ⟨G, dx, r, tt, u, jv, R, b⟩
theorem Two.atR (h : Two C Hb H p q s t) : ∃ G dx r tt u jv, Pan C G H q t ∧ H q = some (.ins C dx (pf r t.line jv tt t.log.length u)) := h.flip.atL
theorem Two.grow {o : HO} (h : Two C Hb H p q s t) (n : H R = none) : Two C (upd Hb R o) (upd H R o) p q s t := by
  obtain ⟨H1, h1, h2⟩ := h
  exact ⟨upd H1 R o, h1.grow (ex_free h2.1 n), h2.grow n⟩
theorem Two.shrink {H0 : Hp} (h : Two C Hb H p q s t) (e : Ex H0 Hb) : Two C H0 H p q s t := by
  obtain ⟨H1, h1, h2⟩ := h
  exact ⟨H1, h1.shrink e, h2⟩
end
/-! ### what since tells, in one -/
def Told (H : Hp) (v : V) (s : Pn) (m : Nat) : Prop := (s.log.length ≤ m + 30 ∧ ∃ l us, v = .ref l ∧ H l = some (.lst us) ∧ Tups H us ((s.log.drop m).map chV)) ∨ (m + 30 < s.log.length ∧ v = .non)
def spSi2 (C : Addr) : Sp := fun vs H Q _ => ∃ (H0 : Hp) (p : Addr) (s : Pn) (m : Nat), vs = [.ref p, .int m] ∧ Pan C H0 H p s ∧ m ≤ s.log.length ∧ ∀ v H', Ex H H' → Told H' v s m → Q v H'
theorem si2_si {C : Addr} (vs : List V) (H : Hp) (Q : VK) (E : XK) (h : spSi2 C vs H Q E) : spSi C vs H Q E := by
  obtain ⟨H0, p, s, m, rfl, R, hm, q⟩ := h
  refine ⟨H0, p, s, m, rfl, R, fun k => ?_, fun m' l us em h1 h2 hl hT => ?_⟩
  · exact q _ H (Ex.refl H) (.inr ⟨by rcases k with k | k <;> omega, rfl⟩)
  · obtain rfl : m' = m := by omega
    exact q _ _ (Ex.new hl) (.inl ⟨h1, l, us, rfl, upd_same, hT.mono (TupEx.new hl)⟩)
end Vf
namespace Vf
open PySem PySem.Spec PyProof.Rows L2 Evl
/-! ### a pane as a thing -/
def panA (C p : Addr) (s : Pn) : List Addr → Hp → Prop := fun fp H => ∃ dx r t u, fp = [p, r, t, u] ∧ PanAt C H p dx r t u s
theorem panT (C p : Addr) (s : Pn) : Thing (panA C p s) := by
  refine ⟨fun fp H H' ⟨dx, r, t, u, e, h⟩ te k => ?_, fun fp H ⟨dx, r, t, u, e, h⟩ a ha => ?_⟩
  · subst e
    exact ⟨dx, r, t, u, rfl, h.mono te (k _ (by simp)) (k _ (by simp)) (k _ (by simp)) (k _ (by simp))⟩
  · subst e
    obtain ⟨⟨jv, ts, us, a1, a2, a3, _⟩, a7, _⟩ := h
    rcases List.mem_cons.mp ha with rfl | ha
    · exact ⟨_, a1, fun _ z => by cases z⟩
    · rcases List.mem_cons.mp ha with rfl | ha
      · exact ⟨_, a7, fun _ z => by cases z⟩
      · rcases List.mem_cons.mp ha with rfl | ha
        · exact ⟨_, a2, fun _ z => by cases z⟩
        · rw [List.mem_singleton.mp ha]
          exact ⟨_, a3, fun _ z => by cases z⟩
theorem pan_beh {C p : Addr} {H0 H : Hp} {s : Pn} : Pan C H0 H p s ↔ Beh (panA C p s) H0 H := by
  constructor
  · rintro ⟨x, n, dx, r, t, u, n1, n2, n3, h⟩
    refine ⟨x, [p, r, t, u], fun a ha => ?_, dx, r, t, u, rfl, h⟩
    rcases List.mem_cons.mp ha with rfl | ha
    · exact n
    · rcases List.mem_cons.mp ha with rfl | ha
      · exact n1
      · rcases List.mem_cons.mp ha with rfl | ha
        · exact n2
        · rw [List.mem_singleton.mp ha]
          exact n3
  · rintro ⟨x, fp, n, dx, r, t, u, rfl, h⟩
    exact ⟨x, n _ (by simp), dx, r, t, u, n _ (by simp), n _ (by simp), n _ (by simp), h⟩
end Vf
namespace Vf
open PySem PySem.Spec PyProof.Rows L2 Evl
/-! ### rows and lines may stand in letters -/
def Cl (z : Str) : Prop := ∀ c ∈ z.cps.toList, isS c = true ∧ c ≠ 124
theorem keyS : (KEY.cps.toList.all fun c => isS c && !decide (c = 124)) = true := by decide +kernel
theorem isK_S {c : Nat} (h : isK c = true) : isS c = true ∧ c ≠ 124 := by
  have q := List.all_eq_true.mp keyS c (of_decide_eq_true h)
  rw [Bool.and_eq_true] at q
  refine ⟨q.1, fun e => ?_⟩
  have q2 := q.2
  rw [decide_eq_true e] at q2
  cases q2
theorem cl_of {z : Str} (h : (z.cps.toList.all fun c => isS c && !decide (c = 124)) = true) : Cl z := fun c hc => by
  have q := List.all_eq_true.mp h c hc
  rw [Bool.and_eq_true] at q
  refine ⟨q.1, fun e => ?_⟩
  have q2 := q.2
  rw [decide_eq_true e] at q2
  cases q2
theorem cl_app {x y : Str} (h1 : Cl x) (h2 : Cl y) : Cl (x ++ y) := fun c hc => by
  have e : (x ++ y).cps.toList = x.cps.toList ++ y.cps.toList := by
    show (x.cps ++ y.cps).toList = _
    simp
  rw [e] at hc
  exact (List.mem_append.mp hc).elim (h1 c) (h2 c)
theorem cl_rp {x y : Str} (h : Cl x) : Cl (rp x y) := by
  obtain ⟨k, e⟩ := rp_drop x y
  intro c hc
  rw [e] at hc
  exact h c (List.mem_of_mem_drop hc)
theorem dig_cl : ((List.range 10).all fun i => isS (48 + i) && !decide (48 + i = 124)) = true := by decide +kernel
theorem cl_num {n : Int} (h0 : 0 ≤ n) : Cl (Str.ofString (toString n)) := by
  obtain ⟨m, rfl⟩ := Int.eq_ofNat_of_zero_le h0
  intro c hc
  rw [num_txt, txt_cps] at hc
  have h := TL.numL_digits m c hc
  have q := List.all_eq_true.mp dig_cl (c - 48) (List.mem_range.mpr (by omega))
  rw [show 48 + (c - 48) = c by omega, Bool.and_eq_true] at q
  exact ⟨q.1, by omega⟩
theorem cl_fld {z : Str} (h : Cl z) (hl : z.length ≤ 1000) : z.length ≤ 1000 ∧ 124 ∉ z.cps.toList ∧ ∀ c ∈ z.cps.toList, isS c = true := ⟨hl, fun k => (h _ k).2 rfl, fun c hc => (h c hc).1⟩
structure PFl (s : Pn) : Prop where
  line : Cl s.line
  rows : ∀ z ∈ s.rows, Cl z
theorem PFl.new : PFl Pn.new := ⟨(fun _ h => nomatch h), fun _ h => nomatch h⟩
theorem PFl.addRow {s : Pn} {x : Str} (O : PFl s) (hx : Cl x) : PFl (s.addRow x) := ⟨O.line, fun z hz => (List.mem_append.mp (lst_mem hz)).elim (O.rows z) fun h => by rw [List.mem_singleton.mp h]; exact hx⟩
theorem PFl.clr {s : Pn} (O : PFl s) : PFl s.clr := ⟨O.line, fun _ h => nomatch h⟩
theorem PFl.setLine {s : Pn} {x : Str} (O : PFl s) (hx : Cl x) : PFl (s.setLine x) := by
  unfold Pn.setLine
  by_cases h : x = s.line
  · rw [if_pos h]; exact O
  · rw [if_neg h]; exact ⟨hx, O.rows⟩
theorem PFl.said {s : Pn} (O : PFl s) : PFl s.said := (O.addRow (cl_app (cl_of (by decide +kernel)) O.line)).setLine fun _ h => nomatch h
theorem PFl.doLine {s : Pn} (O : PFl s) : PFl s.doLine := by
  unfold Pn.doLine
  by_cases h1 : Txt.startswith s.line "say " = true
  · rw [if_pos h1]; exact O.said.addRow (cl_rp O.line)
  · rw [if_neg h1]
    by_cases h2 : s.line = "clear"
    · rw [if_pos h2]; exact O.said.clr
    · rw [if_neg h2]
      by_cases h3 : s.line = "stop" ∧ s.said.job ≠ none
      · rw [if_pos h3]; exact ⟨O.said.line, O.said.rows⟩
      · rw [if_neg h3]
        by_cases h4 : 0 < jobSize s.line
        · rw [if_pos h4]; exact ⟨O.said.line, O.said.rows⟩
        · rw [if_neg h4]
          by_cases h5 : ¬ s.line = ""
          · rw [if_pos h5]; exact O.said.addRow (cl_app (cl_of (by decide +kernel)) O.line)
          · rw [if_neg h5]; exact O.said
theorem PFl.press {s : Pn} {x y : V} {c : Nat} (O : PFl s) (hc : c ∈ KEY.cps.toList) : PFl (s.press x y c) := by
  have O1 : PFl { s with typed := lst 100 (s.typed ++ [[x, y, .str (sg c)]]) } := ⟨O.line, O.rows⟩
  unfold Pn.press
  by_cases h1 : sg c = ";"
  · exact (if_pos h1).symm ▸ O1.doLine
  · show PFl (if sg c = ";" then _ else _)
    rw [if_neg h1]
    by_cases h2 : sg c = "<"
    · rw [if_pos h2]
      refine O1.setLine ?_
      show Cl (cutS s.line none (some (-1)))
      rw [cutS_butlast]
      intro d hd
      rw [txt_cps] at hd
      exact O.line d (List.dropLast_subset _ hd)
    · rw [if_neg h2]
      by_cases h3 : s.line.length < 30
      · rw [show (if s.line.length < 30 then _ else _) = _ from if_pos h3]
        refine O1.setLine (cl_app O.line fun d hd => ?_)
        rw [List.mem_singleton.mp hd]
        exact isK_S (decide_eq_true hc)
      · rw [show (if s.line.length < 30 then _ else _) = _ from if_neg h3]
        exact O1
theorem PFl.beat {s : Pn} (O : PFl s) (O' : POk s) : PFl s.beat := by
  unfold Pn.beat
  cases e : s.job with
  | none => exact O
  | some bn =>
    obtain ⟨b, n⟩ := bn
    obtain ⟨o1, o2, o3⟩ := O'.job b n e
    have O1 := O.addRow (x := ofRow (b + 1) n) (cl_app (cl_app (cl_app (cl_of (by decide +kernel)) (cl_num (by omega))) (cl_of (by decide +kernel))) (cl_num (by omega)))
    exact ⟨O1.line, O1.rows⟩
end Vf
namespace Vf
open PySem PySem.Spec PyProof.Rows L2 Evl GxR
/-! ### looks -/
abbrev sClk : Stmt := topS 59
theorem scClk : FnScope ["name", "session", "pane"] ["name", "session", "pane"] (defScope sClk) := ⟨rfl, rfl, rfl, by decide +kernel, rfl, by decide +kernel, by decide +kernel⟩
abbrev sKIn : Stmt := inClass (topS 60) 0
theorem scKIn : FnScope ["self", "name", "session", "pane", "wide", "high"] ["self", "name", "session", "pane", "wide", "high"] (defScope sKIn) := ⟨rfl, rfl, rfl, by decide +kernel, rfl, by decide +kernel, by decide +kernel⟩
def LKK : List Str := ["name", "session", "pane", "_wide", "_high", "_done", "_signs", "_known", "_rows", "_line", "_left", "_over"]
structure Lk where
  name : Nat
  session : Nat
  pane : Nat
  wide : Nat
  high : Nat
  done : Nat
  signs : Str
  known : Option Nat
  rows : List Str
  line : Str
  left : Bool
  over : Bool
def Lk.new (a b c wd hg : Nat) : Lk := ⟨a, b, c, wd, hg, 0, Str.ofString "", none, [], Str.ofString "", false, false⟩
def Lk.vals (s : Lk) (r : Addr) : List V := [.int s.name, .int s.session, .int s.pane, .int s.wide, .int s.high, .int s.done, .str s.signs, numV s.known, .ref r, .str s.line, .bl s.left, .bl s.over]
def lookB (C p : Addr) (s : Lk) (d : Addr × Addr) : List Prd := [cellA p (.ins C d.1 (zf LKK (s.vals d.2))), cellA d.2 (.lst (s.rows.map V.str))]
def lookA (C p : Addr) (s : Lk) : Prd := exA fun d => packA (lookB C p s d)
theorem lookBT (C p : Addr) (s : Lk) (d : Addr × Addr) : Things (lookB C p s d) := Things.cons (cellT _ _) (Things.cons (cellT _ _) Things.nil)
theorem lookT (C p : Addr) (s : Lk) : Thing (lookA C p s) := exT fun d => packT (lookBT C p s d)
structure LookAt (C : Addr) (H0 H : Hp) (p dx r : Addr) (s : Lk) : Prop where
  x : Ex H0 H
  at_ : H p = some (.ins C dx (zf LKK (s.vals r)))
  rows : H r = some (.lst (s.rows.map V.str))
  np : H0 p = none
  nr : H0 r = none
  pr : p ≠ r
theorem look_at {C p : Addr} {H0 H : Hp} {s : Lk} (h : Beh (lookA C p s) H0 H) : ∃ dx r, LookAt C H0 H p dx r s := by
  obtain ⟨⟨dx, r⟩, h⟩ := ex_beh.mp h
  have h := sep_beh.mpr h
  have h1 := h.cell (i := 0) rfl
  have h2 := h.cell (i := 1) rfl
  exact ⟨dx, r, h.base, h1, h2, h.cell0 (i := 0) rfl, h.cell0 (i := 1) rfl, ne_of h1 h2 (by intro z; cases z)⟩
theorem look_mk {C p dx r : Addr} {H0 H : Hp} {s : Lk} (h : LookAt C H0 H p dx r s) : Beh (lookA C p s) H0 H := by
  refine ex_beh.mpr ⟨(dx, r), sep_beh.mp ⟨h.x, [[p], [r]], ⟨⟨rfl, h.at_, fun _ z => by cases z⟩, fun g hg a ha => ?_, ⟨rfl, h.rows, fun _ z => by cases z⟩, (fun g hg => nomatch hg), trivial⟩, fun f hf a ha => ?_⟩⟩
  · rw [List.mem_singleton.mp hg, List.mem_singleton.mp ha]
    exact fun k => h.pr (List.mem_singleton.mp k)
  · rcases List.mem_cons.mp hf with rfl | hf
    · rw [List.mem_singleton.mp ha]; exact h.np
    · rw [List.mem_singleton.mp hf] at ha
      rw [List.mem_singleton.mp ha]; exact h.nr
structure TLok (mg : Str → Option Value) : Prop where
  mg_NAMES : ∃ t, mg "NAMES" = some (.int 4 t)
  mg_SESSIONS : ∃ t, mg "SESSIONS" = some (.int 100000 t)
  mg_MOST_PANES : ∃ t, mg "MOST_PANES" = some (.int 3 t)
def LookOk (a b c : Nat) : Prop := a < 4 ∧ 1 ≤ b ∧ b ≤ 100000 ∧ c < 3
def SizeOk (wd hg : Nat) : Prop := 2 ≤ wd ∧ wd ≤ 40 ∧ 1 ≤ hg ∧ hg ≤ 20
def spClk : Sp := fun vs H Q _ => ∃ a b c : Nat, vs = [.int a, .int b, .int c] ∧ LookOk a b c ∧ Q .non H
def spKIn (C : Addr) : Sp := fun vs H Q _ => ∃ (H0 : Hp) (p dx : Addr) (a b c wd hg : Nat), vs = [.ref p, .int a, .int b, .int c, .int wd, .int hg] ∧ Ex H0 H ∧ H0 p = none ∧ H p = some (.ins C dx []) ∧ LookOk a b c ∧ SizeOk wd hg ∧
  ∀ H', Beh (lookA C p (Lk.new a b c wd hg)) H0 H' → Q .non H'
section
variable {P : Program} {w : World} {K : PySem.W.Frag} {mg : Str → Option Value} {base : Heap}
theorem ok_clk {f : Addr} {fd : FuncData} (F : Fun K "check_look" "check_look" sClk f fd) (T : TLok mg) (C : CBnd P w K mg base) : FnOk P w K mg base CX0 3 f fd ["name", "session", "pane"] spClk := by
  refine F.ok scClk (fun vs H Q E h => ?_) (fun cdv A outer s H vs Q E hr h => ?_)
  · obtain ⟨a, b, c, rfl, _⟩ := h
    rfl
  · obtain ⟨a, b, c, rfl, ⟨h1, h2, h3, h4⟩, q⟩ := h
    refine ⟨_, (pss_cons (ps_if (pt_not (pt_val (pcall C.is_within (hr.mono (by first | decide | omega)) (pa_cons (pv 0) (pa_cons pe_int (pa_cons (pe_op op_sub (pgI T.mg_NAMES) pe_int) pa_nil)))))) pss_never pss_nil)
      (pss_cons (ps_if (pt_not (pt_val (pcall C.is_within (hr.mono (by first | decide | omega)) (pa_cons (pv 1) (pa_cons pe_int (pa_cons (pgI T.mg_SESSIONS) pa_nil)))))) pss_never pss_nil)
      (pss_one (ps_if (pt_not (pt_val (pcall C.is_within (hr.mono (by first | decide | omega)) (pa_cons (pv 2) (pa_cons pe_int (pa_cons (pe_op op_sub (pgI T.mg_MOST_PANES) pe_int) pa_nil)))))) pss_never pss_nil)))), ?_⟩
    refine ⟨_, rfl, _, _, rfl, rfl, _, _, _, rfl, .inl ⟨_, rfl, _, rfl, ite2 (fun e => absurd e (wit_no (by omega))) fun _ => ?_⟩⟩
    refine ⟨_, rfl, _, _, _, rfl, .inl ⟨_, rfl, _, rfl, ite2 (fun e => absurd e (wit_no (by omega))) fun _ => ?_⟩⟩
    refine ⟨_, rfl, _, _, rfl, rfl, _, _, _, rfl, .inl ⟨_, rfl, _, rfl, ite2 (fun e => absurd e (wit_no (by omega))) fun _ => ?_⟩⟩
    exact q
structure CLok (P : Program) (w : World) (K : PySem.W.Frag) (mg : Str → Option Value) (base : Heap) : Prop where
  check_look : Cal P w K mg base "check_look" 3 ["name", "session", "pane"] spClk
  check_size : Cal P w K mg base "check_size" 3 ["wide", "high"] spChk
theorem ok_kin {f cL : Addr} {fd : FuncData} (F : Fun K "__init__" "Look.__init__" sKIn f fd) (T : ClsN K cL LKK) (C : CLok P w K mg base) : FnOk P w K mg base CX0 4 f fd ["self", "name", "session", "pane", "wide", "high"] (spKIn cL) := by
  refine F.ok scKIn (fun vs H Q E h => ?_) (fun cdv A outer s H vs Q E hr h => ?_)
  · obtain ⟨H0, p, dx, a, b, c, wd, hg, rfl, _⟩ := h
    rfl
  · obtain ⟨H0, p, dx, a, b, c, wd, hg, rfl, xG, np, hG0, hL, hS, q⟩ := h
    refine ⟨_, (pss_cons (ps_expr (pcall C.check_look (hr.mono (by first | decide | omega)) (pa_cons (pv 1) (pa_cons (pv 2) (pa_cons (pv 3) pa_nil)))))
      (pss_cons (ps_expr (pcall C.check_size (hr.mono (by first | decide | omega)) (pa_cons (pv 4) (pa_cons (pv 5) pa_nil))))
      (pss_cons (ps_fld (pv 0) (pv 1) rfl)
      (pss_cons (ps_fld (pv 0) (pv 2) rfl)
      (pss_cons (ps_fld (pv 0) (pv 3) rfl)
      (pss_cons (ps_fld (pv 0) (pv 4) rfl)
      (pss_cons (ps_fld (pv 0) (pv 5) rfl)
      (pss_cons (ps_fld (pv 0) pe_int rfl)
      (pss_cons (ps_fld (pv 0) pe_str rfl)
      (pss_cons (ps_fld (pv 0) pe_non rfl)
      (pss_cons (ps_fld (pv 0) (pe_lst pa_nil) rfl)
      (pss_cons (ps_fld (pv 0) pe_str rfl)
      (pss_cons (ps_fld (pv 0) pe_bl rfl)
      (pss_one (ps_fld (pv 0) pe_bl rfl))))))))))))))), ?_⟩
    obtain ⟨s1, s2, s3, s4⟩ := id hS
    refine ⟨_, rfl, _, rfl, _, rfl, a, b, c, rfl, hL, ?_⟩
    refine ⟨_, rfl, _, rfl, wd, hg, rfl, s1, s2, s3, s4, ?_⟩
    have hG : H p = some (.ins cL dx (zf [] [])) := hG0
    clear hG0
    generalize H = G at xG hG ⊢
    refine ⟨_, rfl, _, rfl, p, cL, dx, _, rfl, hG, T.cl, T.no.get (k := "name") (i := 0) (by decide +kernel), zf_short (by decide), ?_⟩
    rw [zf_add (k := "name") (keys := []) (vals := []) (by decide +kernel) rfl]
    replace xG := ex_set (o := .ins cL dx (zf (([] : List Str) ++ [Str.ofString "name"]) (([] : List V) ++ [.int (a : Nat)]))) xG np
    have hG : upd G p (.ins cL dx (zf (([] : List Str) ++ [Str.ofString "name"]) (([] : List V) ++ [.int (a : Nat)]))) p = some (.ins cL dx (zf ["name"] [.int (a : Nat)])) := upd_same
    generalize upd G p (.ins cL dx (zf (([] : List Str) ++ [Str.ofString "name"]) (([] : List V) ++ [.int (a : Nat)]))) = G at hG xG ⊢
    refine ⟨_, rfl, _, rfl, p, cL, dx, _, rfl, hG, T.cl, T.no.get (k := "session") (i := 1) (by decide +kernel), zf_short (by decide), ?_⟩
    rw [zf_add (k := "session") (keys := ["name"]) (vals := [.int (a : Nat)]) (by decide +kernel) rfl]
    replace xG := ex_set (o := .ins cL dx (zf ((["name"] : List Str) ++ [Str.ofString "session"]) (([.int (a : Nat)] : List V) ++ [.int (b : Nat)]))) xG np
    have hG : upd G p (.ins cL dx (zf ((["name"] : List Str) ++ [Str.ofString "session"]) (([.int (a : Nat)] : List V) ++ [.int (b : Nat)]))) p = some (.ins cL dx (zf ["name", "session"] [.int (a : Nat), .int (b : Nat)])) := upd_same
    generalize upd G p (.ins cL dx (zf ((["name"] : List Str) ++ [Str.ofString "session"]) (([.int (a : Nat)] : List V) ++ [.int (b : Nat)]))) = G at hG xG ⊢
    refine ⟨_, rfl, _, rfl, p, cL, dx, _, rfl, hG, T.cl, T.no.get (k := "pane") (i := 2) (by decide +kernel), zf_short (by decide), ?_⟩
    rw [zf_add (k := "pane") (keys := ["name", "session"]) (vals := [.int (a : Nat), .int (b : Nat)]) (by decide +kernel) rfl]
    replace xG := ex_set (o := .ins cL dx (zf ((["name", "session"] : List Str) ++ [Str.ofString "pane"]) (([.int (a : Nat), .int (b : Nat)] : List V) ++ [.int (c : Nat)]))) xG np
    have hG : upd G p (.ins cL dx (zf ((["name", "session"] : List Str) ++ [Str.ofString "pane"]) (([.int (a : Nat), .int (b : Nat)] : List V) ++ [.int (c : Nat)]))) p = some (.ins cL dx (zf ["name", "session", "pane"] [.int (a : Nat), .int (b : Nat), .int (c : Nat)])) := upd_same
    generalize upd G p (.ins cL dx (zf ((["name", "session"] : List Str) ++ [Str.ofString "pane"]) (([.int (a : Nat), .int (b : Nat)] : List V) ++ [.int (c : Nat)]))) = G at hG xG ⊢
    refine ⟨_, rfl, _, rfl, p, cL, dx, _, rfl, hG, T.cl, T.no.get (k := "_wide") (i := 3) (by decide +kernel), zf_short (by decide), ?_⟩
    rw [zf_add (k := "_wide") (keys := ["name", "session", "pane"]) (vals := [.int (a : Nat), .int (b : Nat), .int (c : Nat)]) (by decide +kernel) rfl]
    replace xG := ex_set (o := .ins cL dx (zf ((["name", "session", "pane"] : List Str) ++ [Str.ofString "_wide"]) (([.int (a : Nat), .int (b : Nat), .int (c : Nat)] : List V) ++ [.int (wd : Nat)]))) xG np
    have hG : upd G p (.ins cL dx (zf ((["name", "session", "pane"] : List Str) ++ [Str.ofString "_wide"]) (([.int (a : Nat), .int (b : Nat), .int (c : Nat)] : List V) ++ [.int (wd : Nat)]))) p = some (.ins cL dx (zf ["name", "session", "pane", "_wide"] [.int (a : Nat), .int (b : Nat), .int (c : Nat), .int (wd : Nat)])) := upd_same
    generalize upd G p (.ins cL dx (zf ((["name", "session", "pane"] : List Str) ++ [Str.ofString "_wide"]) (([.int (a : Nat), .int (b : Nat), .int (c : Nat)] : List V) ++ [.int (wd : Nat)]))) = G at hG xG ⊢
    refine ⟨_, rfl, _, rfl, p, cL, dx, _, rfl, hG, T.cl, T.no.get (k := "_high") (i := 4) (by decide +kernel), zf_short (by decide), ?_⟩
    rw [zf_add (k := "_high") (keys := ["name", "session", "pane", "_wide"]) (vals := [.int (a : Nat), .int (b : Nat), .int (c : Nat), .int (wd : Nat)]) (by decide +kernel) rfl]
    replace xG := ex_set (o := .ins cL dx (zf ((["name", "session", "pane", "_wide"] : List Str) ++ [Str.ofString "_high"]) (([.int (a : Nat), .int (b : Nat), .int (c : Nat), .int (wd : Nat)] : List V) ++ [.int (hg : Nat)]))) xG np
    have hG : upd G p (.ins cL dx (zf ((["name", "session", "pane", "_wide"] : List Str) ++ [Str.ofString "_high"]) (([.int (a : Nat), .int (b : Nat), .int (c : Nat), .int (wd : Nat)] : List V) ++ [.int (hg : Nat)]))) p = some (.ins cL dx (zf ["name", "session", "pane", "_wide", "_high"] [.int (a : Nat), .int (b : Nat), .int (c : Nat), .int (wd : Nat), .int (hg : Nat)])) := upd_same
    generalize upd G p (.ins cL dx (zf ((["name", "session", "pane", "_wide"] : List Str) ++ [Str.ofString "_high"]) (([.int (a : Nat), .int (b : Nat), .int (c : Nat), .int (wd : Nat)] : List V) ++ [.int (hg : Nat)]))) = G at hG xG ⊢
    refine ⟨_, rfl, p, cL, dx, _, rfl, hG, T.cl, T.no.get (k := "_done") (i := 5) (by decide +kernel), zf_short (by decide), ?_⟩
    rw [zf_add (k := "_done") (keys := ["name", "session", "pane", "_wide", "_high"]) (vals := [.int (a : Nat), .int (b : Nat), .int (c : Nat), .int (wd : Nat), .int (hg : Nat)]) (by decide +kernel) rfl]
    replace xG := ex_set (o := .ins cL dx (zf ((["name", "session", "pane", "_wide", "_high"] : List Str) ++ [Str.ofString "_done"]) (([.int (a : Nat), .int (b : Nat), .int (c : Nat), .int (wd : Nat), .int (hg : Nat)] : List V) ++ [.int 0]))) xG np
    have hG : upd G p (.ins cL dx (zf ((["name", "session", "pane", "_wide", "_high"] : List Str) ++ [Str.ofString "_done"]) (([.int (a : Nat), .int (b : Nat), .int (c : Nat), .int (wd : Nat), .int (hg : Nat)] : List V) ++ [.int 0]))) p = some (.ins cL dx (zf ["name", "session", "pane", "_wide", "_high", "_done"] [.int (a : Nat), .int (b : Nat), .int (c : Nat), .int (wd : Nat), .int (hg : Nat), .int 0])) := upd_same
    generalize upd G p (.ins cL dx (zf ((["name", "session", "pane", "_wide", "_high"] : List Str) ++ [Str.ofString "_done"]) (([.int (a : Nat), .int (b : Nat), .int (c : Nat), .int (wd : Nat), .int (hg : Nat)] : List V) ++ [.int 0]))) = G at hG xG ⊢
    refine ⟨_, rfl, p, cL, dx, _, rfl, hG, T.cl, T.no.get (k := "_signs") (i := 6) (by decide +kernel), zf_short (by decide), ?_⟩
    rw [zf_add (k := "_signs") (keys := ["name", "session", "pane", "_wide", "_high", "_done"]) (vals := [.int (a : Nat), .int (b : Nat), .int (c : Nat), .int (wd : Nat), .int (hg : Nat), .int 0]) (by decide +kernel) rfl]
    replace xG := ex_set (o := .ins cL dx (zf ((["name", "session", "pane", "_wide", "_high", "_done"] : List Str) ++ [Str.ofString "_signs"]) (([.int (a : Nat), .int (b : Nat), .int (c : Nat), .int (wd : Nat), .int (hg : Nat), .int 0] : List V) ++ [.str (Str.ofString "")]))) xG np
    have hG : upd G p (.ins cL dx (zf ((["name", "session", "pane", "_wide", "_high", "_done"] : List Str) ++ [Str.ofString "_signs"]) (([.int (a : Nat), .int (b : Nat), .int (c : Nat), .int (wd : Nat), .int (hg : Nat), .int 0] : List V) ++ [.str (Str.ofString "")]))) p = some (.ins cL dx (zf ["name", "session", "pane", "_wide", "_high", "_done", "_signs"] [.int (a : Nat), .int (b : Nat), .int (c : Nat), .int (wd : Nat), .int (hg : Nat), .int 0, .str (Str.ofString "")])) := upd_same
    generalize upd G p (.ins cL dx (zf ((["name", "session", "pane", "_wide", "_high", "_done"] : List Str) ++ [Str.ofString "_signs"]) (([.int (a : Nat), .int (b : Nat), .int (c : Nat), .int (wd : Nat), .int (hg : Nat), .int 0] : List V) ++ [.str (Str.ofString "")]))) = G at hG xG ⊢
    refine ⟨_, rfl, p, cL, dx, _, rfl, hG, T.cl, T.no.get (k := "_known") (i := 7) (by decide +kernel), zf_short (by decide), ?_⟩
    rw [zf_add (k := "_known") (keys := ["name", "session", "pane", "_wide", "_high", "_done", "_signs"]) (vals := [.int (a : Nat), .int (b : Nat), .int (c : Nat), .int (wd : Nat), .int (hg : Nat), .int 0, .str (Str.ofString "")]) (by decide +kernel) rfl]
    replace xG := ex_set (o := .ins cL dx (zf ((["name", "session", "pane", "_wide", "_high", "_done", "_signs"] : List Str) ++ [Str.ofString "_known"]) (([.int (a : Nat), .int (b : Nat), .int (c : Nat), .int (wd : Nat), .int (hg : Nat), .int 0, .str (Str.ofString "")] : List V) ++ [.non]))) xG np
    have hG : upd G p (.ins cL dx (zf ((["name", "session", "pane", "_wide", "_high", "_done", "_signs"] : List Str) ++ [Str.ofString "_known"]) (([.int (a : Nat), .int (b : Nat), .int (c : Nat), .int (wd : Nat), .int (hg : Nat), .int 0, .str (Str.ofString "")] : List V) ++ [.non]))) p = some (.ins cL dx (zf ["name", "session", "pane", "_wide", "_high", "_done", "_signs", "_known"] [.int (a : Nat), .int (b : Nat), .int (c : Nat), .int (wd : Nat), .int (hg : Nat), .int 0, .str (Str.ofString ""), .non])) := upd_same
    generalize upd G p (.ins cL dx (zf ((["name", "session", "pane", "_wide", "_high", "_done", "_signs"] : List Str) ++ [Str.ofString "_known"]) (([.int (a : Nat), .int (b : Nat), .int (c : Nat), .int (wd : Nat), .int (hg : Nat), .int 0, .str (Str.ofString "")] : List V) ++ [.non]))) = G at hG xG ⊢
    refine ⟨Nat.zero_le _, fun r nr => ?_⟩
    have y1 : Ex G (upd G r (.lst [])) := Ex.new nr
    have hr1 : upd G r (.lst []) r = some (.lst []) := upd_same
    have nr0 : H0 r = none := exf xG nr
    have npr : p ≠ r := ne_of_none hG nr
    replace hG := y1 _ _ hG
    replace xG := xG.trans y1
    generalize upd G r (.lst []) = G at hG xG hr1 ⊢
    clear y1 nr
    refine ⟨_, rfl, p, cL, dx, _, rfl, hG, T.cl, T.no.get (k := "_rows") (i := 8) (by decide +kernel), zf_short (by decide), ?_⟩
    rw [zf_add (k := "_rows") (keys := ["name", "session", "pane", "_wide", "_high", "_done", "_signs", "_known"]) (vals := [.int (a : Nat), .int (b : Nat), .int (c : Nat), .int (wd : Nat), .int (hg : Nat), .int 0, .str (Str.ofString ""), .non]) (by decide +kernel) rfl]
    replace xG := ex_set (o := .ins cL dx (zf ((["name", "session", "pane", "_wide", "_high", "_done", "_signs", "_known"] : List Str) ++ [Str.ofString "_rows"]) (([.int (a : Nat), .int (b : Nat), .int (c : Nat), .int (wd : Nat), .int (hg : Nat), .int 0, .str (Str.ofString ""), .non] : List V) ++ [.ref r]))) xG np
    have hG : upd G p (.ins cL dx (zf ((["name", "session", "pane", "_wide", "_high", "_done", "_signs", "_known"] : List Str) ++ [Str.ofString "_rows"]) (([.int (a : Nat), .int (b : Nat), .int (c : Nat), .int (wd : Nat), .int (hg : Nat), .int 0, .str (Str.ofString ""), .non] : List V) ++ [.ref r]))) p = some (.ins cL dx (zf ["name", "session", "pane", "_wide", "_high", "_done", "_signs", "_known", "_rows"] [.int (a : Nat), .int (b : Nat), .int (c : Nat), .int (wd : Nat), .int (hg : Nat), .int 0, .str (Str.ofString ""), .non, .ref r])) := upd_same
    replace hr1 := (upd_ne (o := .ins cL dx (zf ((["name", "session", "pane", "_wide", "_high", "_done", "_signs", "_known"] : List Str) ++ [Str.ofString "_rows"]) (([.int (a : Nat), .int (b : Nat), .int (c : Nat), .int (wd : Nat), .int (hg : Nat), .int 0, .str (Str.ofString ""), .non] : List V) ++ [.ref r]))) npr.symm).trans hr1
    generalize upd G p (.ins cL dx (zf ((["name", "session", "pane", "_wide", "_high", "_done", "_signs", "_known"] : List Str) ++ [Str.ofString "_rows"]) (([.int (a : Nat), .int (b : Nat), .int (c : Nat), .int (wd : Nat), .int (hg : Nat), .int 0, .str (Str.ofString ""), .non] : List V) ++ [.ref r]))) = G at hG xG hr1 ⊢
    refine ⟨_, rfl, p, cL, dx, _, rfl, hG, T.cl, T.no.get (k := "_line") (i := 9) (by decide +kernel), zf_short (by decide), ?_⟩
    rw [zf_add (k := "_line") (keys := ["name", "session", "pane", "_wide", "_high", "_done", "_signs", "_known", "_rows"]) (vals := [.int (a : Nat), .int (b : Nat), .int (c : Nat), .int (wd : Nat), .int (hg : Nat), .int 0, .str (Str.ofString ""), .non, .ref r]) (by decide +kernel) rfl]
    replace xG := ex_set (o := .ins cL dx (zf ((["name", "session", "pane", "_wide", "_high", "_done", "_signs", "_known", "_rows"] : List Str) ++ [Str.ofString "_line"]) (([.int (a : Nat), .int (b : Nat), .int (c : Nat), .int (wd : Nat), .int (hg : Nat), .int 0, .str (Str.ofString ""), .non, .ref r] : List V) ++ [.str (Str.ofString "")]))) xG np
    have hG : upd G p (.ins cL dx (zf ((["name", "session", "pane", "_wide", "_high", "_done", "_signs", "_known", "_rows"] : List Str) ++ [Str.ofString "_line"]) (([.int (a : Nat), .int (b : Nat), .int (c : Nat), .int (wd : Nat), .int (hg : Nat), .int 0, .str (Str.ofString ""), .non, .ref r] : List V) ++ [.str (Str.ofString "")]))) p = some (.ins cL dx (zf ["name", "session", "pane", "_wide", "_high", "_done", "_signs", "_known", "_rows", "_line"] [.int (a : Nat), .int (b : Nat), .int (c : Nat), .int (wd : Nat), .int (hg : Nat), .int 0, .str (Str.ofString ""), .non, .ref r, .str (Str.ofString "")])) := upd_same
    replace hr1 := (upd_ne (o := .ins cL dx (zf ((["name", "session", "pane", "_wide", "_high", "_done", "_signs", "_known", "_rows"] : List Str) ++ [Str.ofString "_line"]) (([.int (a : Nat), .int (b : Nat), .int (c : Nat), .int (wd : Nat), .int (hg : Nat), .int 0, .str (Str.ofString ""), .non, .ref r] : List V) ++ [.str (Str.ofString "")]))) npr.symm).trans hr1
    generalize upd G p (.ins cL dx (zf ((["name", "session", "pane", "_wide", "_high", "_done", "_signs", "_known", "_rows"] : List Str) ++ [Str.ofString "_line"]) (([.int (a : Nat), .int (b : Nat), .int (c : Nat), .int (wd : Nat), .int (hg : Nat), .int 0, .str (Str.ofString ""), .non, .ref r] : List V) ++ [.str (Str.ofString "")]))) = G at hG xG hr1 ⊢
    refine ⟨_, rfl, p, cL, dx, _, rfl, hG, T.cl, T.no.get (k := "_left") (i := 10) (by decide +kernel), zf_short (by decide), ?_⟩
    rw [zf_add (k := "_left") (keys := ["name", "session", "pane", "_wide", "_high", "_done", "_signs", "_known", "_rows", "_line"]) (vals := [.int (a : Nat), .int (b : Nat), .int (c : Nat), .int (wd : Nat), .int (hg : Nat), .int 0, .str (Str.ofString ""), .non, .ref r, .str (Str.ofString "")]) (by decide +kernel) rfl]
    replace xG := ex_set (o := .ins cL dx (zf ((["name", "session", "pane", "_wide", "_high", "_done", "_signs", "_known", "_rows", "_line"] : List Str) ++ [Str.ofString "_left"]) (([.int (a : Nat), .int (b : Nat), .int (c : Nat), .int (wd : Nat), .int (hg : Nat), .int 0, .str (Str.ofString ""), .non, .ref r, .str (Str.ofString "")] : List V) ++ [.bl false]))) xG np
    have hG : upd G p (.ins cL dx (zf ((["name", "session", "pane", "_wide", "_high", "_done", "_signs", "_known", "_rows", "_line"] : List Str) ++ [Str.ofString "_left"]) (([.int (a : Nat), .int (b : Nat), .int (c : Nat), .int (wd : Nat), .int (hg : Nat), .int 0, .str (Str.ofString ""), .non, .ref r, .str (Str.ofString "")] : List V) ++ [.bl false]))) p = some (.ins cL dx (zf ["name", "session", "pane", "_wide", "_high", "_done", "_signs", "_known", "_rows", "_line", "_left"] [.int (a : Nat), .int (b : Nat), .int (c : Nat), .int (wd : Nat), .int (hg : Nat), .int 0, .str (Str.ofString ""), .non, .ref r, .str (Str.ofString ""), .bl false])) := upd_same
    replace hr1 := (upd_ne (o := .ins cL dx (zf ((["name", "session", "pane", "_wide", "_high", "_done", "_signs", "_known", "_rows", "_line"] : List Str) ++ [Str.ofString "_left"]) (([.int (a : Nat), .int (b : Nat), .int (c : Nat), .int (wd : Nat), .int (hg : Nat), .int 0, .str (Str.ofString ""), .non, .ref r, .str (Str.ofString "")] : List V) ++ [.bl false]))) npr.symm).trans hr1
    generalize upd G p (.ins cL dx (zf ((["name", "session", "pane", "_wide", "_high", "_done", "_signs", "_known", "_rows", "_line"] : List Str) ++ [Str.ofString "_left"]) (([.int (a : Nat), .int (b : Nat), .int (c : Nat), .int (wd : Nat), .int (hg : Nat), .int 0, .str (Str.ofString ""), .non, .ref r, .str (Str.ofString "")] : List V) ++ [.bl false]))) = G at hG xG hr1 ⊢
    refine ⟨_, rfl, p, cL, dx, _, rfl, hG, T.cl, T.no.get (k := "_over") (i := 11) (by decide +kernel), zf_short (by decide), ?_⟩
    rw [zf_add (k := "_over") (keys := ["name", "session", "pane", "_wide", "_high", "_done", "_signs", "_known", "_rows", "_line", "_left"]) (vals := [.int (a : Nat), .int (b : Nat), .int (c : Nat), .int (wd : Nat), .int (hg : Nat), .int 0, .str (Str.ofString ""), .non, .ref r, .str (Str.ofString ""), .bl false]) (by decide +kernel) rfl]
    replace xG := ex_set (o := .ins cL dx (zf ((["name", "session", "pane", "_wide", "_high", "_done", "_signs", "_known", "_rows", "_line", "_left"] : List Str) ++ [Str.ofString "_over"]) (([.int (a : Nat), .int (b : Nat), .int (c : Nat), .int (wd : Nat), .int (hg : Nat), .int 0, .str (Str.ofString ""), .non, .ref r, .str (Str.ofString ""), .bl false] : List V) ++ [.bl false]))) xG np
    have hG : upd G p (.ins cL dx (zf ((["name", "session", "pane", "_wide", "_high", "_done", "_signs", "_known", "_rows", "_line", "_left"] : List Str) ++ [Str.ofString "_over"]) (([.int (a : Nat), .int (b : Nat), .int (c : Nat), .int (wd : Nat), .int (hg : Nat), .int 0, .str (Str.ofString ""), .non, .ref r, .str (Str.ofString ""), .bl false] : List V) ++ [.bl false]))) p = some (.ins cL dx (zf ["name", "session", "pane", "_wide", "_high", "_done", "_signs", "_known", "_rows", "_line", "_left", "_over"] [.int (a : Nat), .int (b : Nat), .int (c : Nat), .int (wd : Nat), .int (hg : Nat), .int 0, .str (Str.ofString ""), .non, .ref r, .str (Str.ofString ""), .bl false, .bl false])) := upd_same
    replace hr1 := (upd_ne (o := .ins cL dx (zf ((["name", "session", "pane", "_wide", "_high", "_done", "_signs", "_known", "_rows", "_line", "_left"] : List Str) ++ [Str.ofString "_over"]) (([.int (a : Nat), .int (b : Nat), .int (c : Nat), .int (wd : Nat), .int (hg : Nat), .int 0, .str (Str.ofString ""), .non, .ref r, .str (Str.ofString ""), .bl false] : List V) ++ [.bl false]))) npr.symm).trans hr1
    generalize upd G p (.ins cL dx (zf ((["name", "session", "pane", "_wide", "_high", "_done", "_signs", "_known", "_rows", "_line", "_left"] : List Str) ++ [Str.ofString "_over"]) (([.int (a : Nat), .int (b : Nat), .int (c : Nat), .int (wd : Nat), .int (hg : Nat), .int 0, .str (Str.ofString ""), .non, .ref r, .str (Str.ofString ""), .bl false] : List V) ++ [.bl false]))) = G at hG xG hr1 ⊢
    exact q _ (look_mk ⟨xG, hG, hr1, np, nr0, npr⟩)
end
end Vf
namespace Vf
open PySem PySem.Spec PyProof.Rows L2 Evl GxR
/-! ### a look's letters -/
abbrev sKLe : Stmt := inClass (topS 60) 3
theorem scKLe : FnScope ["self"] ["self"] (defScope sKLe) := ⟨rfl, rfl, rfl, by decide +kernel, rfl, by decide +kernel, by decide +kernel⟩
abbrev sKLr : Stmt := inClass (topS 60) 11
theorem scKLr : FnScope ["self", "kind", "first", "signs"] ["self", "kind", "first", "signs"] (defScope sKLr) := ⟨rfl, rfl, rfl, by decide +kernel, rfl, by decide +kernel, by decide +kernel⟩
abbrev sKLt : Stmt := inClass (topS 60) 5
theorem scKLt : FnScope ["self", "starts", "at"] ["self"] (defScope sKLt) := ⟨rfl, rfl, rfl, by decide +kernel, rfl, by decide +kernel, by decide +kernel⟩
structure TLok2 (mg : Str → Option Value) : Prop where
  z_len : mg "len" = none
  z_max : mg "max" = none
  z_range : mg "range" = none
  mg_LETTER_SIGNS : ∃ t, mg "LETTER_SIGNS" = some (.int 1000 t)
  mg_TYPED : ∃ t, mg "TYPED" = some (.str "typed" t)
  mg_LEFT : ∃ t, mg "LEFT" = some (.str "left" t)
structure TLk (K : PySem.W.Frag) (mg : Str → Option Value) (cL : Addr) : Prop extends TLok2 mg, ClsN K cL LKK
/-- what every look's state keeps -/
structure LOk (s : Lk) : Prop where
  look : LookOk s.name s.session s.pane
  size : SizeOk s.wide s.high
  signs : ∀ c ∈ s.signs.cps.toList, isK c = true
  len : s.done + s.signs.length < 1000000
  rows : s.rows.length ≤ 40
  rok : ∀ r ∈ s.rows, FldOk r
  line : FldOk s.line
theorem fld_empty : FldOk (Str.ofString "") := ⟨by decide, by decide, fun c hc => nomatch hc⟩
theorem new_ok {a b c wd hg : Nat} (h : LookOk a b c) (k : SizeOk wd hg) : LOk (Lk.new a b c wd hg) :=
  ⟨h, k, (fun c hc => nomatch hc), (by show 0 + 0 < 1000000; decide), Nat.zero_le _, (fun _ h => nomatch h), fld_empty⟩
def letterN (n : Nat) : Nat := (max n 1 + 999) / 1000
def Lk.letters (s : Lk) : List (List Nat) :=
  if s.over = true then [] else if s.left = true then [lookL "left" [s.name, s.session, s.pane, 0] (Str.ofString "")]
  else (List.range (letterN s.signs.length)).map fun i => lookL "typed" [s.name, s.session, s.pane, s.done + i * 1000] (cutS s.signs (some ((i * 1000 : Nat) : Int)) (some ((i * 1000 + 1000 : Nat) : Int)))
theorem cut_len2 {z : Str} {a b : Nat} (h : a ≤ b) : (cutS z (some (a : Int)) (some (b : Int))).length ≤ b - a := by
  unfold cutS
  show (List.toArray _).size ≤ _
  rw [List.size_toArray, List.length_take, HT.sIx_nat, HT.sIx_nat]
  omega
theorem cut_mem {z : Str} {a b : Option Int} {c : Nat} (hc : c ∈ (cutS z a b).cps.toList) : c ∈ z.cps.toList := by
  unfold cutS at hc
  have hc2 : c ∈ (z.cps.toList.drop (HT.sIx z.length 0 a)).take (HT.sIx z.length z.length b - HT.sIx z.length 0 a) := by simpa using hc
  exact List.mem_of_mem_drop (List.mem_of_mem_take hc2)
theorem cut_fld {z : Str} {a : Nat} (h : ∀ c ∈ z.cps.toList, isK c = true) : FldOk (cutS z (some (a : Int)) (some ((a + 1000 : Nat) : Int))) := by
  refine ⟨?_, fun k => ?_, fun c hc => ?_⟩
  · have := cut_len2 (z := z) (a := a) (b := a + 1000) (by omega)
    omega
  · exact (isK_S (h _ (cut_mem k))).2 rfl
  · exact (isK_S (h _ (cut_mem hc))).1
def spKLe (C : Addr) : Sp := fun vs H Q _ => ∃ (H0 : Hp) (p : Addr) (s : Lk), vs = [.ref p] ∧ Beh (lookA C p s) H0 H ∧ ∀ H', Beh (lookA C p { s with left := true }) H0 H' → Q .non H'
def spKLr (T0 C : Addr) : Sp := fun vs H Q _ => ∃ (H0 : Hp) (p : Addr) (s : Lk) (k z : Str) (n : Nat), vs = [.ref p, .str k, .int n, .str z] ∧ Beh (lookA C p s) H0 H ∧ LOk s ∧ isKind k ∧ n < 10000000 ∧ FldOk z ∧ H0 T0 = some (TabO T0) ∧
  ∀ H', Ex H H' → Q (.str (txt (lookL k [s.name, s.session, s.pane, n] z))) H'
def spKLt (T0 C : Addr) : Sp := fun vs H Q _ => ∃ (H0 : Hp) (p : Addr) (s : Lk), vs = [.ref p] ∧ Beh (lookA C p s) H0 H ∧ LOk s ∧ H0 T0 = some (TabO T0) ∧
  ∀ q H', Ex H H' → H q = none → H' q = some (.lst (s.letters.map fun l => V.str (txt l))) → Q (.ref q) H'
section
variable {P : Program} {w : World} {K : PySem.W.Frag} {mg : Str → Option Value} {base : Heap}
structure CLok2 (P : Program) (w : World) (K : PySem.W.Frag) (mg : Str → Option Value) (base : Heap) (T0 : Addr) : Prop where
  look_letter : Cal P w K mg base "look_letter" 4 ["kind", "name", "session", "pane", "first", "signs"] (spLle T0)
theorem ok_klr {f cL T0 : Addr} {fd : FuncData} (F : Fun K "_letter" "Look._letter" sKLr f fd) (T : TLk K mg cL) (C : CLok2 P w K mg base T0) : FnOk P w K mg base CX0 5 f fd ["self", "kind", "first", "signs"] (spKLr T0 cL) := by
  refine F.ok scKLr (fun vs H Q E h => ?_) (fun cdv A outer s H vs Q E hr h => ?_)
  · obtain ⟨H0, p, s, k, z, n, rfl, _⟩ := h
    rfl
  · obtain ⟨H0, p, st, k, z, n, rfl, B, O, hk, hn, hz, hT, q⟩ := h
    refine ⟨_, (pss_one (ps_ret (pcall C.look_letter (hr.mono (by first | decide | omega)) (pa_cons (pv 1) (pa_cons (pe_fld (pv 0) rfl) (pa_cons (pe_fld (pv 0) rfl) (pa_cons (pe_fld (pv 0) rfl) (pa_cons (pv 2) (pa_cons (pv 3) pa_nil))))))))), ?_⟩
    obtain ⟨dx, r, L⟩ := look_at B
    obtain ⟨l1, l2, l3, l4⟩ := O.look
    refine ⟨_, rfl, _, rfl, p, cL, dx, _, _, rfl, L.at_, T.cl, T.no.get (k := "name") (i := 0) (by decide +kernel), zf_get (k := "name") (i := 0) (by decide +kernel) rfl, _, rfl, p, cL, dx, _, _, rfl, L.at_, T.cl, T.no.get (k := "session") (i := 1) (by decide +kernel), zf_get (k := "session") (i := 1) (by decide +kernel) rfl, _, rfl, p, cL, dx, _, _, rfl, L.at_, T.cl, T.no.get (k := "pane") (i := 2) (by decide +kernel), zf_get (k := "pane") (i := 2) (by decide +kernel) rfl, _, rfl, _, rfl, k, z, st.name, st.session, st.pane, n, rfl, hk, fun m hm => ?_, hz, L.x _ _ hT, q⟩
    simp only [List.mem_cons, List.mem_nil_iff, or_false] at hm
    omega
structure CLok3 (P : Program) (w : World) (K : PySem.W.Frag) (mg : Str → Option Value) (base : Heap) (T0 cL : Addr) : Prop where
  letter : MCal P w K mg base cL "_letter" 5 ["self", "kind", "first", "signs"] (spKLr T0 cL)
theorem ok_klt {f cL T0 : Addr} {fd : FuncData} (F : Fun K "letters" "Look.letters" sKLt f fd) (T : TLk K mg cL) (C : CLok3 P w K mg base T0 cL) : FnOk P w K mg base CX0 6 f fd ["self"] (spKLt T0 cL) := by
  refine F.ok scKLt (fun vs H Q E h => ?_) (fun cdv A outer s H vs Q E hr h => ?_)
  · obtain ⟨H0, p, s, rfl, _⟩ := h
    rfl
  · obtain ⟨H0, p, st, rfl, B, O, hT, q⟩ := h
    refine ⟨_, (pss_cons (ps_if (pt_val (pe_fld (pv 0) rfl)) (pss_one (ps_ret (pe_lst pa_nil))) pss_nil)
      (pss_cons (ps_if (pt_val (pe_fld (pv 0) rfl)) (pss_one (ps_ret (pe_lst (pa_cons (pmeth (pv 0) T.cl C.letter (hr.mono (by first | decide | omega)) (pa_cons (pgS T.mg_LEFT) (pa_cons pe_int (pa_cons pe_str pa_nil)))) pa_nil)))) pss_nil)
      (pss_cons (ps_set (i := 1) scKLt.nd rfl (Or.inl rfl) (pe_callTy cr_range3 (by rfl) T.z_range boot_range (pa_cons pe_int (pa_cons (pe_callB (call_max2 rfl) (by rfl) T.z_max boot_max (pa_cons (pe_callB call_len_str (by rfl) T.z_len PySem.boot_len (pa_cons (pe_fld (pv 0) rfl) pa_nil)) (pa_cons pe_int pa_nil))) (pa_cons (pgI T.mg_LETTER_SIGNS) pa_nil)))))
      (pss_one (ps_ret (pe_lc (own := [("at", 2)]) (g := gName 2) (tt := tYes) rfl scKLt.nd (pi_rngV (pv 1)) (blkOk_by (own := [("at", 2)]) (N := ["self", "starts", "at"]) (sc := defScope sKLt) (by decide +kernel)) (fun _ _ _ _ _ => pg_name (i := 2) scKLt.nd rfl (Or.inl rfl)) (fun _ _ _ _ _ => pts_nil) (fun _ _ _ _ _ => (pmeth (pv 0) T.cl C.letter (hr.mono (by first | decide | omega)) (pa_cons (pgS T.mg_TYPED) (pa_cons (pe_op op_add (pe_fldK K (pv 0) rfl) (pv 2)) (pa_cons (pe_slice sl_str (pe_fldK K (pv 0) rfl) (po_some (pv 2)) (po_some (pe_op op_add (pv 2) (pgI T.mg_LETTER_SIGNS)))) pa_nil))))))))))), ?_⟩
    obtain ⟨dx, r, L⟩ := look_at B
    refine ⟨_, rfl, p, cL, dx, _, _, rfl, L.at_, T.cl, T.no.get (k := "_over") (i := 11) (by decide +kernel), zf_get (k := "_over") (i := 11) (by decide +kernel) rfl, st.over, rfl, ite2 (fun e => ?_) (fun e => ?_)⟩
    · refine ⟨Nat.zero_le _, fun l nl => q l _ (Ex.new nl) nl ?_⟩
      rw [upd_same]
      unfold Lk.letters
      rw [if_pos e]
      rfl
    refine ⟨_, rfl, p, cL, dx, _, _, rfl, L.at_, T.cl, T.no.get (k := "_left") (i := 10) (by decide +kernel), zf_get (k := "_left") (i := 10) (by decide +kernel) rfl, st.left, rfl, ite2 (fun e2 => ?_) (fun e2 => ?_)⟩
    · refine ⟨_, rfl, p, dx, _, rfl, L.at_, zf_no (k := "_letter") (by decide +kernel), H0, p, st, _, _, 0, rfl, B, O, .inr rfl, by decide, fld_empty, hT, fun H1 e1 => ⟨by show 1 ≤ sizeLine; decide, fun l nl => ?_⟩⟩
      refine q l _ (e1.trans (Ex.new nl)) (fresh_back e1 nl) ?_
      rw [upd_same]
      unfold Lk.letters
      rw [if_neg e, if_pos e2]
      rfl
    have hl := O.len
    have big : st.signs.length ≤ sizeLine := Nat.le_trans (m := 1000000) (by omega) (by decide)
    refine ⟨_, rfl, p, cL, dx, _, _, rfl, L.at_, T.cl, T.no.get (k := "_signs") (i := 6) (by decide +kernel), zf_get (k := "_signs") (i := 6) (by decide +kernel) rfl, _, rfl, big, ?_⟩
    have em : (if (1 : Int) > (st.signs.length : Int) then (1 : Int) else (st.signs.length : Int)) = ((max st.signs.length 1 : Nat) : Int) := by
      by_cases h : st.signs.length = 0
      · rw [if_pos (by omega)]; omega
      · rw [if_neg (by omega)]; omega
    refine ⟨_, _, rfl, 0, ((max st.signs.length 1 : Nat) : Int), 1000, (by rw [em]), by decide, by decide, fun u nu => ?_⟩
    have xu : Ex H (upd H u (RngO u 0 ((max st.signs.length 1 : Nat) : Int) 1000)) := Ex.new nu
    have hu : upd H u (RngO u 0 ((max st.signs.length 1 : Nat) : Int) 1000) u = some (RngO u 0 ((max st.signs.length 1 : Nat) : Int) 1000) := upd_same
    generalize upd H u (RngO u 0 ((max st.signs.length 1 : Nat) : Int) 1000) = H1 at xu hu ⊢
    have B1 := B.ex (lookT _ _ _) xu
    have L1 := look_at B1
    refine ⟨_, rfl, u, 0, _, 1000, letterN st.signs.length, rfl, hu, rgc_th (by omega) (by omega), fun D nD => ?_⟩
    have ll : st.letters = (List.range (letterN st.signs.length)).map fun i => lookL "typed" [st.name, st.session, st.pane, st.done + i * 1000] (cutS st.signs (some ((i * 1000 : Nat) : Int)) (some ((i * 1000 + 1000 : Nat) : Int))) := by
      unfold Lk.letters
      rw [if_neg e, if_neg e2]
    refine lc_it walk_rangeC (fun i H' => Ex H1 H' ∧ H' D = some (.lst (((List.range i).map fun i => lookL "typed" [st.name, st.session, st.pane, st.done + i * 1000] (cutS st.signs (some ((i * 1000 : Nat) : Int)) (some ((i * 1000 + 1000 : Nat) : Int)))).map fun l => V.str (txt l)))) ⟨Ex.new nD, upd_same⟩ (fun _ _ _ _ => trivial) ?_ ?_
    · rintro i x H2 H3 hi ⟨e3, hp⟩ ⟨rfl, hx⟩
      obtain rfl : x = V.int ((i * 1000 : Nat) : Int) := hx.trans (congrArg V.int (by show (0 : Int) + (i : Nat) * 1000 = _; omega))
      clear hx
      refine ⟨rfl, yes_lc ?_⟩
      have hi2 : i * 1000 < 1000000 + 1000 := by
        unfold letterN at hi
        omega
      have B3 := B1.ex (lookT _ _ _) e3
      obtain ⟨dx3, r3, L3⟩ := look_at B3
      refine ⟨_, rfl, p, dx3, _, rfl, L3.at_, zf_no (k := "_letter") (by decide +kernel), _, rfl, p, cL, dx3, _, _, rfl, L3.at_, T.cl, T.no.get (k := "_done") (i := 5) (by decide +kernel), zf_get (k := "_done") (i := 5) (by decide +kernel) rfl, _, rfl, _, _, rfl, rfl, _, rfl, p, cL, dx3, _, _, rfl, L3.at_, T.cl, T.no.get (k := "_signs") (i := 6) (by decide +kernel), zf_get (k := "_signs") (i := 6) (by decide +kernel) rfl, _, rfl, _, rfl, _, rfl, _, _, rfl, rfl, _, rfl, st.signs, rfl, big, ?_⟩
      refine ⟨H0, p, st, _, cutS st.signs (some ((i * 1000 : Nat) : Int)) (some ((i * 1000 + 1000 : Nat) : Int)), st.done + i * 1000, ?_, B3, O, .inl rfl, ?_, cut_fld O.signs, hT, fun H4 e4 => ⟨_, e4 _ _ hp, ?_, ex_set (e3.trans e4) nD, ?_⟩⟩
      · show [V.ref p, V.str _, V.int ((st.done : Int) + ((i * 1000 : Nat) : Int)), V.str (cutS st.signs (some ((i * 1000 : Nat) : Int)) (some (((i * 1000 : Nat) : Int) + 1000)))] = _
        rw [← Int.natCast_add, show (((i * 1000 : Nat) : Int) + 1000) = ((i * 1000 + 1000 : Nat) : Int) by omega]
      · have := O.len
        omega
      · rw [List.length_map, List.length_map, List.length_range]
        exact Nat.lt_of_lt_of_le hi (Nat.le_trans (m := 2000) (by unfold letterN; omega) (by decide))
      · rw [upd_same, List.range_succ, List.map_append, List.map_append]
        rfl
    · rintro H2 ⟨e3, hp⟩
      refine q D H2 (xu.trans e3) (fresh_back xu nD) ?_
      rw [hp, ll]
end
end Vf
namespace Vf
open PySem PySem.Spec PyProof.Rows L2 Evl GxR
/-! ### a look hears -/
abbrev sKPr : Stmt := inClass (topS 60) 1
theorem scKPr : FnScope ["self", "signs", "place"] ["self", "signs"] (defScope sKPr) := ⟨rfl, rfl, rfl, by decide +kernel, rfl, by decide +kernel, by decide +kernel⟩
abbrev sKHd : Stmt := inClass (topS 60) 12
theorem scKHd : FnScope ["self", "done"] ["self", "done"] (defScope sKHd) := ⟨rfl, rfl, rfl, by decide +kernel, rfl, by decide +kernel, by decide +kernel⟩
abbrev sKHp : Stmt := inClass (topS 60) 13
theorem scKHp : FnScope ["self", "changes", "line", "rows"] ["self", "changes", "line", "rows"] (defScope sKHp) := ⟨rfl, rfl, rfl, by decide +kernel, rfl, by decide +kernel, by decide +kernel⟩
abbrev sKHe : Stmt := inClass (topS 60) 4
theorem scKHe : FnScope ["self", "text", "said", "name", "session", "pane", "done", "changes", "line", "rows"] ["self", "text"] (defScope sKHe) := ⟨rfl, rfl, rfl, by decide +kernel, rfl, by decide +kernel, by decide +kernel⟩
abbrev sKOv : Stmt := inClass (topS 60) 9
theorem scKOv : FnScope ["self"] ["self"] (defScope sKOv) := ⟨rfl, rfl, rfl, by decide +kernel, rfl, by decide +kernel, by decide +kernel⟩
abbrev sKWa : Stmt := inClass (topS 60) 8
theorem scKWa : FnScope ["self"] ["self"] (defScope sKWa) := ⟨rfl, rfl, rfl, by decide +kernel, rfl, by decide +kernel, by decide +kernel⟩
abbrev sKKn : Stmt := inClass (topS 60) 7
theorem scKKn : FnScope ["self"] ["self"] (defScope sKKn) := ⟨rfl, rfl, rfl, by decide +kernel, rfl, by decide +kernel, by decide +kernel⟩
def Lk.hearDone (s : Lk) (d : Nat) : Lk := if s.done < d then { s with signs := cutS s.signs (some ((d - s.done : Nat) : Int)) none, done := d } else s
def Lk.hearPane (s : Lk) (ch : Nat) (line : Str) (rows : List Str) : Lk := match s.known with
  | none => { s with known := some ch, line := line, rows := rows }
  | some k => if k < ch then { s with known := some ch, line := line, rows := rows } else s
def Lk.hear (s : Lk) (m : Option (List Nat × Str × List Str)) : Lk := match m with
  | some ([n, ss, pn, dn, ch], line, rows) => if s.over = true ∨ ¬ n = s.name then s else if s.session < ss then { s with over := true } else if ss = s.session ∧ pn = s.pane then (s.hearDone dn).hearPane ch line rows else s
  | _ => s
def spKHd (C : Addr) : Sp := fun vs H Q _ => ∃ (H0 : Hp) (p : Addr) (s : Lk) (d : Nat), vs = [.ref p, .int d] ∧ Beh (lookA C p s) H0 H ∧ s.signs.length < 1000000 ∧ ∀ H', Beh (lookA C p (s.hearDone d)) H0 H' → Q .non H'
def spKHp (C : Addr) : Sp := fun vs H Q _ => ∃ (H0 : Hp) (p r : Addr) (s : Lk) (ch : Nat) (line : Str) (rows : List Str), vs = [.ref p, .int ch, .str line, .ref r] ∧ Sep [lookA C p s, cellA r (.lst (rows.map V.str))] H0 H ∧ ∀ H', Beh (lookA C p (s.hearPane ch line rows)) H0 H' → Q .non H'
def spKOv (C : Addr) : Sp := fun vs H Q _ => ∃ (H0 : Hp) (p : Addr) (s : Lk), vs = [.ref p] ∧ Beh (lookA C p s) H0 H ∧ Q (.bl s.over) H
def spKWa (C : Addr) : Sp := fun vs H Q _ => ∃ (H0 : Hp) (p : Addr) (s : Lk), vs = [.ref p] ∧ Beh (lookA C p s) H0 H ∧ s.signs.length < 1000000 ∧ Q (.int (s.signs.length : Nat)) H
def spKKn (C : Addr) : Sp := fun vs H Q _ => ∃ (H0 : Hp) (p : Addr) (s : Lk), vs = [.ref p] ∧ Beh (lookA C p s) H0 H ∧ Q (numV s.known) H
theorem Sep.fst {A B : Prd} {H0 H : Hp} (h : Sep [A, B] H0 H) : Beh A H0 H := by
  obtain ⟨x, fps, s, n⟩ := h
  match fps, s with
  | f :: fps, s => exact ⟨x, f, n f List.mem_cons_self, s.1⟩
section
variable {P : Program} {w : World} {K : PySem.W.Frag} {mg : Str → Option Value} {base : Heap}
theorem ok_kov {f cL : Addr} {fd : FuncData} (F : Fun K "over" "Look.over" sKOv f fd) (T : ClsN K cL LKK) : FnOk P w K mg base CX0 1 f fd ["self"] (spKOv cL) := by
  refine F.ok scKOv (fun vs H Q E h => ?_) (fun cdv A outer s H vs Q E hr h => ?_)
  · obtain ⟨H0, p, s, rfl, _⟩ := h
    rfl
  · obtain ⟨H0, p, st, rfl, B, q⟩ := h
    refine ⟨_, (pss_one (ps_ret (pe_fld (pv 0) rfl))), ?_⟩
    obtain ⟨dx, r, L⟩ := look_at B
    exact ⟨_, rfl, p, cL, dx, _, _, rfl, L.at_, T.cl, T.no.get (k := "_over") (i := 11) (by decide +kernel), zf_get (k := "_over") (i := 11) (by decide +kernel) rfl, q⟩
theorem ok_kkn {f cL : Addr} {fd : FuncData} (F : Fun K "known" "Look.known" sKKn f fd) (T : ClsN K cL LKK) : FnOk P w K mg base CX0 1 f fd ["self"] (spKKn cL) := by
  refine F.ok scKKn (fun vs H Q E h => ?_) (fun cdv A outer s H vs Q E hr h => ?_)
  · obtain ⟨H0, p, s, rfl, _⟩ := h
    rfl
  · obtain ⟨H0, p, st, rfl, B, q⟩ := h
    refine ⟨_, (pss_one (ps_ret (pe_fld (pv 0) rfl))), ?_⟩
    obtain ⟨dx, r, L⟩ := look_at B
    exact ⟨_, rfl, p, cL, dx, _, _, rfl, L.at_, T.cl, T.no.get (k := "_known") (i := 7) (by decide +kernel), zf_get (k := "_known") (i := 7) (by decide +kernel) rfl, q⟩
theorem ok_kwa {f cL : Addr} {fd : FuncData} (F : Fun K "waiting" "Look.waiting" sKWa f fd) (T : TLk K mg cL) : FnOk P w K mg base CX0 1 f fd ["self"] (spKWa cL) := by
  refine F.ok scKWa (fun vs H Q E h => ?_) (fun cdv A outer s H vs Q E hr h => ?_)
  · obtain ⟨H0, p, s, rfl, _⟩ := h
    rfl
  · obtain ⟨H0, p, st, rfl, B, hl, q⟩ := h
    refine ⟨_, (pss_one (ps_ret (pe_callB call_len_str (by rfl) T.z_len PySem.boot_len (pa_cons (pe_fld (pv 0) rfl) pa_nil)))), ?_⟩
    obtain ⟨dx, r, L⟩ := look_at B
    exact ⟨_, rfl, p, cL, dx, _, _, rfl, L.at_, T.cl, T.no.get (k := "_signs") (i := 6) (by decide +kernel), zf_get (k := "_signs") (i := 6) (by decide +kernel) rfl, _, rfl, Nat.le_trans (Nat.le_of_lt hl) (by decide), q⟩
theorem ok_khd {f cL : Addr} {fd : FuncData} (F : Fun K "_hear_done" "Look._hear_done" sKHd f fd) (T : ClsN K cL LKK) : FnOk P w K mg base CX0 1 f fd ["self", "done"] (spKHd cL) := by
  refine F.ok scKHd (fun vs H Q E h => ?_) (fun cdv A outer s H vs Q E hr h => ?_)
  · obtain ⟨H0, p, s, d, rfl, _⟩ := h
    rfl
  · obtain ⟨H0, p, st, d, rfl, B, hl, q⟩ := h
    refine ⟨_, (pss_one (ps_if (pt_cmpR op_gt (pv 1) (pe_fld (pv 0) rfl) (nomark _)) (pss_cons (ps_fld (pv 0) (pe_slice sl_str (pe_fld (pv 0) rfl) (po_some (pe_op op_sub (pv 1) (pe_fld (pv 0) rfl))) po_none) rfl)
      (pss_one (ps_fld (pv 0) (pv 1) rfl))) pss_nil)), ?_⟩
    obtain ⟨dx, r, L⟩ := look_at B
    have big : st.signs.length ≤ sizeLine := Nat.le_trans (m := 1000000) (by omega) (by decide)
    refine ⟨_, rfl, _, rfl, p, cL, dx, _, _, rfl, L.at_, T.cl, T.no.get (k := "_done") (i := 5) (by decide +kernel), zf_get (k := "_done") (i := 5) (by decide +kernel) rfl, _, _, rfl, rfl, _, rfl, ite2 (fun e => ?_) (fun e => ?_)⟩
    · have e : st.done < d := by have := of_decide_eq_true e; omega
      have ed : ((d : Int) - (st.done : Int)) = ((d - st.done : Nat) : Int) := by omega
      refine ⟨_, rfl, p, cL, dx, _, _, rfl, L.at_, T.cl, T.no.get (k := "_signs") (i := 6) (by decide +kernel), zf_get (k := "_signs") (i := 6) (by decide +kernel) rfl, _, rfl, _, rfl, p, cL, dx, _, _, rfl, L.at_, T.cl, T.no.get (k := "_done") (i := 5) (by decide +kernel), zf_get (k := "_done") (i := 5) (by decide +kernel) rfl, _, _, rfl, rfl, _, rfl, st.signs, rfl, big, _, rfl, p, cL, dx, _, rfl, L.at_, T.cl, T.no.get (k := "_signs") (i := 6) (by decide +kernel), zf_short (by decide), ?_⟩
      rw [zf_put (k := "_signs") (i := 6) (by decide +kernel) (by show 6 < 12; decide)]
      have hp2 := upd_same (H := H) (a := p) (o := .ins cL dx (zf LKK ((st.vals r).set 6 (.str (cutS st.signs (some ((d : Int) - (st.done : Int))) none)))))
      refine ⟨_, rfl, _, rfl, p, cL, dx, _, rfl, hp2, T.cl, T.no.get (k := "_done") (i := 5) (by decide +kernel), zf_short (by decide), ?_⟩
      rw [zf_put (k := "_done") (i := 5) (by decide +kernel) (by show 5 < 12; decide)]
      refine q _ ?_
      unfold Lk.hearDone
      rw [if_pos e, ← ed]
      exact look_mk ⟨ex_set (ex_set L.x L.np) L.np, upd_same, by rw [upd_ne L.pr.symm, upd_ne L.pr.symm]; exact L.rows, L.np, L.nr, L.pr⟩
    · refine q H ?_
      unfold Lk.hearDone
      rw [if_neg (fun k => e (decide_eq_true (by omega)))]
      exact B
theorem ok_khp {f cL : Addr} {fd : FuncData} (F : Fun K "_hear_pane" "Look._hear_pane" sKHp f fd) (T : ClsN K cL LKK) : FnOk P w K mg base CX0 1 f fd ["self", "changes", "line", "rows"] (spKHp cL) := by
  refine F.ok scKHp (fun vs H Q E h => ?_) (fun cdv A outer s H vs Q E hr h => ?_)
  · obtain ⟨H0, p, r, s, ch, line, rows, rfl, _⟩ := h
    rfl
  · obtain ⟨H0, p, r2, st, ch, line, rows, rfl, S, q⟩ := h
    refine ⟨_, (pss_one (ps_if (PW.pt (pw_or (pt_cmpR op_isN (pe_fld (pv 0) rfl) pe_non (nomark _)) (pw_or1 (pt_cmpR op_gt (pv 1) (pe_fld (pv 0) rfl) (nomark _))))) (pss_cons (ps_fld (pv 0) (pv 1) rfl)
      (pss_cons (ps_fld (pv 0) (pv 2) rfl)
      (pss_one (ps_fld (pv 0) (pv 3) rfl)))) pss_nil)), ?_⟩
    have B := S.fst
    obtain ⟨dx, r, L⟩ := look_at B
    have hr2 := S.cell (i := 1) rfl
    have nr2 := S.cell0 (i := 1) rfl
    have pr2 : p ≠ r2 := ne_of L.at_ hr2 (by intro z; cases z)
    have writes : ∀ (Q' : Lk → Prop), Q' { st with known := some ch, line := line, rows := rows } → ∀ k : (∀ H', Beh (lookA cL p { st with known := some ch, line := line, rows := rows }) H0 H' → Q .non H'), tSeq (sFld K (tVar 0) (tVar 1) "_known") (tSeq (sFld K (tVar 0) (tVar 2) "_line") (sFld K (tVar 0) (tVar 3) "_rows")) { nx := fun x H' => Q V.non H', rt := Q } [some (.ref p), some (.int (ch : Nat)), some (.str line), some (.ref r2)] H := fun _ _ k => by
      refine ⟨_, rfl, _, rfl, p, cL, dx, _, rfl, L.at_, T.cl, T.no.get (k := "_known") (i := 7) (by decide +kernel), zf_short (by decide), ?_⟩
      rw [zf_put (k := "_known") (i := 7) (by decide +kernel) (by show 7 < 12; decide)]
      refine ⟨_, rfl, _, rfl, p, cL, dx, _, rfl, upd_same, T.cl, T.no.get (k := "_line") (i := 9) (by decide +kernel), zf_short (by decide), ?_⟩
      rw [zf_put (k := "_line") (i := 9) (by decide +kernel) (by show 9 < 12; decide)]
      refine ⟨_, rfl, _, rfl, p, cL, dx, _, rfl, upd_same, T.cl, T.no.get (k := "_rows") (i := 8) (by decide +kernel), zf_short (by decide), ?_⟩
      rw [zf_put (k := "_rows") (i := 8) (by decide +kernel) (by show 8 < 12; decide)]
      exact k _ (look_mk (dx := dx) (r := r2) ⟨ex_set (ex_set (ex_set L.x L.np) L.np) L.np, upd_same, by rw [upd_ne pr2.symm, upd_ne pr2.symm, upd_ne pr2.symm]; exact hr2, L.np, nr2, pr2⟩)
    cases hk : st.known with
    | none =>
      refine ⟨_, rfl, p, cL, dx, _, _, rfl, L.at_, T.cl, T.no.get (k := "_known") (i := 7) (by decide +kernel), zf_get (k := "_known") (i := 7) (by decide +kernel) rfl, rfl, _, rfl, ite2 (fun e => iteT (writes (fun _ => True) trivial fun H' R => q H' ?_)) (fun e => absurd (decide_eq_true (by rw [hk]; rfl)) e)⟩
      unfold Lk.hearPane
      rw [hk]
      exact R
    | some k =>
      have hkn : numV st.known = .int (k : Nat) := by rw [hk]; rfl
      refine ⟨_, rfl, p, cL, dx, _, _, rfl, L.at_, T.cl, T.no.get (k := "_known") (i := 7) (by decide +kernel), zf_get (k := "_known") (i := 7) (by decide +kernel) rfl, rfl, _, rfl, ite2 (fun e => absurd (of_decide_eq_true e) (by rw [hkn]; intro z; cases z)) (fun e => ?_)⟩
      refine ⟨_, rfl, _, rfl, p, cL, dx, _, _, rfl, L.at_, T.cl, T.no.get (k := "_known") (i := 7) (by decide +kernel), zf_get (k := "_known") (i := 7) (by decide +kernel) rfl, (ch : Int), (k : Int), rfl, hkn, _, rfl, ite2 (fun e2 => writes (fun _ => True) trivial fun H' R => q H' ?_) (fun e2 => q H ?_)⟩
      · have e2 : k < ch := by have := of_decide_eq_true e2; omega
        unfold Lk.hearPane
        rw [hk]
        show Beh (lookA cL p (if k < ch then _ else st)) H0 H'
        rw [if_pos e2]
        exact R
      · have e2 : ¬ k < ch := fun z => e2 (decide_eq_true (by omega))
        unfold Lk.hearPane
        rw [hk]
        show Beh (lookA cL p (if k < ch then _ else st)) H0 H
        rw [if_neg e2]
        exact B
def spKHe (T0 C : Addr) : Sp := fun vs H Q _ => ∃ (H0 : Hp) (p : Addr) (s : Lk) (z : Str), vs = [.ref p, .str z] ∧ Beh (lookA C p s) H0 H ∧ s.signs.length < 1000000 ∧ z.length ≤ 900000 ∧ H0 T0 = some (TabO T0) ∧ ∀ H', Beh (lookA C p (s.hear (readHall z.cps.toList))) H0 H' → Q .non H'
theorem rh_len {l : List Nat} {line : Str} {rows : List Str} {ns : List Nat} (h : readHall l = some (ns, line, rows)) : ns.length = 5 := by
  unfold readHall at h
  split at h
  · rename_i k a b c d e z rows' hu
    by_cases hk : k = "shown"
    · rw [if_pos hk] at h
      cases hn : numsOf 20 [a, b, c, d, e] with
      | none => rw [hn] at h; cases h
      | some ms =>
        rw [hn] at h
        cases h
        exact nums_len hn
    · rw [if_neg hk] at h
      cases h
  · cases h
structure CLok4 (P : Program) (w : World) (K : PySem.W.Frag) (mg : Str → Option Value) (base : Heap) (T0 cL : Addr) : Prop where
  read_hall_letter : Cal P w K mg base "read_hall_letter" 4 ["text"] (spRhl T0)
  hear_done : MCal P w K mg base cL "_hear_done" 1 ["self", "done"] (spKHd cL)
  hear_pane : MCal P w K mg base cL "_hear_pane" 1 ["self", "changes", "line", "rows"] (spKHp cL)
theorem ok_khe {f cL T0 : Addr} {fd : FuncData} (F : Fun K "hear" "Look.hear" sKHe f fd) (T : ClsN K cL LKK) (C : CLok4 P w K mg base T0 cL) : FnOk P w K mg base CX0 5 f fd ["self", "text"] (spKHe T0 cL) := by
  refine F.ok scKHe (fun vs H Q E h => ?_) (fun cdv A outer s H vs Q E hr h => ?_)
  · obtain ⟨H0, p, s, z, rfl, _⟩ := h
    rfl
  · obtain ⟨H0, p, st, z, rfl, B, hl, hz, hT, q⟩ := h
    refine ⟨_, (pss_cons (ps_set (i := 2) scKHe.nd rfl (Or.inl rfl) (pcall C.read_hall_letter (hr.mono (by first | decide | omega)) (pa_cons (pv 1) pa_nil)))
      (pss_cons (ps_if (PW.pt (pw_or (pt_cmpR op_isN (pv 2) pe_non (nomark _)) (pw_or1 (pt_val (pe_fld (pv 0) rfl))))) (pss_one ps_retN) pss_nil)
      (pss_cons (ps_asg (pv 2) (pg_tup rfl (pgs_cons (pg_name (i := 3) scKHe.nd rfl (Or.inl rfl)) (pgs_cons (pg_name (i := 4) scKHe.nd rfl (Or.inl rfl)) (pgs_cons (pg_name (i := 5) scKHe.nd rfl (Or.inl rfl)) (pgs_cons (pg_name (i := 6) scKHe.nd rfl (Or.inl rfl)) (pgs_cons (pg_name (i := 7) scKHe.nd rfl (Or.inl rfl)) (pgs_cons (pg_name (i := 8) scKHe.nd rfl (Or.inl rfl)) (pgs_cons (pg_name (i := 9) scKHe.nd rfl (Or.inl rfl)) pgs_nil)))))))))
      (pss_cons (ps_if (pt_cmpR op_ne (pv 3) (pe_fld (pv 0) rfl) (nomark _)) (pss_one ps_retN) pss_nil)
      (pss_one (ps_if (pt_cmpR op_gt (pv 4) (pe_fld (pv 0) rfl) (nomark _)) (pss_one (ps_fld (pv 0) pe_bl rfl)) (pss_one (ps_if (PW.pt (pw_and (pt_cmpR op_eq (pv 4) (pe_fld (pv 0) rfl) (nomark _)) (pw_and1 (pt_cmpR op_eq (pv 5) (pe_fld (pv 0) rfl) (nomark _))))) (pss_cons (ps_expr (pmeth (pv 0) T.cl C.hear_done (hr.mono (by first | decide | omega)) (pa_cons (pv 6) pa_nil)))
      (pss_one (ps_expr (pmeth (pv 0) T.cl C.hear_pane (hr.mono (by first | decide | omega)) (pa_cons (pv 7) (pa_cons (pv 8) (pa_cons (pv 9) pa_nil))))))) pss_nil)))))))), ?_⟩
    have hT1 := B.1 _ _ hT
    refine ⟨_, rfl, z, rfl, hz, hT1, fun hn H1 e1 => ?_, fun ns line rows hrl t r H1 e1 nt nr hrr ht => ?_⟩
    · refine ⟨_, rfl, rfl, _, rfl, iteT (iteT (q H1 ?_))⟩
      rw [hn]
      exact B.ex (lookT _ _ _) e1
    · have l5 := rh_len hrl
      rw [hrl] at q
      match ns, l5, ht, q with
      | [a, b, c, d, ch], _, ht, q =>
        have B1 := B.ex (lookT _ _ _) e1
        obtain ⟨dx, r0, L⟩ := look_at B1
        have S : Sep [lookA cL p st, cellA r (.lst (rows.map V.str))] H0 H1 := (Sep.one B).snoc (Things.cons (lookT _ _ _) Things.nil) ⟨e1, [r], (fun y hy => by rw [List.mem_singleton.mp hy]; exact nr), rfl, hrr, fun _ z => by cases z⟩
        have un : ∀ {P : Prop} {x : Lk}, st.hear (some ([a, b, c, d, ch], line, rows)) = x → Beh (lookA cL p x) H0 H1 → Q .non H1 := fun e h => q H1 (by rw [e]; exact h)
        have hh : st.hear (some ([a, b, c, d, ch], line, rows)) = if st.over = true ∨ ¬ a = st.name then st else if st.session < b then { st with over := true } else if b = st.session ∧ c = st.pane then (st.hearDone d).hearPane ch line rows else st := rfl
        rw [hh] at q
        refine ⟨_, rfl, rfl, _, rfl, iteF ⟨_, rfl, p, cL, dx, _, _, rfl, L.at_, T.cl, T.no.get (k := "_over") (i := 11) (by decide +kernel), zf_get (k := "_over") (i := 11) (by decide +kernel) rfl, st.over, rfl, ite2 (fun e => ?_) (fun e => ?_)⟩⟩
        · rw [if_pos (.inl e)] at q
          exact q H1 B1
        refine ⟨_, rfl, t, _, rfl, SqT.of ht, rfl, _, _, rfl, _, _, rfl, _, _, rfl, _, _, rfl, _, _, rfl, _, _, rfl, _, _, rfl, rfl, ?_⟩
        refine ⟨_, rfl, _, rfl, p, cL, dx, _, _, rfl, L.at_, T.cl, T.no.get (k := "name") (i := 0) (by decide +kernel), zf_get (k := "name") (i := 0) (by decide +kernel) rfl, rfl, _, rfl, ite2 (fun e2 => ?_) (fun e2 => ?_)⟩
        · have e2 : ¬ a = st.name := fun k => by rw [k] at e2; exact absurd e2 (by simp)
          rw [if_pos (.inr e2)] at q
          exact q H1 B1
        have e2 : a = st.name := by
          by_cases k : a = st.name
          · exact k
          · exact absurd (by simp; omega) e2
        rw [if_neg (fun k => k.elim e fun k => k e2)] at q
        refine ⟨_, rfl, _, rfl, p, cL, dx, _, _, rfl, L.at_, T.cl, T.no.get (k := "session") (i := 1) (by decide +kernel), zf_get (k := "session") (i := 1) (by decide +kernel) rfl, _, _, rfl, rfl, _, rfl, ite2 (fun e3 => ?_) (fun e3 => ?_)⟩
        · have e3 : st.session < b := by have := of_decide_eq_true e3; omega
          rw [if_pos e3] at q
          refine ⟨_, rfl, p, cL, dx, _, rfl, L.at_, T.cl, T.no.get (k := "_over") (i := 11) (by decide +kernel), zf_short (by decide), ?_⟩
          rw [zf_put (k := "_over") (i := 11) (by decide +kernel) (by show 11 < 12; decide)]
          exact q _ (look_mk ⟨ex_set L.x L.np, upd_same, by rw [upd_ne L.pr.symm]; exact L.rows, L.np, L.nr, L.pr⟩)
        rw [if_neg (fun k => e3 (decide_eq_true (by omega)))] at q
        have no : ¬ (b = st.session ∧ c = st.pane) → Q .non H1 := fun k => by
          rw [if_neg k] at q
          exact q H1 B1
        refine ⟨_, rfl, _, rfl, p, cL, dx, _, _, rfl, L.at_, T.cl, T.no.get (k := "session") (i := 1) (by decide +kernel), zf_get (k := "session") (i := 1) (by decide +kernel) rfl, rfl, _, rfl, ite2 (fun e4 => ?_) (fun e4 => no fun k => e4 (decide_eq_true (by rw [k.1])))⟩
        refine ⟨_, rfl, _, rfl, p, cL, dx, _, _, rfl, L.at_, T.cl, T.no.get (k := "pane") (i := 2) (by decide +kernel), zf_get (k := "pane") (i := 2) (by decide +kernel) rfl, rfl, _, rfl, ite2 (fun e5 => ?_) (fun e5 => no fun k => e5 (decide_eq_true (by rw [k.2])))⟩
        have e4 : b = st.session := by
          have := V.int.inj (of_decide_eq_true e4)
          omega
        have e5 : c = st.pane := by
          have := V.int.inj (of_decide_eq_true e5)
          omega
        rw [if_pos ⟨e4, e5⟩] at q
        obtain ⟨Hs, xs, bs, backs⟩ := S.focus (Things.cons (lookT _ _ _) (Things.cons (cellT _ _) Things.nil)) (i := 0) rfl
        refine ⟨_, rfl, p, dx, _, rfl, L.at_, zf_no (k := "_hear_done") (by decide +kernel), _, rfl, Hs, p, st, d, rfl, bs, hl, fun H2 R2 => ?_⟩
        have S2 : Sep [lookA cL p (st.hearDone d), cellA r (.lst (rows.map V.str))] H0 H2 := backs _ _ R2
        obtain ⟨dx2, r2, L2⟩ := look_at S2.fst
        exact ⟨_, rfl, p, dx2, _, rfl, L2.at_, zf_no (k := "_hear_pane") (by decide +kernel), _, rfl, _, rfl, _, rfl, H0, p, r, _, ch, line, rows, rfl, S2, fun H3 R3 => q H3 R3⟩
def spKPr (C : Addr) : Sp := fun vs H Q _ => ∃ (H0 : Hp) (p : Addr) (s : Lk) (z : Str), vs = [.ref p, .str z] ∧ Beh (lookA C p s) H0 H ∧ s.left = false ∧ s.over = false ∧ (∀ c ∈ z.cps.toList, isK c = true) ∧ s.signs.length + z.length < 1000000 ∧ ∀ H', Beh (lookA C p { s with signs := s.signs ++ z }) H0 H' → Q .non H'
theorem ok_kpr {f cL : Addr} {fd : FuncData} (F : Fun K "press" "Look.press" sKPr f fd) (T : ClsN K cL LKK) (C : CWrp P w K mg base) : FnOk P w K mg base CX0 2 f fd ["self", "signs"] (spKPr cL) := by
  refine F.ok scKPr (fun vs H Q E h => ?_) (fun cdv A outer s H vs Q E hr h => ?_)
  · obtain ⟨H0, p, s, z, rfl, _⟩ := h
    rfl
  · obtain ⟨H0, p, st, z, rfl, B, h1, h2, h3, h4, q⟩ := h
    refine ⟨_, (pss_cons (ps_if (PW.pt (pw_or (pt_val (pe_fld (pv 0) rfl)) (pw_or1 (pt_val (pe_fld (pv 0) rfl))))) pss_never pss_nil)
      (pss_cons (ps_set (i := 2) scKPr.nd rfl (Or.inl rfl) (pcall C.wrong_place (hr.mono (by first | decide | omega)) (pa_cons (pv 1) pa_nil)))
      (pss_cons (ps_if (pt_cmpR op_notN (pv 2) pe_non (nomark _)) pss_never pss_nil)
      (pss_one (ps_fldaug (pv 0) (pv 1) in_addS))))), ?_⟩
    obtain ⟨dx, r, L⟩ := look_at B
    refine ⟨_, rfl, p, cL, dx, _, _, rfl, L.at_, T.cl, T.no.get (k := "_left") (i := 10) (by decide +kernel), zf_get (k := "_left") (i := 10) (by decide +kernel) rfl, st.left, rfl, ite2 (fun e => absurd (h1.symm.trans e) (by decide)) (fun _ => ?_)⟩
    refine ⟨_, rfl, p, cL, dx, _, _, rfl, L.at_, T.cl, T.no.get (k := "_over") (i := 11) (by decide +kernel), zf_get (k := "_over") (i := 11) (by decide +kernel) rfl, st.over, rfl, ite2 (fun e => absurd (h2.symm.trans e) (by decide)) (fun _ => ?_)⟩
    refine ⟨_, rfl, z, rfl, fun H1 e1 => ?_⟩
    rw [wrong_none h3]
    refine ⟨_, rfl, rfl, _, rfl, iteF ?_⟩
    have B1 := B.ex (lookT _ _ _) e1
    obtain ⟨dx1, r1, L1⟩ := look_at B1
    refine ⟨_, rfl, p, cL, dx1, _, _, rfl, L1.at_, T.cl, T.no.get (k := "_signs") (i := 6) (by decide +kernel), zf_get (k := "_signs") (i := 6) (by decide +kernel) rfl, _, rfl, _, _, rfl, rfl, Nat.le_trans (Nat.le_of_lt h4) (by decide), ?_⟩
    refine ⟨dx1, _, L1.at_, zf_short (by decide), ?_⟩
    rw [zf_put (k := "_signs") (i := 6) (by decide +kernel) (by show 6 < 12; decide)]
    exact q _ (look_mk ⟨ex_set L1.x L1.np, upd_same, by rw [upd_ne L1.pr.symm]; exact L1.rows, L1.np, L1.nr, L1.pr⟩)
end
end Vf
namespace Vf
open PySem PySem.Spec PyProof.Rows L2 Evl GxR
/-! ### a look's size, and what it shows -/
abbrev sKRe : Stmt := inClass (topS 60) 2
theorem scKRe : FnScope ["self", "wide", "high"] ["self", "wide", "high"] (defScope sKRe) := ⟨rfl, rfl, rfl, by decide +kernel, rfl, by decide +kernel, by decide +kernel⟩
abbrev sKPi : Stmt := inClass (topS 60) 6
theorem scKPi : FnScope ["self"] ["self"] (defScope sKPi) := ⟨rfl, rfl, rfl, by decide +kernel, rfl, by decide +kernel, by decide +kernel⟩
def Lk.picture (s : Lk) : List Str := match s.known with
  | none => []
  | some _ => Vf.picture s.rows s.line s.wide s.high
def Lk.through (s : Lk) (ch : Nat) : Bool := decide (s.known = some ch) && decide (s.signs.length = 0)
def spKRe (C : Addr) : Sp := fun vs H Q _ => ∃ (H0 : Hp) (p : Addr) (s : Lk) (wd hg : Nat), vs = [.ref p, .int wd, .int hg] ∧ Beh (lookA C p s) H0 H ∧ SizeOk wd hg ∧ ∀ H', Beh (lookA C p { s with wide := wd, high := hg }) H0 H' → Q .non H'
def spKPi (C : Addr) : Sp := fun vs H Q _ => ∃ (H0 : Hp) (p : Addr) (s : Lk), vs = [.ref p] ∧ Beh (lookA C p s) H0 H ∧ LOk s ∧ ∀ q H', Ex H H' → H q = none → H' q = some (.lst (s.picture.map V.str)) → Q (.ref q) H'
section
variable {P : Program} {w : World} {K : PySem.W.Frag} {mg : Str → Option Value} {base : Heap}
structure CLok5 (P : Program) (w : World) (K : PySem.W.Frag) (mg : Str → Option Value) (base : Heap) : Prop where
  check_size : Cal P w K mg base "check_size" 3 ["wide", "high"] spChk
structure CLok6 (P : Program) (w : World) (K : PySem.W.Frag) (mg : Str → Option Value) (base : Heap) : Prop where
  view : Cal P w K mg base "view" 4 ["rows", "line", "wide", "high"] (spVie K)
theorem ok_kpi {f cL : Addr} {fd : FuncData} (F : Fun K "picture" "Look.picture" sKPi f fd) (T : ClsN K cL LKK) (C : CLok6 P w K mg base) : FnOk P w K mg base CX0 5 f fd ["self"] (spKPi cL) := by
  refine F.ok scKPi (fun vs H Q E h => ?_) (fun cdv A outer s H vs Q E hr h => ?_)
  · obtain ⟨H0, p, s, rfl, _⟩ := h
    rfl
  · obtain ⟨H0, p, st, rfl, B, O, q⟩ := h
    refine ⟨_, (pss_cons (ps_if (pt_cmpR op_isN (pe_fld (pv 0) rfl) pe_non (nomark _)) (pss_one (ps_ret (pe_lst pa_nil))) pss_nil)
      (pss_one (ps_ret (pcall C.view (hr.mono (by first | decide | omega)) (pa_cons (pe_fld (pv 0) rfl) (pa_cons (pe_fld (pv 0) rfl) (pa_cons (pe_fld (pv 0) rfl) (pa_cons (pe_fld (pv 0) rfl) pa_nil)))))))), ?_⟩
    obtain ⟨dx, r, L⟩ := look_at B
    unfold Lk.picture at q
    cases hk : st.known with
    | none =>
      rw [hk] at q
      refine ⟨_, rfl, p, cL, dx, _, _, rfl, L.at_, T.cl, T.no.get (k := "_known") (i := 7) (by decide +kernel), zf_get (k := "_known") (i := 7) (by decide +kernel) rfl, rfl, _, rfl, ite2 (fun e => ⟨Nat.zero_le _, fun l nl => q l _ (Ex.new nl) nl upd_same⟩) (fun e => absurd (decide_eq_true (by rw [hk]; rfl)) e)⟩
    | some k =>
      have hkn : numV st.known = .int (k : Nat) := by rw [hk]; rfl
      rw [hk] at q
      obtain ⟨z1, z2, z3, z4⟩ := O.size
      refine ⟨_, rfl, p, cL, dx, _, _, rfl, L.at_, T.cl, T.no.get (k := "_known") (i := 7) (by decide +kernel), zf_get (k := "_known") (i := 7) (by decide +kernel) rfl, rfl, _, rfl, ite2 (fun e => absurd (of_decide_eq_true e) (by rw [hkn]; intro z; cases z)) (fun e => ?_)⟩
      have h40 := O.rows
      exact ⟨_, rfl, p, cL, dx, _, _, rfl, L.at_, T.cl, T.no.get (k := "_rows") (i := 8) (by decide +kernel), zf_get (k := "_rows") (i := 8) (by decide +kernel) rfl, _, rfl, p, cL, dx, _, _, rfl, L.at_, T.cl, T.no.get (k := "_line") (i := 9) (by decide +kernel), zf_get (k := "_line") (i := 9) (by decide +kernel) rfl, _, rfl, p, cL, dx, _, _, rfl, L.at_, T.cl, T.no.get (k := "_wide") (i := 3) (by decide +kernel), zf_get (k := "_wide") (i := 3) (by decide +kernel) rfl, _, rfl, p, cL, dx, _, _, rfl, L.at_, T.cl, T.no.get (k := "_high") (i := 4) (by decide +kernel), zf_get (k := "_high") (i := 4) (by decide +kernel) rfl, r, st.rows, st.line, st.wide, st.high, rfl, SqL.of L.rows, by omega, fun z hz => (O.rok z hz).1, O.line.1, z1, z2, z3, z4, fun q1 H1 e1 n1 h1 => q q1 H1 e1 n1 h1⟩
/-- what a look that hears keeps -/
theorem LOk.size_ {s : Lk} (O : LOk s) {wd hg : Nat} (h : SizeOk wd hg) : LOk { s with wide := wd, high := hg } := ⟨O.look, h, O.signs, O.len, O.rows, O.rok, O.line⟩
theorem LOk.left_ {s : Lk} (O : LOk s) : LOk { s with left := true } := ⟨O.look, O.size, O.signs, O.len, O.rows, O.rok, O.line⟩
theorem LOk.over_ {s : Lk} (O : LOk s) : LOk { s with over := true } := ⟨O.look, O.size, O.signs, O.len, O.rows, O.rok, O.line⟩
theorem LOk.hearPane {s : Lk} (O : LOk s) {ch : Nat} {line : Str} {rows : List Str} (h1 : rows.length ≤ 40) (h2 : ∀ r ∈ rows, FldOk r) (h3 : FldOk line) : LOk (s.hearPane ch line rows) := by
  have new : LOk { s with known := some ch, line := line, rows := rows } := ⟨O.look, O.size, O.signs, O.len, h1, h2, h3⟩
  unfold Lk.hearPane
  cases s.known with
  | none => exact new
  | some k =>
    show LOk (if k < ch then _ else s)
    by_cases h : k < ch
    · rw [if_pos h]; exact new
    · rw [if_neg h]; exact O
end
end Vf
namespace Vf
open PySem PySem.Spec PyProof.Rows L2 Evl GxR
/-! ### halls -/
abbrev sSIn : Stmt := inClass (topS 62) 0
theorem scSIn : FnScope ["self", "session", "pane"] ["self", "session", "pane"] (defScope sSIn) := ⟨rfl, rfl, rfl, by decide +kernel, rfl, by decide +kernel, by decide +kernel⟩
abbrev sHIn : Stmt := inClass (topS 63) 0
theorem scHIn : FnScope ["self", "many", "_"] ["self", "many"] (defScope sHIn) := ⟨rfl, rfl, rfl, by decide +kernel, rfl, by decide +kernel, by decide +kernel⟩
def SKK : List Str := ["session", "pane", "done", "left"]
def HKK : List Str := ["_panes", "_seats"]
structure Sst where
  session : Nat
  pane : Nat
  done : Nat
  left : Bool
def Sst.vals (s : Sst) : List V := [.int s.session, .int s.pane, .int s.done, .bl s.left]
structure Hl where
  panes : List Pn
  seats : List (Nat × Sst)
/-- the classes' places -/
structure HCl where
  P : Addr
  S : Addr
  H : Addr
/-- a hall with all its places -/
structure HC where
  dx : Addr
  pl : Addr
  sd : Addr
  pn : List (Addr × Pn)
  se : List (Nat × Sst × Addr × Addr)
def HC.abs (c : HC) : Hl := ⟨c.pn.map (·.2), c.se.map fun x => (x.1, x.2.1)⟩
def seatA (C : HCl) (x : Nat × Sst × Addr × Addr) : Prd := cellA x.2.2.1 (.ins C.S x.2.2.2 (zf SKK x.2.1.vals))
def paneP (C : HCl) (x : Addr × Pn) : Prd := panA C.P x.1 x.2
def seatKV (se : List (Nat × Sst × Addr × Addr)) : List (Key × V) := se.map fun x => (.inl (x.1 : Nat), .ref x.2.2.1)
def paneV (pn : List (Addr × Pn)) : List V := pn.map fun x => .ref x.1
def panesB (C : HCl) (pl : Addr) (pn : List (Addr × Pn)) : List Prd := [cellA pl (.lst (paneV pn)), packA (pn.map (paneP C))]
def hallB (C : HCl) (p : Addr) (c : HC) : List Prd :=
  [packA (c.se.map (seatA C)), cellA c.sd (.dK (seatKV c.se)), packA (panesB C c.pl c.pn), cellA p (.ins C.H c.dx (zf HKK [.ref c.pl, .ref c.sd]))]
def hallA (C : HCl) (p : Addr) (h : Hl) : Prd := fun fp H => ∃ c : HC, c.abs = h ∧ packA (hallB C p c) fp H
theorem seatsT (C : HCl) (se : List (Nat × Sst × Addr × Addr)) : Things (se.map (seatA C)) := fun A hA => by
  obtain ⟨x, _, rfl⟩ := List.mem_map.mp hA
  exact cellT _ _
theorem panesT (C : HCl) (pn : List (Addr × Pn)) : Things (pn.map (paneP C)) := fun A hA => by
  obtain ⟨x, _, rfl⟩ := List.mem_map.mp hA
  exact panT _ _ _
theorem panesBT (C : HCl) (pl : Addr) (pn : List (Addr × Pn)) : Things (panesB C pl pn) := Things.cons (cellT _ _) (Things.cons (packT (panesT C pn)) Things.nil)
theorem hallBT (C : HCl) (p : Addr) (c : HC) : Things (hallB C p c) := Things.cons (packT (seatsT C _)) (Things.cons (cellT _ _) (Things.cons (packT (panesBT C _ _)) (Things.cons (cellT _ _) Things.nil)))
theorem hallT (C : HCl) (p : Addr) (h : Hl) : Thing (hallA C p h) :=
  ⟨fun fp H H' ⟨c, e, x⟩ te k => ⟨c, e, (packT (hallBT C p c)).stay _ _ _ x te k⟩, fun fp H ⟨c, _, x⟩ => (packT (hallBT C p c)).at_ _ _ x⟩
theorem hall_beh {C : HCl} {p : Addr} {h : Hl} {H0 H : Hp} : Beh (hallA C p h) H0 H ↔ ∃ c : HC, c.abs = h ∧ Sep (hallB C p c) H0 H := by
  constructor
  · rintro ⟨x, fp, n, c, e, k⟩
    exact ⟨c, e, sep_beh.mpr ⟨x, fp, n, k⟩⟩
  · rintro ⟨c, e, k⟩
    obtain ⟨x, fp, n, k⟩ := sep_beh.mp k
    exact ⟨x, fp, n, c, e, k⟩
section
variable {C : HCl} {p : Addr} {c : HC} {H0 H : Hp}
theorem hall_p (h : Sep (hallB C p c) H0 H) : H p = some (.ins C.H c.dx (zf HKK [.ref c.pl, .ref c.sd])) := h.cell (i := 3) rfl
theorem hall_sd (h : Sep (hallB C p c) H0 H) : H c.sd = some (.dK (seatKV c.se)) := h.cell (i := 1) rfl
theorem hall_pl (h : Sep (hallB C p c) H0 H) : H c.pl = some (.lst (paneV c.pn)) := by
  obtain ⟨H1, x, b, _⟩ := h.focus (hallBT C p c) (i := 2) rfl
  exact (sep_beh.mpr b).cell (i := 0) rfl
theorem map_get {α β : Type} {f : α → β} {xs : List α} {i : Nat} {x : α} (h : xs[i]? = some x) : (xs.map f)[i]? = some (f x) := by
  rw [List.getElem?_map, h]
  rfl
theorem hall_seat (h : Sep (hallB C p c) H0 H) {i : Nat} {x : Nat × Sst × Addr × Addr} (e : c.se[i]? = some x) : H x.2.2.1 = some (.ins C.S x.2.2.2 (zf SKK x.2.1.vals)) := by
  obtain ⟨H1, y, b, _⟩ := h.focus (hallBT C p c) (i := 0) rfl
  exact (sep_beh.mpr b).cell (i := i) (map_get e)
theorem set_map_same {α β : Type} {f : α → β} : ∀ {xs : List α} {i : Nat} {x y : α}, xs[i]? = some x → f y = f x → (xs.set i y).map f = xs.map f
  | a :: xs, 0, x, y, h, e => by
    cases h
    show f y :: xs.map f = _
    rw [e]
    rfl
  | a :: xs, i + 1, x, y, h, e => by
    show f a :: (xs.set i y).map f = f a :: xs.map f
    rw [set_map_same (xs := xs) (i := i) h e]
  | [], _, _, _, h, _ => by cases h
theorem hall_seat_put (h : Sep (hallB C p c) H0 H) {i : Nat} {x : Nat × Sst × Addr × Addr} (e : c.se[i]? = some x) (st : Sst) :
    Sep (hallB C p { c with se := c.se.set i (x.1, st, x.2.2) }) H0 (upd H x.2.2.1 (.ins C.S x.2.2.2 (zf SKK st.vals))) := by
  obtain ⟨H1, y, b, back⟩ := h.focus (hallBT C p c) (i := 0) rfl
  have b2 := (sep_beh.mpr b).write (seatsT C c.se) (i := i) (o' := .ins C.S x.2.2.2 (zf SKK st.vals)) (map_get e) (fun _ z => by cases z)
  have b3 : Sep ((c.se.set i (x.1, st, x.2.2)).map (seatA C)) H1 (upd H x.2.2.1 (.ins C.S x.2.2.2 (zf SKK st.vals))) := by
    rw [List.map_set]
    exact b2
  have b4 := back _ _ (sep_beh.mp b3)
  have e2 : seatKV (c.se.set i (x.1, st, x.2.2)) = seatKV c.se := set_map_same e rfl
  unfold hallB
  show Sep [packA ((c.se.set i (x.1, st, x.2.2)).map (seatA C)), cellA c.sd (.dK (seatKV (c.se.set i (x.1, st, x.2.2)))), packA (panesB C c.pl c.pn), cellA p (.ins C.H c.dx (zf HKK [.ref c.pl, .ref c.sd]))] _ _
  rw [e2]
  exact b4
theorem hall_pane (h : Sep (hallB C p c) H0 H) {i : Nat} {x : Addr × Pn} (e : c.pn[i]? = some x) : ∃ H1, Ex H0 H1 ∧ Pan C.P H1 H x.1 x.2 ∧ ∀ H' s', Pan C.P H1 H' x.1 s' → Sep (hallB C p { c with pn := c.pn.set i (x.1, s') }) H0 H' := by
  obtain ⟨H1, y1, b1, back1⟩ := h.focus (hallBT C p c) (i := 2) rfl
  obtain ⟨H2, y2, b2, back2⟩ := (sep_beh.mpr b1).focus (panesBT C c.pl c.pn) (i := 1) rfl
  obtain ⟨H3, y3, b3, back3⟩ := (sep_beh.mpr b2).focus (panesT C c.pn) (i := i) (map_get e)
  refine ⟨H3, (y1.trans y2).trans y3, pan_beh.mpr b3, fun H' s' k => ?_⟩
  have k3 := back3 _ _ (pan_beh.mp k)
  have k3b : Sep ((c.pn.set i (x.1, s')).map (paneP C)) H2 H' := by
    rw [List.map_set]
    exact k3
  have k2 := back2 _ _ (sep_beh.mp k3b)
  have e2 : paneV (c.pn.set i (x.1, s')) = paneV c.pn := set_map_same e rfl
  have k2b : Sep (panesB C c.pl (c.pn.set i (x.1, s'))) H1 H' := by
    unfold panesB
    rw [e2]
    exact k2
  exact back1 _ _ (sep_beh.mp k2b)
end
/-! ### made -/
structure THal (mg : Str → Option Value) : Prop where
  z_range : mg "range" = none
  mg_MOST_PANES : ∃ t, mg "MOST_PANES" = some (.int 3 t)
def Hl.new (n : Nat) : Hl := ⟨List.replicate n Pn.new, []⟩
def spSIn (C : Addr) : Sp := fun vs H Q _ => ∃ (p dx : Addr) (a b : Nat), vs = [.ref p, .int a, .int b] ∧ H p = some (.ins C dx []) ∧ ∀ H', H' p = some (.ins C dx (zf SKK (Sst.vals ⟨a, b, 0, false⟩))) → (∀ q, q ≠ p → H' q = H q) → Q .non H'
def spHIn (C : HCl) : Sp := fun vs H Q _ => ∃ (H0 : Hp) (p dx : Addr) (n : Nat), vs = [.ref p, .int n] ∧ Ex H0 H ∧ H0 p = none ∧ H p = some (.ins C.H dx []) ∧ 1 ≤ n ∧ n ≤ 3 ∧ ∀ H', Beh (hallA C p (Hl.new n)) H0 H' → Q .non H'
section
variable {P : Program} {w : World} {K : PySem.W.Frag} {mg : Str → Option Value} {base : Heap}
theorem ok_sin {f cS : Addr} {fd : FuncData} (F : Fun K "__init__" "Seat.__init__" sSIn f fd) (T : ClsN K cS SKK) : FnOk P w K mg base CX0 1 f fd ["self", "session", "pane"] (spSIn cS) := by
  refine F.ok scSIn (fun vs H Q E h => ?_) (fun cdv A outer s H vs Q E hr h => ?_)
  · obtain ⟨p, dx, a, b, rfl, _⟩ := h
    rfl
  · obtain ⟨p, dx, a, b, rfl, hp, q⟩ := h
    refine ⟨_, (pss_cons (ps_fld (pv 0) (pv 1) rfl)
      (pss_cons (ps_fld (pv 0) (pv 2) rfl)
      (pss_cons (ps_fld (pv 0) pe_int rfl)
      (pss_one (ps_fld (pv 0) pe_bl rfl))))), ?_⟩
    refine ⟨_, rfl, _, rfl, p, cS, dx, _, rfl, hp, T.cl, T.no.get (k := "session") (i := 0) (by decide +kernel), (by show 0 < 1000; decide), ?_⟩
    refine ⟨_, rfl, _, rfl, p, cS, dx, _, rfl, upd_same, T.cl, T.no.get (k := "pane") (i := 1) (by decide +kernel), Nat.lt_of_le_of_lt (putF_len (Nat.zero_le 0)) (by decide), ?_⟩
    refine ⟨_, rfl, p, cS, dx, _, rfl, upd_same, T.cl, T.no.get (k := "done") (i := 2) (by decide +kernel), Nat.lt_of_le_of_lt (putF_len (putF_len (Nat.zero_le 0))) (by decide), ?_⟩
    refine ⟨_, rfl, p, cS, dx, _, rfl, upd_same, T.cl, T.no.get (k := "left") (i := 3) (by decide +kernel), Nat.lt_of_le_of_lt (putF_len (putF_len (putF_len (Nat.zero_le 0)))) (by decide), ?_⟩
    have e1 := zf_add (k := "session") (v := V.int (a : Nat)) (keys := []) (vals := []) (by decide +kernel) rfl
    have e2 := zf_add (k := "pane") (v := V.int (b : Nat)) (keys := ["session"]) (vals := [V.int (a : Nat)]) (by decide +kernel) rfl
    have e3 := zf_add (k := "done") (v := V.int 0) (keys := ["session", "pane"]) (vals := [V.int (a : Nat), V.int (b : Nat)]) (by decide +kernel) rfl
    have e4 := zf_add (k := "left") (v := V.bl false) (keys := ["session", "pane", "done"]) (vals := [V.int (a : Nat), V.int (b : Nat), V.int 0]) (by decide +kernel) rfl
    refine q _ ?_ fun q hq => by rw [upd_ne hq, upd_ne hq, upd_ne hq, upd_ne hq]
    rw [upd_same]
    have e5 : putF "left" (V.bl false) (putF "done" (V.int 0) (putF "pane" (V.int (b : Nat)) (putF "session" (V.int (a : Nat)) []))) = zf SKK (Sst.vals ⟨a, b, 0, false⟩) := by
      have e1' : putF "session" (V.int (a : Nat)) [] = zf ["session"] [V.int (a : Nat)] := e1
      rw [e1', e2]
      show putF "left" (V.bl false) (putF "done" (V.int 0) (zf ["session", "pane"] [V.int (a : Nat), V.int (b : Nat)])) = _
      rw [e3]
      show putF "left" (V.bl false) (zf ["session", "pane", "done"] [V.int (a : Nat), V.int (b : Nat), V.int 0]) = _
      rw [e4]
      rfl
    rw [e5]
structure CHal1 (P : Program) (w : World) (K : PySem.W.Frag) (mg : Str → Option Value) (base : Heap) (C : HCl) : Prop where
  mk_Pane : NCal P w K mg base C.P "Pane" 1 ["self"] (spIn C.P)
  is_within : Cal P w K mg base "is_within" 2 ["number", "least", "most"] spWit
theorem ok_hin {f : Addr} {fd : FuncData} {cs : HCl} (F : Fun K "__init__" "Hall.__init__" sHIn f fd) (T' : THal mg) (TC : ClsN K cs.H HKK) (C : CHal1 P w K mg base cs) : FnOk P w K mg base CX0 3 f fd ["self", "many"] (spHIn cs) := by
  have T := T'
  refine F.ok scHIn (fun vs H Q E h => ?_) (fun cdv A outer s H vs Q E hr h => ?_)
  · obtain ⟨H0, p, dx, n, rfl, _⟩ := h
    rfl
  · obtain ⟨H0, p, dx, n, rfl, x0, np, hp, n1, n3, q⟩ := h
    refine ⟨_, (pss_cons (ps_if (pt_not (pt_val (pcall C.is_within (hr.mono (by first | decide | omega)) (pa_cons (pv 1) (pa_cons pe_int (pa_cons (pgI T.mg_MOST_PANES) pa_nil)))))) pss_never pss_nil)
      (pss_cons (ps_fld (pv 0) (pe_lc (own := [("_", 2)]) (g := gName 2) (tt := tYes) rfl scHIn.nd (pi_range1 rfl T.z_range (pa_cons (pv 1) pa_nil)) (blkOk_by (own := [("_", 2)]) (N := ["self", "many", "_"]) (sc := defScope sHIn) (by decide +kernel)) (fun _ _ _ _ _ => pg_name (i := 2) scHIn.nd rfl (Or.inl rfl)) (fun _ _ _ _ _ => pts_nil) (fun _ _ _ _ _ => (pmake0 C.mk_Pane (hr.mono (by first | decide | omega))))) rfl)
      (pss_one (ps_fld (pv 0) pe_dnewK rfl)))), ?_⟩
    refine ⟨_, rfl, _, _, _, rfl, .inl ⟨_, rfl, _, rfl, ite2 (fun e => absurd e (wit_no (by omega))) fun _ => ?_⟩⟩
    refine ⟨_, rfl, n, rfl, by omega, by omega, fun D nD => ?_⟩
    refine lc_it walk_range (fun i H' => ∃ pn : List (Addr × Pn), pn.map (·.2) = List.replicate i Pn.new ∧ Sep (panesB cs D pn) H H') ⟨[], rfl, ?_⟩ (fun _ _ _ _ => trivial) ?_ ?_
    · exact Sep.cons (Things.cons (packT Things.nil) Things.nil) (Sep.one pack_nil) (cell_new nD (fun _ z => by cases z))
    · rintro i x H1 H2 hi ⟨pn, e, S⟩ ⟨rfl, rfl⟩
      refine ⟨rfl, yes_lc ?_⟩
      intro y dy ny ndy ne
      have x1 : Ex H2 (upd (upd H2 dy (.own y)) y (.ins cs.P dy [])) := (Ex.new ndy).trans (Ex.new (by rw [upd_ne ne.symm]; exact ny))
      refine ⟨H2, y, dy, rfl, x1, ny, upd_same, fun H3 R => ⟨rfl, ?_⟩⟩
      have S3 := S.into (panesBT cs D pn) (panesT cs pn) (i := 1) rfl (pan_beh.mp R)
      have hl : pn.length = i := by
        have := congrArg List.length e
        rw [List.length_map, List.length_replicate] at this
        exact this
      refine ⟨_, S3.cell (i := 0) rfl, ?_, pn ++ [(y, Pn.new)], ?_, ?_⟩
      · unfold paneV
        rw [List.length_map, hl]
        exact Nat.lt_of_lt_of_le hi (Nat.le_trans (m := 2000) (by omega) (by decide))
      · rw [List.map_append, e, List.replicate_succ']
        rfl
      · have S4 := S3.write (Things.set (packT (fun A hA => by
          rcases List.mem_append.mp hA with hA | hA
          · exact panesT cs pn A hA
          · rw [List.mem_singleton.mp hA]; exact panT _ _ _)) (panesBT cs D pn)) (i := 0) (o' := .lst (paneV pn ++ [.ref y])) rfl (fun _ z => by cases z)
        unfold panesB
        rw [show paneV (pn ++ [(y, Pn.new)]) = paneV pn ++ [.ref y] by unfold paneV; rw [List.map_append]; rfl, List.map_append]
        exact S4
    · rintro H1 ⟨pn, e, S⟩
      have hp1 := S.base _ _ hp
      have c1 : Sep [packA (panesB cs D pn), cellA p (.ins cs.H dx [])] H0 H1 := Sep.cons (Things.cons (cellT _ _) Things.nil) (Sep.one ⟨x0, [p], (fun a ha => by rw [List.mem_singleton.mp ha]; exact np), rfl, hp, (fun _ z => by cases z)⟩) (sep_beh.mp S)
      have tt : ∀ o, Things [packA (panesB cs D pn), cellA p o] := fun o => Things.cons (packT (panesBT cs D pn)) (Things.cons (cellT _ _) Things.nil)
      refine ⟨_, rfl, p, cs.H, dx, _, rfl, hp1, TC.cl, TC.no.get (k := "_panes") (i := 0) (by decide +kernel), (by show 0 < 1000; decide), ?_⟩
      have c2 := c1.write (tt _) (i := 1) (o' := .ins cs.H dx (putF "_panes" (.ref D) [])) rfl (fun _ z => by cases z)
      generalize upd H1 p (.ins cs.H dx (putF "_panes" (.ref D) [])) = H2 at c2 ⊢
      intro d nd
      have c3 := Sep.cons (tt _) c2 (cell_new (o := .dK []) nd (fun _ z => by cases z))
      have tt2 : ∀ o o', Things [cellA d o', packA (panesB cs D pn), cellA p o] := fun o o' => Things.cons (cellT _ _) (tt o)
      have hp3 := c3.cell (i := 2) rfl
      generalize upd H2 d (.dK []) = H3 at c3 hp3 ⊢
      refine ⟨_, rfl, p, cs.H, dx, _, rfl, hp3, TC.cl, TC.no.get (k := "_seats") (i := 1) (by decide +kernel), Nat.lt_of_le_of_lt (putF_len (Nat.zero_le 0)) (by decide), ?_⟩
      have c4 := c3.write (tt2 _ _) (i := 2) (o' := .ins cs.H dx (putF "_seats" (.ref d) (putF "_panes" (.ref D) []))) rfl (fun _ z => by cases z)
      have ez : putF "_seats" (.ref d) (putF "_panes" (.ref D) []) = zf HKK [.ref D, .ref d] := by
        have e1 := zf_add (k := "_panes") (v := V.ref D) (keys := []) (vals := []) (by decide +kernel) rfl
        have e2 := zf_add (k := "_seats") (v := V.ref d) (keys := ["_panes"]) (vals := [V.ref D]) (by decide +kernel) rfl
        have e1' : putF "_panes" (V.ref D) [] = zf ["_panes"] [V.ref D] := e1
        rw [e1', e2]
        rfl
      rw [ez] at c4 ⊢
      have c5 := Sep.cons (tt2 _ _) c4 (pack_nil)
      refine q _ (hall_beh.mpr ⟨⟨dx, D, d, pn, []⟩, ?_, c5⟩)
      show (⟨pn.map (·.2), []⟩ : Hl) = _
      rw [e]
      rfl
end
end Vf
namespace Vf
open PySem PySem.Spec PyProof.Rows L2 Evl GxR
/-! ### the seat of a letter's look -/
abbrev sHSe : Stmt := inClass (topS 63) 8
theorem scHSe : FnScope ["self", "name", "session", "pane", "seat"] ["self", "name", "session", "pane"] (defScope sHSe) := ⟨rfl, rfl, rfl, by decide +kernel, rfl, by decide +kernel, by decide +kernel⟩
def ixOf {α : Type} (n : Nat) : List (Nat × α) → Option Nat
  | [] => none
  | x :: r => if x.1 = n then some 0 else (ixOf n r).map (· + 1)
theorem ixo_map {α β : Type} {f : α → β} {n : Nat} : ∀ xs : List (Nat × α), ixOf n (xs.map fun x => (x.1, f x.2)) = ixOf n xs
  | [] => rfl
  | x :: r => by
    show (if x.1 = n then some 0 else (ixOf n (r.map fun x => (x.1, f x.2))).map (· + 1)) = _
    rw [ixo_map r]
    rfl
theorem ixo_cons {α : Type} {n : Nat} {x : Nat × α} {r : List (Nat × α)} {i : Nat} (h : ixOf n (x :: r) = some i) : (x.1 = n ∧ i = 0) ∨ (¬ x.1 = n ∧ ∃ j, ixOf n r = some j ∧ i = j + 1) := by
  unfold ixOf at h
  by_cases e : x.1 = n
  · rw [if_pos e] at h
    exact .inl ⟨e, (Option.some.inj h).symm⟩
  · rw [if_neg e] at h
    cases e2 : ixOf n r with
    | none => rw [e2] at h; cases h
    | some j =>
      rw [e2] at h
      exact .inr ⟨e, j, rfl, (Option.some.inj h).symm⟩
theorem ixo_none {α : Type} {n : Nat} {x : Nat × α} {r : List (Nat × α)} (h : ixOf n (x :: r) = none) : ¬ x.1 = n ∧ ixOf n r = none := by
  unfold ixOf at h
  by_cases e : x.1 = n
  · rw [if_pos e] at h; cases h
  · rw [if_neg e] at h
    cases e2 : ixOf n r with
    | none => exact ⟨e, rfl⟩
    | some j => rw [e2] at h; cases h
theorem ixo_get {α : Type} {n : Nat} : ∀ {xs : List (Nat × α)} {i : Nat}, ixOf n xs = some i → ∃ x, xs[i]? = some x ∧ x.1 = n
  | x :: r, i, h => by
    rcases ixo_cons h with ⟨e, rfl⟩ | ⟨_, j, hj, rfl⟩
    · exact ⟨x, rfl, e⟩
    · exact ixo_get (xs := r) hj
  | [], i, h => by cases h
theorem ixo_none_mem {α : Type} {n : Nat} : ∀ {xs : List (Nat × α)}, ixOf n xs = none → ∀ x ∈ xs, ¬ x.1 = n
  | x :: r, h, y, hy => by
    obtain ⟨h1, h2⟩ := ixo_none h
    rcases List.mem_cons.mp hy with rfl | hy
    · exact h1
    · exact ixo_none_mem h2 y hy
  | [], _, y, hy => nomatch hy
theorem keyn {a b : Nat} : ((Sum.inl ((a : Nat) : Int) : Key) = .inl ((b : Nat) : Int)) ↔ a = b := by
  constructor
  · intro h
    have := Sum.inl.inj h
    omega
  · intro h; rw [h]
theorem seat_val {n : Nat} : ∀ {se : List (Nat × Sst × Addr × Addr)} {i : Nat} {x : Nat × Sst × Addr × Addr}, ixOf n se = some i → se[i]? = some x → valV (seatKV se) (.inl (n : Nat)) = some (.ref x.2.2.1)
  | y :: r, i, x, h, e => by
    rcases ixo_cons h with ⟨e1, rfl⟩ | ⟨hn, j, hj, rfl⟩
    · cases e
      exact valV_pos (keyn.mpr e1)
    · exact (valV_neg (fun k => hn (keyn.mp k))).trans (seat_val (se := r) hj e)
  | [], i, x, h, _ => by cases h
theorem seat_val0 {n : Nat} : ∀ {se : List (Nat × Sst × Addr × Addr)}, ixOf n se = none → valV (seatKV se) (.inl (n : Nat)) = none
  | y :: r, h => by
    obtain ⟨h1, h2⟩ := ixo_none h
    exact (valV_neg (fun k => h1 (keyn.mp k))).trans (seat_val0 (se := r) h2)
  | [], _ => rfl
theorem map_repl {k : Key} {v : V} : ∀ {kvs : List (Key × V)}, (∀ x ∈ kvs, ¬ x.1 = k) → kvs.map (fun kv => if kv.1 = k then (kv.1, v) else kv) = kvs
  | [], _ => rfl
  | x :: r, h => by
    rw [List.map_cons, if_neg (h x List.mem_cons_self), map_repl fun y hy => h y (List.mem_cons_of_mem _ hy)]
theorem seat_put {n : Nat} {st : Sst} {a d : Addr} : ∀ {se : List (Nat × Sst × Addr × Addr)} {i : Nat}, (se.map (·.1)).Nodup → ixOf n se = some i → (seatKV se).map (fun kv => if kv.1 = (Sum.inl (n : Nat) : Key) then (kv.1, V.ref a) else kv) = seatKV (se.set i (n, st, a, d))
  | y :: r, i, hd, h => by
    rw [List.map_cons, List.nodup_cons] at hd
    rcases ixo_cons h with ⟨e1, rfl⟩ | ⟨hn, j, hj, rfl⟩
    · show (if (Sum.inl ((y.1 : Nat) : Int) : Key) = .inl (n : Nat) then _ else _) :: (seatKV r).map _ = _
      rw [if_pos (keyn.mpr e1), map_repl]
      · subst e1
        rfl
      · intro x hx k
        obtain ⟨z, hz, rfl⟩ := List.mem_map.mp hx
        have k2 : z.1 = n := keyn.mp k
        exact hd.1 (by rw [e1, ← k2]; exact List.mem_map.mpr ⟨z, hz, rfl⟩)
    · show (if (Sum.inl ((y.1 : Nat) : Int) : Key) = .inl (n : Nat) then _ else _) :: (seatKV r).map _ = _
      rw [if_neg (fun k => hn (keyn.mp k)), seat_put (se := r) hd.2 hj]
      rfl
  | [], i, _, h => by cases h
/-- what a hall's state keeps -/
structure HOk (h : Hl) : Prop where
  nod : (h.seats.map (·.1)).Nodup
  name : ∀ x ∈ h.seats, x.1 < 4
  pane : ∀ x ∈ h.seats, x.2.pane < h.panes.length
  panes : ∀ s ∈ h.panes, POk s ∧ PFl s
  len : h.panes.length ≤ 3
def Hl.seat (h : Hl) (n s pn : Nat) : Hl × Option Nat :=
  if h.panes.length ≤ pn then (h, none) else match ixOf n h.seats with
    | none => ({ h with seats := h.seats ++ [(n, ⟨s, pn, 0, false⟩)] }, some h.seats.length)
    | some i => match h.seats[i]? with
      | none => (h, none)
      | some x => if x.2.session < s then ({ h with seats := h.seats.set i (n, ⟨s, pn, 0, false⟩) }, some i)
        else if s < x.2.session ∨ x.2.left = true ∨ ¬ pn = x.2.pane then (h, none) else (h, some i)
def spHSe (C : HCl) : Sp := fun vs H Q _ => ∃ (H0 : Hp) (p : Addr) (c : HC) (n s pn : Nat), vs = [.ref p, .int n, .int s, .int pn] ∧ Sep (hallB C p c) H0 H ∧ HOk c.abs ∧
  ∀ H' c', Sep (hallB C p c') H0 H' → c'.abs = (c.abs.seat n s pn).1 → ((c.abs.seat n s pn).2 = none → Q .non H') ∧ ∀ i x, (c.abs.seat n s pn).2 = some i → c'.se[i]? = some x → Q (.ref x.2.2.1) H'
theorem abs_ix {c : HC} {n : Nat} : ixOf n c.abs.seats = ixOf n c.se := ixo_map (f := fun y : Sst × Addr × Addr => y.1) c.se
structure THal2 (K : PySem.W.Frag) (mg : Str → Option Value) (C : HCl) : Prop where
  z_len : mg "len" = none
  h : ClsN K C.H HKK
  s : ClsN K C.S SKK
section
variable {P : Program} {w : World} {K : PySem.W.Frag} {mg : Str → Option Value} {base : Heap}
structure CHal2 (P : Program) (w : World) (K : PySem.W.Frag) (mg : Str → Option Value) (base : Heap) (C : HCl) : Prop where
  mk_Seat : NCal P w K mg base C.S "Seat" 1 ["self", "session", "pane"] (spSIn C.S)
theorem ok_hse {f : Addr} {fd : FuncData} {cs : HCl} (F : Fun K "_seat" "Hall._seat" sHSe f fd) (T : THal2 K mg cs) (C : CHal2 P w K mg base cs) : FnOk P w K mg base CX0 3 f fd ["self", "name", "session", "pane"] (spHSe cs) := by
  have Th := T.h
  have Ts := T.s
  refine F.ok scHSe (fun vs H Q E h => ?_) (fun cdv A outer s H vs Q E hr h => ?_)
  · obtain ⟨H0, p, c, n, sn, pn, rfl, _⟩ := h
    rfl
  · obtain ⟨H0, p, c, n, sn, pn, rfl, S, O, q⟩ := h
    refine ⟨_, (pss_cons (ps_if (pt_cmpR op_ge (pv 3) (pe_callB call_len_seq (by rfl) T.z_len PySem.boot_len (pa_cons (pe_fld (pv 0) rfl) pa_nil)) (nomark _)) (pss_one (ps_ret pe_non)) pss_nil)
      (pss_cons (ps_set (i := 4) scHSe.nd rfl (Or.inl rfl) (pe_dget1 (hu_of hr) (pe_fld (pv 0) rfl) (pv 1) ⟨by rfl, by rfl, by rfl, by rfl⟩))
      (pss_cut (ps_if (PW.pt (pw_or (pt_cmpR op_isN (pv 4) pe_non (nomark _)) (pw_or1 (pt_cmpR op_gt (pv 2) (pe_fld (pv 4) rfl) (nomark _))))) (pss_cons (ps_set (i := 4) scHSe.nd rfl (Or.inl rfl) (pmake C.mk_Seat (hr.mono (by first | decide | omega)) (pa_cons (pv 2) (pa_cons (pv 3) pa_nil))))
      (pss_one (ps_asg (pv 4) (pg_sub (pe_fld (pv 0) rfl) (pv 1) (set_dict (hu_of hr)))))) pss_nil)
      (pss_cons (ps_if (PW.pt (pw_or (pt_cmpR op_lt (pv 2) (pe_fld (pv 4) rfl) (nomark _)) (pw_or (pt_val (pe_fld (pv 4) rfl)) (pw_or1 (pt_cmpR op_ne (pv 3) (pe_fld (pv 4) rfl) (nomark _)))))) (pss_one (ps_ret pe_non)) pss_nil)
      (pss_one (ps_ret (pv 4))))))), ?_⟩
    have hp := hall_p S
    have hpl := hall_pl S
    have hsd := hall_sd S
    have lp : (paneV c.pn).length = c.abs.panes.length := by
      show _ = (c.pn.map (·.2)).length
      unfold paneV
      rw [List.length_map, List.length_map]
    refine ⟨_, rfl, _, rfl, p, cs.H, c.dx, _, _, rfl, hp, Th.cl, Th.no.get (k := "_panes") (i := 0) (by decide +kernel), zf_get (k := "_panes") (i := 0) (by decide +kernel) rfl, c.pl, _, rfl, .inl (SqL.of hpl), _, _, rfl, rfl, _, rfl, ite2 (fun e => ?_) (fun e => ?_)⟩
    · have e := of_decide_eq_true e
      have e2 : c.abs.seat n sn pn = (c.abs, none) := by
        unfold Hl.seat
        rw [if_pos (by omega)]
      rw [e2] at q
      exact (q H c S rfl).1 rfl
    have hpn : ¬ c.abs.panes.length ≤ pn := fun k => e (decide_eq_true (by omega))
    have lse : (seatKV c.se).length < sizeLine := by
      have h1 : c.se.length ≤ 4 := by
        have h2 : (c.abs.seats.map (·.1)).length = c.se.length := by
          show ((c.se.map _).map _).length = _
          rw [List.length_map, List.length_map]
        rw [← h2]
        have h3 := O.nod
        have h4 : ∀ x ∈ c.abs.seats.map (·.1), x ∈ List.range 4 := fun x hx => by
          obtain ⟨y, hy, rfl⟩ := List.mem_map.mp hx
          exact List.mem_range.mpr (O.name y hy)
        have := (List.Nodup.length_le_of_subset h3 (fun x hx => h4 x hx))
        simpa using this
      unfold seatKV
      rw [List.length_map]
      exact Nat.lt_of_le_of_lt h1 (by decide)
    have abs_ixn : ixOf n c.abs.seats = ixOf n c.se := abs_ix
    -- a new seat
    have news : ∀ (G : Hp) (y dy : Addr), H y = none → H dy = none → dy ≠ y → (∀ q, q ≠ y → G q = (upd (upd H dy (.own y)) y (.ins cs.S dy [])) q) → G y = some (.ins cs.S dy (zf SKK (Sst.vals ⟨sn, pn, 0, false⟩))) →
        Beh (cellA y (.ins cs.S dy (zf SKK (Sst.vals ⟨sn, pn, 0, false⟩)))) H G := fun G y dy ny ndy ne off hy => by
      refine ⟨fun a o ha => ?_, [y], (fun a ha => by rw [List.mem_singleton.mp ha]; exact ny), rfl, hy, (fun _ z => by cases z)⟩
      have h1 : a ≠ y := ne_of_none ha ny
      have h2 : a ≠ dy := ne_of_none ha ndy
      rw [off a h1, upd_ne h1, upd_ne h2]
      exact ha
    refine ⟨_, rfl, p, cs.H, c.dx, _, _, rfl, hp, Th.cl, Th.no.get (k := "_seats") (i := 1) (by decide +kernel), zf_get (k := "_seats") (i := 1) (by decide +kernel) rfl, c.sd, rfl, .inl ⟨_, .inl hsd⟩, _, rfl, _, DGet.k (k := Sum.inl (n : Int)) hsd, ?_⟩
    refine ⟨fun σ' H' => ∃ c' i x, σ' = [some (.ref p), some (.int n), some (.int sn), some (.int pn), some (.ref x.2.2.1)] ∧ Sep (hallB cs p c') H0 H' ∧ c'.se[i]? = some x ∧
      ((x.2.1 = ⟨sn, pn, 0, false⟩ ∧ c.abs.seat n sn pn = (c'.abs, some i)) ∨ (c' = c ∧ ixOf n c.se = some i ∧ ¬ x.2.1.session < sn)), ?_, ?_⟩
    · cases hix : ixOf n c.se with
      | none =>
        rw [seat_val0 hix]
        refine ⟨_, rfl, rfl, _, rfl, iteT ?_⟩
        refine ⟨_, rfl, _, rfl, ?_⟩
        intro y dy ny ndy ne
        refine ⟨y, dy, sn, pn, rfl, upd_same, fun G hy off => ⟨rfl, ?_⟩⟩
        have bn := news G y dy ny ndy ne off hy
        have hpG := bn.1 _ _ hp
        have hsdG := bn.1 _ _ hsd
        have S1 := Sep.into (B := cellA y (.ins cs.S dy (zf SKK (Sst.vals ⟨sn, pn, 0, false⟩)))) (hallBT cs p c) (seatsT cs c.se) S (i := 0) rfl bn
        refine ⟨_, rfl, _, rfl, p, cs.H, c.dx, _, _, rfl, hpG, Th.cl, Th.no.get (k := "_seats") (i := 1) (by decide +kernel), zf_get (k := "_seats") (i := 1) (by decide +kernel) rfl, _, rfl, c.sd, _, rfl, DPut.k (k := Sum.inl (n : Int)) hsdG lse, ?_⟩
        rw [putK_new _ (seat_val0 hix)]
        have S2 := S1.write (Things.set (packT (fun A hA => by
          rcases List.mem_append.mp hA with hA | hA
          · exact seatsT cs c.se A hA
          · rw [List.mem_singleton.mp hA]; exact cellT _ _)) (hallBT cs p c)) (i := 1) (o' := .dK (seatKV c.se ++ [(.inl (n : Nat), .ref y)])) rfl (fun _ z => by cases z)
        refine ⟨{ c with se := c.se ++ [(n, ⟨sn, pn, 0, false⟩, y, dy)] }, c.se.length, (n, ⟨sn, pn, 0, false⟩, y, dy), rfl, ?_, by simp, .inl ⟨rfl, ?_⟩⟩
        · unfold hallB
          show Sep [packA ((c.se ++ [(n, (⟨sn, pn, 0, false⟩ : Sst), y, dy)]).map (seatA cs)), cellA c.sd (.dK (seatKV (c.se ++ [(n, (⟨sn, pn, 0, false⟩ : Sst), y, dy)]))), packA (panesB cs c.pl c.pn), cellA p (.ins cs.H c.dx (zf HKK [.ref c.pl, .ref c.sd]))] _ _
          rw [List.map_append, show seatKV (c.se ++ [(n, (⟨sn, pn, 0, false⟩ : Sst), y, dy)]) = seatKV c.se ++ [(.inl (n : Nat), .ref y)] by unfold seatKV; rw [List.map_append]; rfl]
          exact S2
        · unfold Hl.seat
          rw [if_neg hpn, abs_ixn, hix]
          show (({ c.abs with seats := c.abs.seats ++ [(n, ⟨sn, pn, 0, false⟩)] } : Hl), some c.abs.seats.length) = _
          have e1 : c.abs.seats.length = c.se.length := by
            show (c.se.map _).length = _
            rw [List.length_map]
          rw [e1]
          congr 1
          show (⟨c.pn.map (·.2), (c.se.map fun x => (x.1, x.2.1)) ++ [(n, ⟨sn, pn, 0, false⟩)]⟩ : Hl) = ⟨c.pn.map (·.2), (c.se ++ [(n, (⟨sn, pn, 0, false⟩ : Sst), y, dy)]).map fun x => (x.1, x.2.1)⟩
          rw [List.map_append]
          rfl
      | some i =>
        obtain ⟨x, hx, hxn⟩ := ixo_get hix
        rw [seat_val hix hx]
        have hs := hall_seat S hx
        refine ⟨_, rfl, rfl, _, rfl, iteF ?_⟩
        refine ⟨_, rfl, _, rfl, x.2.2.1, cs.S, x.2.2.2, _, _, rfl, hs, Ts.cl, Ts.no.get (k := "session") (i := 0) (by decide +kernel), zf_get (k := "session") (i := 0) (by decide +kernel) rfl, _, _, rfl, rfl, _, rfl, ite2 (fun e1 => ?_) (fun e1 => ?_)⟩
        · have e1 : x.2.1.session < sn := by have := of_decide_eq_true e1; omega
          refine ⟨_, rfl, _, rfl, ?_⟩
          intro y dy ny ndy ne
          refine ⟨y, dy, sn, pn, rfl, upd_same, fun G hy off => ⟨rfl, ?_⟩⟩
          have bn := news G y dy ny ndy ne off hy
          have hpG := bn.1 _ _ hp
          have hsdG := bn.1 _ _ hsd
          refine ⟨_, rfl, _, rfl, p, cs.H, c.dx, _, _, rfl, hpG, Th.cl, Th.no.get (k := "_seats") (i := 1) (by decide +kernel), zf_get (k := "_seats") (i := 1) (by decide +kernel) rfl, _, rfl, c.sd, _, rfl, DPut.k (k := Sum.inl (n : Int)) hsdG lse, ?_⟩
          have nod : (c.se.map (·.1)).Nodup := by
            have h9 := O.nod
            have h8 : c.abs.seats.map (·.1) = c.se.map (·.1) := by
              show (c.se.map fun x => (x.1, x.2.1)).map (·.1) = _
              rw [List.map_map]
              rfl
            rw [h8] at h9
            exact h9
          have ep : putK (seatKV c.se) (Sum.inl (n : Int)) (.ref y) = seatKV (c.se.set i (n, ⟨sn, pn, 0, false⟩, y, dy)) := by
            rw [← seat_put (st := ⟨sn, pn, 0, false⟩) (a := y) (d := dy) nod hix]
            unfold putK
            rw [valV_any, seat_val hix hx]
            exact if_pos rfl
          rw [ep]
          obtain ⟨H1, y1, b1, back1⟩ := S.focus (hallBT cs p c) (i := 0) rfl
          obtain ⟨H2, y2, b2, back2⟩ := (sep_beh.mpr b1).focus (seatsT cs c.se) (i := i) (map_get hx)
          have k2 := back2 _ _ (Beh.shrink bn b2.1)
          have k3 : Sep ((c.se.set i (n, ⟨sn, pn, 0, false⟩, y, dy)).map (seatA cs)) H1 G := by
            rw [List.map_set]
            exact k2
          have S1 := back1 _ _ (sep_beh.mp k3)
          have S2 := S1.write (Things.set (packT (seatsT cs _)) (hallBT cs p c)) (i := 1) (o' := .dK (seatKV (c.se.set i (n, ⟨sn, pn, 0, false⟩, y, dy)))) rfl (fun _ z => by cases z)
          refine ⟨{ c with se := c.se.set i (n, ⟨sn, pn, 0, false⟩, y, dy) }, i, (n, ⟨sn, pn, 0, false⟩, y, dy), rfl, S2, ?_, .inl ⟨rfl, ?_⟩⟩
          · have hi : i < c.se.length := by
              rcases Nat.lt_or_ge i c.se.length with k | k
              · exact k
              · rw [List.getElem?_eq_none k] at hx; cases hx
            show (c.se.set i _)[i]? = _
            rw [List.getElem?_set_self hi]
          · have hax : c.abs.seats[i]? = some (x.1, x.2.1) := map_get hx
            unfold Hl.seat
            rw [if_neg hpn, abs_ixn, hix]
            show (match c.abs.seats[i]? with | none => _ | some x => _) = _
            rw [hax]
            show (if x.2.1.session < sn then _ else _) = _
            rw [if_pos e1]
            congr 1
            show (⟨c.pn.map (·.2), (c.se.map fun x => (x.1, x.2.1)).set i (n, ⟨sn, pn, 0, false⟩)⟩ : Hl) = ⟨c.pn.map (·.2), (c.se.set i (n, (⟨sn, pn, 0, false⟩ : Sst), y, dy)).map fun x => (x.1, x.2.1)⟩
            rw [List.map_set]
        · have e1 : ¬ x.2.1.session < sn := fun k => e1 (decide_eq_true (by omega))
          exact ⟨c, i, x, rfl, S, hx, .inr ⟨rfl, rfl, e1⟩⟩
    · rintro σ' H' ⟨c', i, x, rfl, S', hx, hR⟩
      have hs := hall_seat S' hx
      refine ⟨_, rfl, _, rfl, x.2.2.1, cs.S, x.2.2.2, _, _, rfl, hs, Ts.cl, Ts.no.get (k := "session") (i := 0) (by decide +kernel), zf_get (k := "session") (i := 0) (by decide +kernel) rfl, _, _, rfl, rfl, _, rfl, ?_⟩
      rcases hR with ⟨hx1, hR⟩ | ⟨rfl, hix, hle⟩
      · rw [hR] at q
        refine ite2 (fun e1 => ?_) (fun _ => ?_)
        · have e1 := of_decide_eq_true e1
          rw [hx1] at e1
          have e1 : (sn : Int) < (sn : Int) := e1
          omega
        refine ⟨_, rfl, x.2.2.1, cs.S, x.2.2.2, _, _, rfl, hs, Ts.cl, Ts.no.get (k := "left") (i := 3) (by decide +kernel), zf_get (k := "left") (i := 3) (by decide +kernel) rfl, x.2.1.left, rfl, ?_⟩
        rw [show x.2.1.left = false by rw [hx1]]
        refine iteF ⟨_, rfl, _, rfl, x.2.2.1, cs.S, x.2.2.2, _, _, rfl, hs, Ts.cl, Ts.no.get (k := "pane") (i := 1) (by decide +kernel), zf_get (k := "pane") (i := 1) (by decide +kernel) rfl, rfl, _, rfl, ?_⟩
        rw [show x.2.1.pane = pn by rw [hx1]]
        refine iteNS rfl ⟨_, rfl, (q H' c' S' rfl).2 i x rfl hx⟩
      · obtain ⟨y, hy, hyn⟩ := ixo_get hix
        rw [hx] at hy
        cases hy
        have hax : c'.abs.seats[i]? = some (x.1, x.2.1) := map_get hx
        have hv : c'.abs.seat n sn pn = if sn < x.2.1.session ∨ x.2.1.left = true ∨ ¬ pn = x.2.1.pane then (c'.abs, none) else (c'.abs, some i) := by
          unfold Hl.seat
          rw [if_neg hpn, abs_ixn, hix]
          show (match c'.abs.seats[i]? with | none => _ | some x => _) = _
          rw [hax]
          show (if x.2.1.session < sn then _ else _) = _
          rw [if_neg hle]
        refine ite2 (fun e1 => ?_) (fun e1 => ?_)
        · have e1 : sn < x.2.1.session := by have := of_decide_eq_true e1; omega
          rw [hv, if_pos (.inl e1)] at q
          exact (q H' c' S' rfl).1 rfl
        have e1 : ¬ sn < x.2.1.session := fun k => e1 (decide_eq_true (by omega))
        refine ⟨_, rfl, x.2.2.1, cs.S, x.2.2.2, _, _, rfl, hs, Ts.cl, Ts.no.get (k := "left") (i := 3) (by decide +kernel), zf_get (k := "left") (i := 3) (by decide +kernel) rfl, x.2.1.left, rfl, ite2 (fun e2 => ?_) (fun e2 => ?_)⟩
        · rw [hv, if_pos (.inr (.inl e2))] at q
          exact iteT ((q H' c' S' rfl).1 rfl)
        refine ⟨_, rfl, _, rfl, x.2.2.1, cs.S, x.2.2.2, _, _, rfl, hs, Ts.cl, Ts.no.get (k := "pane") (i := 1) (by decide +kernel), zf_get (k := "pane") (i := 1) (by decide +kernel) rfl, rfl, _, rfl, ?_⟩
        by_cases e3 : pn = x.2.1.pane
        · rw [hv, if_neg (by rintro (k | k | k); exact e1 k; exact e2 k; exact k e3)] at q
          rw [← e3]
          refine iteNS rfl ⟨_, rfl, (q H' c' S' rfl).2 i x rfl hx⟩
        · rw [hv, if_pos (.inr (.inr e3))] at q
          rw [show decide (V.int (pn : Nat) = V.int (x.2.1.pane : Nat)) = false from decide_eq_false (fun k => e3 (by have := V.int.inj k; omega))]
          exact iteT ((q H' c' S' rfl).1 rfl)
end
end Vf
namespace Vf
open PySem PySem.Spec PyProof.Rows L2 Evl GxR
/-! ### signs that are done; a letter that is heard -/
abbrev sHDo : Stmt := inClass (topS 63) 9
theorem scHDo : FnScope ["self", "name", "seat", "first", "signs", "sign"] ["self", "name", "seat", "first", "signs"] (defScope sHDo) := ⟨rfl, rfl, rfl, by decide +kernel, rfl, by decide +kernel, by decide +kernel⟩
abbrev sHHe : Stmt := inClass (topS 63) 2
theorem scHHe : FnScope ["self", "text", "said", "kind", "name", "session", "pane", "first", "signs", "seat"] ["self", "text"] (defScope sHHe) := ⟨rfl, rfl, rfl, by decide +kernel, rfl, by decide +kernel, by decide +kernel⟩
def Hl.press (h : Hl) (n i c : Nat) : Hl := match h.seats[i]? with
  | none => h
  | some x => match h.panes[x.2.pane]? with
    | none => h
    | some s => ⟨h.panes.set x.2.pane (s.press (.int (n : Nat)) (.int (x.2.session : Nat)) c), h.seats.set i (x.1, { x.2 with done := x.2.done + 1 })⟩
def Hl.doSigns (h : Hl) (n i f : Nat) (l : List Nat) : Hl := match h.seats[i]? with
  | none => h
  | some x => if x.2.done < f then h else (l.drop (x.2.done - f)).foldl (fun h c => h.press n i c) h
def Hl.setLeft (h : Hl) (i : Nat) : Hl := match h.seats[i]? with
  | none => h
  | some x => { h with seats := h.seats.set i (x.1, { x.2 with left := true }) }
def Hl.hear (h : Hl) (m : Option (Str × List Nat × Str)) : Hl := match m with
  | some (k, [n, s, pn, f], z) => match h.seat n s pn with
    | (h', none) => h'
    | (h', some i) => if k = "left" then h'.setLeft i else h'.doSigns n i f z.cps.toList
  | _ => h
theorem lt_of_get {α : Type} {xs : List α} {i : Nat} {x : α} (h : xs[i]? = some x) : i < xs.length := by
  rcases Nat.lt_or_ge i xs.length with k | k
  · exact k
  · rw [List.getElem?_eq_none k] at h; cases h
theorem mem_set {α : Type} {xs : List α} {i : Nat} {x y : α} (h : y ∈ xs.set i x) : y ∈ xs ∨ y = x := List.mem_or_eq_of_mem_set h
theorem HOk.seats {h : Hl} (O : HOk h) {i : Nat} {x : Nat × Sst} (e : h.seats[i]? = some x) (st : Sst) (hp : st.pane < h.panes.length) : HOk { h with seats := h.seats.set i (x.1, st) } := by
  refine ⟨?_, fun y hy => ?_, fun y hy => ?_, O.panes, O.len⟩
  · show ((h.seats.set i (x.1, st)).map (·.1)).Nodup
    rw [set_map_same (y := (x.1, st)) e rfl]
    exact O.nod
  · rcases mem_set hy with hy | rfl
    · exact O.name y hy
    · exact O.name x (List.mem_of_getElem? e)
  · rcases mem_set hy with hy | rfl
    · exact O.pane y hy
    · exact hp
theorem HOk.pane_set {h : Hl} (O : HOk h) {i : Nat} {s : Pn} (hs : POk s ∧ PFl s) : HOk { h with panes := h.panes.set i s } := by
  refine ⟨O.nod, O.name, fun y hy => ?_, fun y hy => ?_, ?_⟩
  · show _ < (h.panes.set i s).length
    rw [List.length_set]
    exact O.pane y hy
  · rcases mem_set hy with hy | rfl
    · exact O.panes y hy
    · exact hs
  · show (h.panes.set i s).length ≤ 3
    rw [List.length_set]
    exact O.len
theorem HOk.press {h : Hl} (O : HOk h) {n i c : Nat} (hc : c ∈ KEY.cps.toList) : HOk (h.press n i c) := by
  unfold Hl.press
  cases e : h.seats[i]? with
  | none => exact O
  | some x =>
    show HOk (match h.panes[x.2.pane]? with
      | none => h
      | some s => (⟨h.panes.set x.2.pane (s.press (.int (n : Nat)) (.int (x.2.session : Nat)) c), h.seats.set i (x.1, { x.2 with done := x.2.done + 1 })⟩ : Hl))
    cases e2 : h.panes[x.2.pane]? with
    | none => exact O
    | some s =>
      have O2 : HOk { h with panes := h.panes.set x.2.pane (s.press (.int (n : Nat)) (.int (x.2.session : Nat)) c) } := O.pane_set ⟨(O.panes s (List.mem_of_getElem? e2)).1.press hc, (O.panes s (List.mem_of_getElem? e2)).2.press hc⟩
      exact O2.seats (i := i) (x := x) e { x.2 with done := x.2.done + 1 } (by
        show x.2.pane < (h.panes.set _ _).length
        rw [List.length_set]
        exact O.pane x (List.mem_of_getElem? e))
theorem HOk.fold {n i : Nat} : ∀ {l : List Nat} {h : Hl}, HOk h → (∀ c ∈ l, isK c = true) → HOk (l.foldl (fun h c => h.press n i c) h)
  | [], h, O, _ => O
  | c :: r, h, O, k => HOk.fold (l := r) (O.press (of_decide_eq_true (k c List.mem_cons_self))) fun d hd => k d (List.mem_cons_of_mem _ hd)
theorem HOk.doSigns {h : Hl} (O : HOk h) {n i f : Nat} {l : List Nat} (k : ∀ c ∈ l, isK c = true) : HOk (h.doSigns n i f l) := by
  unfold Hl.doSigns
  cases e : h.seats[i]? with
  | none => exact O
  | some x =>
    show HOk (if x.2.done < f then h else _)
    by_cases hf : x.2.done < f
    · rw [if_pos hf]; exact O
    · rw [if_neg hf]
      exact O.fold fun c hc => k c (List.mem_of_mem_drop hc)
theorem HOk.setLeft {h : Hl} (O : HOk h) {i : Nat} : HOk (h.setLeft i) := by
  unfold Hl.setLeft
  cases e : h.seats[i]? with
  | none => exact O
  | some x => exact O.seats e _ (O.pane x (List.mem_of_getElem? e))
theorem HOk.seat {h : Hl} (O : HOk h) {n s pn : Nat} (hn : n < 4) : HOk (h.seat n s pn).1 := by
  unfold Hl.seat
  by_cases hp : h.panes.length ≤ pn
  · rw [if_pos hp]; exact O
  · rw [if_neg hp]
    cases e : ixOf n h.seats with
    | none =>
      refine ⟨?_, fun y hy => ?_, fun y hy => ?_, O.panes, O.len⟩
      · show ((h.seats ++ [(n, (⟨s, pn, 0, false⟩ : Sst))]).map (·.1)).Nodup
        rw [List.map_append, List.nodup_append]
        refine ⟨O.nod, by simp, fun a ha b hb => ?_⟩
        obtain ⟨x, hx, rfl⟩ := List.mem_map.mp ha
        have hb2 : b = n := by simpa using hb
        rw [hb2]
        exact ixo_none_mem e x hx
      · rcases List.mem_append.mp hy with hy | hy
        · exact O.name y hy
        · rw [List.mem_singleton.mp hy]; exact hn
      · rcases List.mem_append.mp hy with hy | hy
        · exact O.pane y hy
        · rw [List.mem_singleton.mp hy]
          exact Nat.lt_of_not_le hp
    | some i =>
      obtain ⟨x, hx, hxn⟩ := ixo_get e
      show HOk (match h.seats[i]? with | none => (h, none) | some x => _ : Hl × Option Nat).1
      rw [hx]
      show HOk (if x.2.session < s then _ else _ : Hl × Option Nat).1
      by_cases h1 : x.2.session < s
      · rw [if_pos h1]
        have := O.seats hx ⟨s, pn, 0, false⟩ (Nat.lt_of_not_le hp)
        rw [hxn] at this
        exact this
      · rw [if_neg h1]
        by_cases h2 : s < x.2.session ∨ x.2.left = true ∨ ¬ pn = x.2.pane
        · rw [if_pos h2]; exact O
        · rw [if_neg h2]; exact O
/-- a letter that looks tell, or no letter -/
def LetOk (m : Option (Str × List Nat × Str)) : Prop := ∀ k ns z, m = some (k, ns, z) → (∀ n r, ns = n :: r → n < 4) ∧ z.length ≤ 1000 ∧ ∀ c ∈ z.cps.toList, isK c = true
theorem HOk.hear {h : Hl} (O : HOk h) {m : Option (Str × List Nat × Str)} (L : LetOk m) : HOk (h.hear m) := by
  match m, L with
  | none, _ => exact O
  | some (k, [], z), _ => exact O
  | some (k, [_], z), _ => exact O
  | some (k, [_, _], z), _ => exact O
  | some (k, [_, _, _], z), _ => exact O
  | some (k, _ :: _ :: _ :: _ :: _ :: _, z), _ => exact O
  | some (k, [n, s, pn, f], z), L =>
    obtain ⟨l1, l2, l3⟩ := L k _ z rfl
    have hn := l1 n _ rfl
    have O2 := O.seat (s := s) (pn := pn) hn
    show HOk (match h.seat n s pn with | (h', none) => h' | (h', some i) => if k = "left" then h'.setLeft i else h'.doSigns n i f z.cps.toList)
    cases e : h.seat n s pn with
    | mk h' o =>
      rw [e] at O2
      cases o with
      | none => exact O2
      | some i =>
        show HOk (if k = "left" then h'.setLeft i else h'.doSigns n i f z.cps.toList)
        by_cases hk : k = "left"
        · rw [if_pos hk]; exact HOk.setLeft O2
        · rw [if_neg hk]; exact HOk.doSigns O2 l3
def spHDo (C : HCl) : Sp := fun vs H Q _ => ∃ (H0 : Hp) (p : Addr) (c : HC) (n i f : Nat) (x : Nat × Sst × Addr × Addr) (z : Str), vs = [.ref p, .int n, .ref x.2.2.1, .int f, .str z] ∧ Sep (hallB C p c) H0 H ∧ HOk c.abs ∧ c.se[i]? = some x ∧ z.length ≤ 1000000 ∧ (∀ c ∈ z.cps.toList, isK c = true) ∧
  ∀ H' c', Sep (hallB C p c') H0 H' → c'.abs = c.abs.doSigns n i f z.cps.toList → Q .non H'
def spHHe (T0 : Addr) (C : HCl) : Sp := fun vs H Q _ => ∃ (H0 : Hp) (p : Addr) (h : Hl) (z : Str), vs = [.ref p, .str z] ∧ Beh (hallA C p h) H0 H ∧ HOk h ∧ z.length ≤ 900000 ∧ LetOk (readLook z.cps.toList) ∧ H0 T0 = some (TabO T0) ∧
  ∀ H', Beh (hallA C p (h.hear (readLook z.cps.toList))) H0 H' → Q .non H'
structure THal3 (K : PySem.W.Frag) (mg : Str → Option Value) (C : HCl) : Prop where
  mg_LEFT : ∃ t, mg "LEFT" = some (.str "left" t)
  h : ClsN K C.H HKK
  s : ClsN K C.S SKK
  clP : Cls K C.P
section
variable {P : Program} {w : World} {K : PySem.W.Frag} {mg : Str → Option Value} {base : Heap}
structure CHal3 (P : Program) (w : World) (K : PySem.W.Frag) (mg : Str → Option Value) (base : Heap) (C : HCl) : Prop where
  Pane_press : MCal P w K mg base C.P "press" 4 ["self", "look", "session", "sign"] (spPr C.P)
theorem ok_hdo {f : Addr} {fd : FuncData} {cs : HCl} (F : Fun K "_do_signs" "Hall._do_signs" sHDo f fd) (T : THal3 K mg cs) (C : CHal3 P w K mg base cs) : FnOk P w K mg base CX0 5 f fd ["self", "name", "seat", "first", "signs"] (spHDo cs) := by
  have Th := T.h
  have Ts := T.s
  refine F.ok scHDo (fun vs H Q E h => ?_) (fun cdv A outer s H vs Q E hr h => ?_)
  · obtain ⟨H0, p, c, n, i, f, x, z, rfl, _⟩ := h
    rfl
  · obtain ⟨H0, p, c, n, i, f, x, z, rfl, S, O, hx, hz, hk, q⟩ := h
    refine ⟨_, (pss_cons (ps_if (pt_cmpR op_gt (pv 3) (pe_fld (pv 2) rfl) (nomark _)) (pss_one ps_retN) pss_nil)
      (pss_one (ps_for PassesOwn.never rfl (pi_str (pe_slice sl_str (pv 4) (po_some (pe_op op_sub (pe_fld (pv 2) rfl) (pv 3))) po_none)) (pg_name (i := 5) scHDo.nd rfl (Or.inl rfl)) (pss_cons (ps_expr (pmeth (pe_ix ix_list (pe_fld (pv 0) rfl) (pe_fld (pv 2) rfl) (fun _ _ => rfl)) T.clP C.Pane_press (hr.mono (by first | decide | omega)) (pa_cons (pv 1) (pa_cons (pe_fld (pv 2) rfl) (pa_cons (pv 5) pa_nil)))))
      (pss_one (ps_fldaug (pv 2) pe_int in_add)))))), ?_⟩
    have hs := hall_seat S hx
    have hax : c.abs.seats[i]? = some (x.1, x.2.1) := map_get hx
    have hdo : c.abs.doSigns n i f z.cps.toList = if x.2.1.done < f then c.abs else (z.cps.toList.drop (x.2.1.done - f)).foldl (fun h c => h.press n i c) c.abs := by
      unfold Hl.doSigns
      rw [hax]
    rw [hdo] at q
    refine ⟨_, rfl, _, rfl, x.2.2.1, cs.S, x.2.2.2, _, _, rfl, hs, Ts.cl, Ts.no.get (k := "done") (i := 2) (by decide +kernel), zf_get (k := "done") (i := 2) (by decide +kernel) rfl, _, _, rfl, rfl, _, rfl, ite2 (fun e => ?_) (fun e => ?_)⟩
    · have e1 : x.2.1.done < f := by have := of_decide_eq_true e; omega
      rw [if_pos e1] at q
      exact q H c S rfl
    have e1 : ¬ x.2.1.done < f := fun k => e (decide_eq_true (by omega))
    rw [if_neg e1] at q
    have big : z.length ≤ sizeLine := Nat.le_trans hz (by decide)
    refine ⟨_, rfl, _, rfl, x.2.2.1, cs.S, x.2.2.2, _, _, rfl, hs, Ts.cl, Ts.no.get (k := "done") (i := 2) (by decide +kernel), zf_get (k := "done") (i := 2) (by decide +kernel) rfl, _, rfl, _, _, rfl, rfl, _, rfl, z, rfl, big, ?_⟩
    rw [show ((x.2.1.done : Nat) : Int) - (f : Nat) = ((x.2.1.done - f : Nat) : Int) by omega, cutS_rest]
    generalize hl : z.cps.toList.drop (x.2.1.done - f) = l at q ⊢
    have hlk : ∀ c ∈ l, isK c = true := fun c hc => by rw [← hl] at hc; exact hk c (List.mem_of_mem_drop hc)
    refine ⟨_, rfl, ?_⟩
    refine for_it walk_str (fun j σ H' => ∃ c' x' d, σ = [some (.ref p), some (.int n), some (.ref x.2.2.1), some (.int f), some (.str z), d] ∧ Sep (hallB cs p c') H0 H' ∧ c'.abs = (l.take j).foldl (fun h c => h.press n i c) c.abs ∧ c'.se[i]? = some x' ∧ x'.2.2 = x.2.2 ∧ HOk c'.abs)
      ⟨c, x, none, rfl, S, rfl, hx, rfl, O⟩ (fun _ _ _ _ _ => trivial) ?_ ?_
    · rintro j v σ H1 H2 hj ⟨c', x', d, rfl, S', ea, hx', hxx, O'⟩ ⟨rfl, cc, hcc, rfl⟩
      have hcl : l[j]? = some cc := by
        have e9 : (⟨l.toArray⟩ : Str).cps.toList[j]? = some cc := by rw [Array.getElem?_toList]; exact hcc
        simpa using e9
      have hck : cc ∈ KEY.cps.toList := of_decide_eq_true (hlk cc (List.mem_of_getElem? hcl))
      have hs' := hall_seat S' hx'
      rw [hxx] at hs'
      have hp' := hall_p S'
      have hpl' := hall_pl S'
      have hax' : c'.abs.seats[i]? = some (x'.1, x'.2.1) := map_get hx'
      have hpl2 : x'.2.1.pane < c'.pn.length := by
        have := O'.pane (x'.1, x'.2.1) (List.mem_of_getElem? hax')
        have e2 : c'.abs.panes.length = c'.pn.length := by
          show (c'.pn.map _).length = _
          rw [List.length_map]
        rw [← e2]
        exact this
      have hy := List.getElem?_eq_getElem hpl2
      generalize c'.pn[x'.2.1.pane] = y at hy
      obtain ⟨G, xG, R, back⟩ := hall_pane S' hy
      have hOy : POk y.2 := (O'.panes y.2 (List.mem_map.mpr ⟨y, List.mem_of_getElem? hy, rfl⟩)).1
      obtain ⟨d0, r0, t0, u0, jv, b0, j0⟩ := R.at
      refine ⟨_, rfl, p, cs.H, c'.dx, _, _, rfl, hp', Th.cl, Th.no.get (k := "_panes") (i := 0) (by decide +kernel), zf_get (k := "_panes") (i := 0) (by decide +kernel) rfl, _, rfl, x.2.2.1, cs.S, x.2.2.2, _, _, rfl, hs', Ts.cl, Ts.no.get (k := "pane") (i := 1) (by decide +kernel), zf_get (k := "pane") (i := 1) (by decide +kernel) rfl, c'.pl, _, _, _, rfl, rfl, SqL.of hpl', atI_nat (j := x'.2.1.pane) (map_get hy), ?_⟩
      refine ⟨y.1, d0, _, rfl, b0, pf_no (by decide +kernel) (by decide +kernel) (by decide +kernel) (by decide +kernel) (by decide +kernel) (by decide +kernel), _, rfl, _, rfl, x.2.2.1, cs.S, x.2.2.2, _, _, rfl, hs', Ts.cl, Ts.no.get (k := "session") (i := 0) (by decide +kernel), zf_get (k := "session") (i := 0) (by decide +kernel) rfl, _, rfl, ?_⟩
      refine ⟨G, y.1, y.2, _, _, cc, rfl, hck, R, hOy, fun H3 R3 => ?_⟩
      have S3 := back _ _ R3
      have hx3 : ({ c' with pn := c'.pn.set x'.2.1.pane (y.1, y.2.press (.int (n : Nat)) (.int (x'.2.1.session : Nat)) cc) } : HC).se[i]? = some x' := hx'
      have hs3 := hall_seat S3 hx3
      rw [hxx] at hs3
      refine ⟨_, rfl, x.2.2.1, cs.S, x.2.2.2, _, _, rfl, hs3, Ts.cl, Ts.no.get (k := "done") (i := 2) (by decide +kernel), zf_get (k := "done") (i := 2) (by decide +kernel) rfl, _, _, rfl, rfl, x.2.2.2, _, hs3, zf_short (by decide), ?_⟩
      rw [zf_put (k := "done") (i := 2) (by decide +kernel) (by show 2 < 4; decide)]
      have S4 := hall_seat_put S3 hx3 { x'.2.1 with done := x'.2.1.done + 1 }
      rw [hxx] at S4
      refine ⟨_, (x'.1, { x'.2.1 with done := x'.2.1.done + 1 }, x'.2.2), _, rfl, S4, ?_, ?_, hxx, ?_⟩
      · rw [List.take_add_one, hcl, List.foldl_append, ← ea]
        show _ = c'.abs.press n i cc
        unfold Hl.press
        rw [hax']
        have hpy : c'.abs.panes[x'.2.1.pane]? = some y.2 := map_get hy
        show _ = (match c'.abs.panes[x'.2.1.pane]? with | none => c'.abs | some s => _)
        rw [hpy]
        show (⟨(c'.pn.set x'.2.1.pane (y.1, _)).map (·.2), (c'.se.set i _).map fun x => (x.1, x.2.1)⟩ : Hl) = _
        rw [List.map_set, List.map_set]
        rfl
      · show (c'.se.set i _)[i]? = _
        rw [List.getElem?_set_self (lt_of_get hx'), hxx]
      · have e5 := O'.press (n := n) (i := i) hck
        have e6 : c'.abs.press n i cc = (⟨(c'.pn.set x'.2.1.pane (y.1, y.2.press (.int (n : Nat)) (.int (x'.2.1.session : Nat)) cc)).map (·.2), (c'.se.set i (x'.1, { x'.2.1 with done := x'.2.1.done + 1 }, x'.2.2)).map fun x => (x.1, x.2.1)⟩ : Hl) := by
          unfold Hl.press
          rw [hax']
          have hpy : c'.abs.panes[x'.2.1.pane]? = some y.2 := map_get hy
          show (match c'.abs.panes[x'.2.1.pane]? with | none => c'.abs | some s => _) = _
          rw [hpy, List.map_set, List.map_set]
          rfl
        rw [e6] at e5
        rw [hxx] at e5
        exact e5
    · rintro σ H1 ⟨c', x', d, rfl, S', ea, hx', hxx, O'⟩
      refine q H1 c' S' ?_
      rw [ea]
      congr 1
      exact List.take_of_length_le (by show l.length ≤ l.toArray.size; simp)
theorem rl_len {l : List Nat} {k z : Str} {ns : List Nat} (h : readLook l = some (k, ns, z)) : ns.length = 4 ∧ isKind k := by
  unfold readLook at h
  split at h
  · rename_i k' a b c d z' hu
    by_cases hk : isKind k'
    · rw [if_pos hk] at h
      cases hn : numsOf 20 [a, b, c, d] with
      | none => rw [hn] at h; cases h
      | some ms =>
        rw [hn] at h
        cases h
        exact ⟨nums_len hn, hk⟩
    · rw [if_neg hk] at h
      cases h
  · cases h
structure CHal4 (P : Program) (w : World) (K : PySem.W.Frag) (mg : Str → Option Value) (base : Heap) (T0 : Addr) (C : HCl) : Prop where
  read_look_letter : Cal P w K mg base "read_look_letter" 4 ["text"] (spRll T0)
  seat : MCal P w K mg base C.H "_seat" 3 ["self", "name", "session", "pane"] (spHSe C)
  do_signs : MCal P w K mg base C.H "_do_signs" 5 ["self", "name", "seat", "first", "signs"] (spHDo C)
structure THal4 (K : PySem.W.Frag) (mg : Str → Option Value) (C : HCl) : Prop where
  mg_LEFT : ∃ t, mg "LEFT" = some (.str "left" t)
  cl : Cls K C.H
  h : ClsN K C.H HKK
  s : ClsN K C.S SKK
theorem ok_hhe {f T0 : Addr} {fd : FuncData} {cs : HCl} (F : Fun K "hear" "Hall.hear" sHHe f fd) (T : THal4 K mg cs) (C : CHal4 P w K mg base T0 cs) : FnOk P w K mg base CX0 6 f fd ["self", "text"] (spHHe T0 cs) := by
  have Th := T.h
  have Ts := T.s
  refine F.ok scHHe (fun vs H Q E h => ?_) (fun cdv A outer s H vs Q E hr h => ?_)
  · obtain ⟨H0, p, h, z, rfl, _⟩ := h
    rfl
  · obtain ⟨H0, p, h, z, rfl, B, O, hz, L, hT, q⟩ := h
    refine ⟨_, (pss_cons (ps_set (i := 2) scHHe.nd rfl (Or.inl rfl) (pcall C.read_look_letter (hr.mono (by first | decide | omega)) (pa_cons (pv 1) pa_nil)))
      (pss_cons (ps_if (pt_cmpR op_isN (pv 2) pe_non (nomark _)) (pss_one ps_retN) pss_nil)
      (pss_cons (ps_asg (pv 2) (pg_tup rfl (pgs_cons (pg_name (i := 3) scHHe.nd rfl (Or.inl rfl)) (pgs_cons (pg_name (i := 4) scHHe.nd rfl (Or.inl rfl)) (pgs_cons (pg_name (i := 5) scHHe.nd rfl (Or.inl rfl)) (pgs_cons (pg_name (i := 6) scHHe.nd rfl (Or.inl rfl)) (pgs_cons (pg_name (i := 7) scHHe.nd rfl (Or.inl rfl)) (pgs_cons (pg_name (i := 8) scHHe.nd rfl (Or.inl rfl)) pgs_nil))))))))
      (pss_cons (ps_set (i := 9) scHHe.nd rfl (Or.inl rfl) (pmeth (pv 0) T.cl C.seat (hr.mono (by first | decide | omega)) (pa_cons (pv 4) (pa_cons (pv 5) (pa_cons (pv 6) pa_nil)))))
      (pss_cons (ps_if (pt_cmpR op_isN (pv 9) pe_non (nomark _)) (pss_one ps_retN) pss_nil)
      (pss_one (ps_if (pt_cmpR op_eq (pv 3) (pgS T.mg_LEFT) (nomark _)) (pss_one (ps_fld (pv 9) pe_bl rfl)) (pss_one (ps_expr (pmeth (pv 0) T.cl C.do_signs (hr.mono (by first | decide | omega)) (pa_cons (pv 4) (pa_cons (pv 9) (pa_cons (pv 7) (pa_cons (pv 8) pa_nil)))))))))))))), ?_⟩
    obtain ⟨c, rfl, S⟩ := hall_beh.mp B
    have done : ∀ (H' : Hp) (c' : HC), Sep (hallB cs p c') H0 H' → c'.abs = c.abs.hear (readLook z.cps.toList) → Q .non H' := fun H' c' S' e => q H' (hall_beh.mpr ⟨c', e, S'⟩)
    refine ⟨_, rfl, z, rfl, hz, S.base _ _ hT, fun hn H1 e1 => ?_, fun k ns y hrl t H1 e1 nt ht => ?_⟩
    · refine ⟨_, rfl, rfl, _, rfl, iteT (done H1 c (S.ex (hallBT cs p c) e1) ?_)⟩
      rw [hn]
      rfl
    · refine ⟨_, rfl, rfl, _, rfl, iteF ?_⟩
      obtain ⟨l4, hkd⟩ := rl_len hrl
      rw [hrl] at done L
      match ns, l4, ht, hrl, L, done with
      | [a, b, d, f1], _, ht, hrl, L, done =>
        obtain ⟨L1, L2, L3⟩ := L k _ y rfl
        have ha : a < 4 := L1 a _ rfl
        have S1 := S.ex (hallBT cs p c) e1
        have hp1 := hall_p S1
        refine ⟨_, rfl, t, _, rfl, SqT.of ht, rfl, _, _, rfl, _, _, rfl, _, _, rfl, _, _, rfl, _, _, rfl, _, _, rfl, rfl, ?_⟩
        have hh : c.abs.hear (some (k, [a, b, d, f1], y)) = match c.abs.seat a b d with
          | (h', none) => h'
          | (h', some i) => if k = "left" then h'.setLeft i else h'.doSigns a i f1 y.cps.toList := rfl
        rw [hh] at done
        refine ⟨_, rfl, p, c.dx, _, rfl, hp1, zf_no (k := "_seat") (by decide +kernel), _, rfl, _, rfl, _, rfl, H0, p, c, a, b, d, rfl, S1, O, fun H2 c2 S2 e2 => ?_⟩
        have O2 := HOk.seat O (s := b) (pn := d) ha
        rw [← e2] at O2
        cases es : c.abs.seat a b d with
        | mk h' o =>
          rw [es] at e2 done
          have e2 : c2.abs = h' := e2
          subst e2
          refine ⟨fun hn => ?_, fun i x hi hx => ?_⟩
          · have hn : o = none := hn
            subst hn
            exact ⟨_, rfl, rfl, _, rfl, iteT (done H2 c2 S2 rfl)⟩
          · have hi : o = some i := hi
            subst hi
            have hs := hall_seat S2 hx
            have hp2 := hall_p S2
            refine ⟨_, rfl, rfl, _, rfl, iteF ?_⟩
            refine ⟨_, rfl, rfl, _, rfl, ite2 (fun e5 => ?_) (fun e5 => ?_)⟩
            · have e6 : k = "left" := vstr0.mp e5
              refine ⟨_, rfl, x.2.2.1, cs.S, x.2.2.2, _, rfl, hs, Ts.cl, Ts.no.get (k := "left") (i := 3) (by decide +kernel), zf_short (by decide), ?_⟩
              rw [zf_put (k := "left") (i := 3) (by decide +kernel) (by show 3 < 4; decide)]
              refine done _ _ (hall_seat_put S2 hx { x.2.1 with left := true }) ?_
              show _ = (if k = "left" then c2.abs.setLeft i else _)
              rw [if_pos e6]
              have hax : c2.abs.seats[i]? = some (x.1, x.2.1) := map_get hx
              unfold Hl.setLeft
              rw [hax]
              show (⟨c2.pn.map (·.2), (c2.se.set i _).map fun x => (x.1, x.2.1)⟩ : Hl) = _
              rw [List.map_set]
              rfl
            · have e6 : ¬ k = "left" := fun z => e5 (vstr0.mpr z)
              refine ⟨_, rfl, p, c2.dx, _, rfl, hp2, zf_no (k := "_do_signs") (by decide +kernel), _, rfl, _, rfl, _, rfl, _, rfl, H0, p, c2, a, i, f1, x, y, rfl, S2, O2, hx, by omega, L3, fun H3 c3 S3 e3 => done H3 c3 S3 ?_⟩
              rw [e3]
              show _ = (if k = "left" then c2.abs.setLeft i else _)
              rw [if_neg e6]
end
end Vf
namespace Vf
open PySem PySem.Spec PyProof.Rows L2 Evl GxR
/-! ### who is there; the hall's letters -/
abbrev sHNa : Stmt := inClass (topS 63) 7
theorem scHNa : FnScope ["self", "name"] ["self"] (defScope sHNa) := ⟨rfl, rfl, rfl, by decide +kernel, rfl, by decide +kernel, by decide +kernel⟩
abbrev sHLo : Stmt := inClass (topS 63) 6
theorem scHLo : FnScope ["self", "name"] ["self"] (defScope sHLo) := ⟨rfl, rfl, rfl, by decide +kernel, rfl, by decide +kernel, by decide +kernel⟩
abbrev sHLr : Stmt := inClass (topS 63) 10
theorem scHLr : FnScope ["self", "name", "seat", "pane"] ["self", "name", "seat"] (defScope sHLr) := ⟨rfl, rfl, rfl, by decide +kernel, rfl, by decide +kernel, by decide +kernel⟩
abbrev sHLt : Stmt := inClass (topS 63) 3
theorem scHLt : FnScope ["self", "name"] ["self"] (defScope sHLt) := ⟨rfl, rfl, rfl, by decide +kernel, rfl, by decide +kernel, by decide +kernel⟩
def sOf {α : Type} (n : Nat) (se : List (Nat × α)) : Option α := match ixOf n se with
  | none => none
  | some i => (se[i]?).map (·.2)
def Hl.names (h : Hl) : List Nat := (List.range 4).filter fun n => match sOf n h.seats with
  | none => false
  | some st => !st.left
def Hl.looksV (h : Hl) : List (List V) := h.names.map fun n => match sOf n h.seats with
  | none => []
  | some st => [.int (n : Nat), .int (st.session : Nat), .int (st.pane : Nat)]
theorem sOf_map {α β : Type} {f : α → β} {n : Nat} (xs : List (Nat × α)) : sOf n (xs.map fun x => (x.1, f x.2)) = (sOf n xs).map f := by
  unfold sOf
  rw [ixo_map]
  cases h : ixOf n xs with
  | none => rfl
  | some i =>
    show ((xs.map fun x => (x.1, f x.2))[i]?).map (·.2) = (xs[i]?.map (·.2)).map f
    rw [List.getElem?_map]
    cases xs[i]? <;> rfl
theorem sOf_get {α : Type} {n : Nat} {xs : List (Nat × α)} {st : α} (h : sOf n xs = some st) : ∃ i, ixOf n xs = some i ∧ xs[i]? = some (n, st) := by
  unfold sOf at h
  cases hi : ixOf n xs with
  | none => rw [hi] at h; cases h
  | some i =>
    rw [hi] at h
    obtain ⟨x, hx, hn⟩ := ixo_get hi
    have h2 : (xs[i]?).map (·.2) = some st := h
    rw [hx] at h2
    cases h2
    exact ⟨i, rfl, by rw [hx, ← hn]⟩
theorem ix_isSome {α : Type} {n : Nat} {xs : List (Nat × α)} : (ixOf n xs).isSome = true ↔ n ∈ xs.map (·.1) := by
  constructor
  · intro h
    obtain ⟨i, hi⟩ := Option.isSome_iff_exists.mp h
    obtain ⟨x, hx, hn⟩ := ixo_get hi
    exact List.mem_map.mpr ⟨x, List.mem_of_getElem? hx, hn⟩
  · intro h
    cases e : ixOf n xs with
    | some i => rfl
    | none =>
      obtain ⟨x, hx, hn⟩ := List.mem_map.mp h
      exact absurd hn (ixo_none_mem e x hx)
/-- the keys in order -/
def keysOf {α : Type} (se : List (Nat × α)) : List Nat := (List.range 4).filter fun n => (ixOf n se).isSome
theorem sorted_keys {α : Type} {se : List (Nat × α)} {ys : List Int} (nod : (se.map (·.1)).Nodup) (h4 : ∀ x ∈ se, x.1 < 4) (hp : ys.Perm (se.map fun x => ((x.1 : Nat) : Int))) (hs : ys.Pairwise (· ≤ ·)) : ys = (keysOf se).map fun n => ((n : Nat) : Int) := by
  have hr : (List.range 4).Pairwise (· < ·) := List.pairwise_lt_range
  have hk : (keysOf se).Pairwise (· < ·) := hr.filter _
  have n1 : (keysOf se).Nodup := hk.imp fun h => Nat.ne_of_lt h
  have p1 : (keysOf se).Perm (se.map (·.1)) := (List.perm_ext_iff_of_nodup n1 nod).mpr fun n => by
    unfold keysOf
    rw [List.mem_filter, ix_isSome, List.mem_range]
    constructor
    · exact fun h => h.2
    · intro h
      obtain ⟨x, hx, rfl⟩ := List.mem_map.mp h
      exact ⟨h4 x hx, h⟩
  have p2 : ((keysOf se).map fun n => ((n : Nat) : Int)).Perm (se.map fun x => ((x.1 : Nat) : Int)) := by
    have := p1.map fun n => ((n : Nat) : Int)
    rw [List.map_map] at this
    exact this
  refine List.Perm.eq_of_pairwise (le := (· ≤ ·)) (fun a b _ _ h1 h2 => Int.le_antisymm h1 h2) hs ?_ (hp.trans p2.symm)
  rw [List.pairwise_map]
  exact hk.imp fun h => by omega
theorem names_keys {h : Hl} : h.names = (keysOf h.seats).filter fun n => match sOf n h.seats with
  | none => false
  | some st => !st.left := by
  unfold Hl.names keysOf
  rw [List.filter_filter]
  congr 1
  funext n
  unfold sOf
  cases ixOf n h.seats <;> simp
def spHNa (C : HCl) : Sp := fun vs H Q _ => ∃ (H0 : Hp) (p : Addr) (c : HC), vs = [.ref p] ∧ Sep (hallB C p c) H0 H ∧ HOk c.abs ∧ ∀ q H', Ex H H' → H q = none → H' q = some (.lst (c.abs.names.map fun n => V.int (n : Nat))) → Q (.ref q) H'
structure THal5 (K : PySem.W.Frag) (mg : Str → Option Value) (C : HCl) : Prop where
  z_sorted : mg "sorted" = none
  h : ClsN K C.H HKK
  s : ClsN K C.S SKK
  cl : Cls K C.H
theorem dgk {H : Hp} {a : Addr} {kvs : List (Key × V)} {k : Key} {v : V} (e : H a = some (.dK kvs)) (h : valV kvs k = some v) : DGet H a (kV k) (some v) := by
  have := DGet.k (k := k) e
  rw [h] at this
  exact this
section
variable {P : Program} {w : World} {K : PySem.W.Frag} {mg : Str → Option Value} {base : Heap}
theorem ok_hna {f : Addr} {fd : FuncData} {cs : HCl} (F : Fun K "_names" "Hall._names" sHNa f fd) (T : THal5 K mg cs) : FnOk P w K mg base CX0 1 f fd ["self"] (spHNa cs) := by
  have Th := T.h
  have Ts := T.s
  refine F.ok scHNa (fun vs H Q E h => ?_) (fun cdv A outer s H vs Q E hr h => ?_)
  · obtain ⟨H0, p, c, rfl, _⟩ := h
    rfl
  · obtain ⟨H0, p, c, rfl, S, O, q⟩ := h
    refine ⟨_, (pss_one (ps_ret (pe_lc (own := [("name", 1)]) (g := gName 1) rfl scHNa.nd (pi_list (pe_callB (call_sortedDI rfl) (by rfl) T.z_sorted boot_sorted (pa_cons (pe_fld (pv 0) rfl) pa_nil))) (blkOk_by (own := [("name", 1)]) (N := ["self", "name"]) (sc := defScope sHNa) (by decide +kernel)) (fun _ _ _ _ _ => pg_name (i := 1) scHNa.nd rfl (Or.inl rfl)) (fun _ _ _ _ _ => pts_one (pt_not (pt_val (pe_fldK K (pe_dget (hu_of hr) (pe_fldK K (pv 0) rfl) (pv 1) (fun _ _ => rfl)) rfl)))) (fun _ _ _ _ _ => (pv 1))))), ?_⟩
    have hp := hall_p S
    have hsd := hall_sd S
    have nod : (c.se.map (·.1)).Nodup := by
      have h9 := O.nod
      have h8 : c.abs.seats.map (·.1) = c.se.map (·.1) := by
        show (c.se.map fun x => (x.1, x.2.1)).map (·.1) = _
        rw [List.map_map]
        rfl
      rw [h8] at h9
      exact h9
    have hn4 : ∀ x ∈ c.se, x.1 < 4 := fun x hx => O.name (x.1, x.2.1) (List.mem_map.mpr ⟨x, hx, rfl⟩)
    have hk4 : (keysOf c.se).length ≤ 4 := by
      unfold keysOf
      exact Nat.le_trans (List.length_filter_le _ _) (by simp)
    have hlen : c.se.length ≤ 4 := by
      have h4 : ∀ x ∈ c.se.map (·.1), x ∈ List.range 4 := fun x hx => by
        obtain ⟨y, hy, rfl⟩ := List.mem_map.mp hx
        exact List.mem_range.mpr (hn4 y hy)
      have := List.Nodup.length_le_of_subset nod (fun x hx => h4 x hx)
      simpa using this
    refine ⟨_, rfl, p, cs.H, c.dx, _, _, rfl, hp, Th.cl, Th.no.get (k := "_seats") (i := 1) (by decide +kernel), zf_get (k := "_seats") (i := 1) (by decide +kernel) rfl, c.sd, seatKV c.se, c.se.map (fun x => ((x.1 : Nat) : Int)), rfl, .inl hsd, ?_, ?_, fun ys l pm ps nl => ?_⟩
    · show (c.se.map _).map _ = (c.se.map _).map _
      rw [List.map_map, List.map_map]
      rfl
    · rw [List.length_map]; omega
    have ey := sorted_keys nod hn4 pm ps
    subst ey
    have x1 : Ex H (upd H l (.lst (((keysOf c.se).map fun n => ((n : Nat) : Int)).map V.int))) := Ex.new nl
    have hl : upd H l (.lst (((keysOf c.se).map fun n => ((n : Nat) : Int)).map V.int)) l = some (.lst ((keysOf c.se).map fun n => V.int (n : Nat))) := by rw [upd_same, List.map_map]; rfl
    generalize upd H l (.lst (((keysOf c.se).map fun n => ((n : Nat) : Int)).map V.int)) = H1 at x1 hl ⊢
    have hp1 := x1 _ _ hp
    have hsd1 := x1 _ _ hsd
    refine ⟨l, rfl, ⟨_, SqL.of hl⟩, fun D nD => ?_⟩
    refine lc_it (walk_list (K := K) (a := l) (xs := (keysOf c.se).map fun n => V.int (n : Nat))) (fun i H' => Ex H1 H' ∧ H' D = some (.lst ((((keysOf c.se).take i).filter fun n => match sOf n c.abs.seats with | none => false | some st => !st.left).map fun n => V.int (n : Nat)))) ⟨Ex.new nD, upd_same⟩ (fun i H' _ h => SqL.of (h.1 _ _ hl)) ?_ ?_
    · rintro i x H2 H3 hi ⟨e, hD⟩ ⟨rfl, hx⟩
      rw [List.getElem?_map] at hx
      cases en : (keysOf c.se)[i]? with
      | none => rw [en] at hx; cases hx
      | some n =>
        rw [en] at hx
        obtain rfl := Option.some.inj hx
        have hn : n ∈ keysOf c.se := List.mem_of_getElem? en
        unfold keysOf at hn
        rw [List.mem_filter] at hn
        obtain ⟨j, hj⟩ := Option.isSome_iff_exists.mp hn.2
        obtain ⟨y, hy, hyn⟩ := ixo_get hj
        have hs := hall_seat S hy
        have so : sOf n c.abs.seats = some y.2.1 := by
          unfold sOf
          rw [abs_ix, hj]
          show (c.abs.seats[j]?).map (·.2) = _
          rw [show c.abs.seats[j]? = some (y.1, y.2.1) from map_get hy]
          rfl
        refine ⟨rfl, ?_⟩
        refine ⟨_, rfl, p, cs.H, c.dx, _, _, rfl, e _ _ hp1, Th.cl, Th.no.get (k := "_seats") (i := 1) (by decide +kernel), zf_get (k := "_seats") (i := 1) (by decide +kernel) rfl, _, rfl, c.sd, _, rfl, dgk (k := .inl (n : Nat)) (e _ _ hsd1) (seat_val hj hy), y.2.2.1, cs.S, y.2.2.2, _, _, rfl, e _ _ (x1 _ _ hs), Ts.cl, Ts.no.get (k := "left") (i := 3) (by decide +kernel), zf_get (k := "left") (i := 3) (by decide +kernel) rfl, y.2.1.left, rfl, ?_⟩
        have step : ∀ b : Bool, y.2.1.left = b → ((keysOf c.se).take (i + 1)).filter (fun n => match sOf n c.abs.seats with | none => false | some st => !st.left) = ((keysOf c.se).take i).filter (fun n => match sOf n c.abs.seats with | none => false | some st => !st.left) ++ (if b = true then [] else [n]) := fun b hb => by
          rw [List.take_add_one, en, List.filter_append]
          congr 1
          show List.filter _ [n] = _
          rw [List.filter_cons, so]
          show (if (!y.2.1.left) = true then _ else _) = _
          rw [hb]
          cases b <;> rfl
        cases hb : y.2.1.left with
        | true =>
          refine iteF ⟨e, ?_⟩
          rw [hD, step true hb, if_pos rfl, List.append_nil]
        | false =>
          refine iteT ⟨_, rfl, _, hD, ?_, ex_set e nD, ?_⟩
          · rw [List.length_map]
            refine Nat.lt_of_le_of_lt (List.length_filter_le _ _) ?_
            rw [List.length_take]
            exact Nat.lt_of_le_of_lt (Nat.min_le_right _ _) (Nat.lt_of_le_of_lt hk4 (by decide))
          · rw [upd_same, step false hb, if_neg (by simp), List.map_append]
            rfl
    · rintro H2 ⟨e, hD⟩
      refine q D H2 (x1.trans e) (fresh_back x1 nD) ?_
      rw [hD, List.length_map, List.take_length, names_keys]
      have ek : keysOf c.abs.seats = keysOf c.se := by
        unfold keysOf
        congr 1
        funext n
        rw [abs_ix]
      rw [ek]
end
theorem name_so {h : Hl} {n : Nat} (hn : n ∈ h.names) : n < 4 ∧ ∃ st, sOf n h.seats = some st ∧ st.left = false := by
  unfold Hl.names at hn
  rw [List.mem_filter, List.mem_range] at hn
  refine ⟨hn.1, ?_⟩
  cases e : sOf n h.seats with
  | none => rw [e] at hn; cases hn.2
  | some st =>
    rw [e] at hn
    exact ⟨st, rfl, by simpa using hn.2⟩
theorem so_seat {c : HC} {n : Nat} {st : Sst} (h : sOf n c.abs.seats = some st) : ∃ i x, ixOf n c.se = some i ∧ c.se[i]? = some x ∧ x.1 = n ∧ x.2.1 = st := by
  obtain ⟨i, hi, hx⟩ := sOf_get h
  rw [abs_ix] at hi
  obtain ⟨x, hx2, hn⟩ := ixo_get hi
  have : c.abs.seats[i]? = some (x.1, x.2.1) := map_get hx2
  rw [hx] at this
  cases this
  exact ⟨i, x, hi, hx2, rfl, rfl⟩
theorem names_len {h : Hl} : h.names.length ≤ 4 := by
  unfold Hl.names
  exact Nat.le_trans (List.length_filter_le _ _) (by simp)
def Hl.letterL (h : Hl) (n : Nat) : List Nat := match sOf n h.seats with
  | none => []
  | some st => match h.panes[st.pane]? with
    | none => []
    | some s => hallL [n, st.session, st.pane, st.done, s.log.length] s.line s.rows
def Hl.lettersV (h : Hl) : List (List V) := h.names.map fun n => [.int (n : Nat), .str (txt (h.letterL n))]
structure HLen (h : Hl) : Prop where
  seats : ∀ x ∈ h.seats, x.2.session < 10000000 ∧ x.2.done < 10000000
  panes : ∀ s ∈ h.panes, s.log.length < 10000000
def spHLo (C : HCl) : Sp := fun vs H Q _ => ∃ (H0 : Hp) (p : Addr) (h : Hl), vs = [.ref p] ∧ Beh (hallA C p h) H0 H ∧ HOk h ∧ ∀ q us H', Ex H H' → H q = none → H' q = some (.lst us) → Tups H' us h.looksV → Q (.ref q) H'
def spHLr (T0 : Addr) (C : HCl) : Sp := fun vs H Q _ => ∃ (H0 : Hp) (p : Addr) (c : HC) (n i : Nat) (x : Nat × Sst × Addr × Addr), vs = [.ref p, .int n, .ref x.2.2.1] ∧ Sep (hallB C p c) H0 H ∧ HOk c.abs ∧ HLen c.abs ∧ ixOf n c.se = some i ∧ c.se[i]? = some x ∧ n < 4 ∧ H0 T0 = some (TabO T0) ∧
  ∀ H', Ex H H' → Q (.str (txt (c.abs.letterL n))) H'
def spHLt (T0 : Addr) (C : HCl) : Sp := fun vs H Q _ => ∃ (H0 : Hp) (p : Addr) (h : Hl), vs = [.ref p] ∧ Beh (hallA C p h) H0 H ∧ HOk h ∧ HLen h ∧ H0 T0 = some (TabO T0) ∧ ∀ q us H', Ex H H' → H q = none → H' q = some (.lst us) → Tups H' us h.lettersV → Q (.ref q) H'
section
variable {P : Program} {w : World} {K : PySem.W.Frag} {mg : Str → Option Value} {base : Heap}
structure CHal5 (P : Program) (w : World) (K : PySem.W.Frag) (mg : Str → Option Value) (base : Heap) (C : HCl) : Prop where
  names : MCal P w K mg base C.H "_names" 1 ["self"] (spHNa C)
theorem ok_hlo {f : Addr} {fd : FuncData} {cs : HCl} (F : Fun K "looks" "Hall.looks" sHLo f fd) (T : THal5 K mg cs) (C : CHal5 P w K mg base cs) : FnOk P w K mg base CX0 2 f fd ["self"] (spHLo cs) := by
  have Th := T.h
  have Ts := T.s
  refine F.ok scHLo (fun vs H Q E h => ?_) (fun cdv A outer s H vs Q E hr h => ?_)
  · obtain ⟨H0, p, h, rfl, _⟩ := h
    rfl
  · obtain ⟨H0, p, h, rfl, B, O, q⟩ := h
    refine ⟨_, (pss_one (ps_ret (pe_lc (own := [("name", 1)]) (g := gName 1) (tt := tYes) rfl scHLo.nd (pi_list (pmeth0 (pv 0) T.cl C.names (hr.mono (by first | decide | omega)))) (blkOk_by (own := [("name", 1)]) (N := ["self", "name"]) (sc := defScope sHLo) (by decide +kernel)) (fun _ _ _ _ _ => pg_name (i := 1) scHLo.nd rfl (Or.inl rfl)) (fun _ _ _ _ _ => pts_nil) (fun _ _ _ _ _ => (pe_tup (pa_cons (pv 1) (pa_cons (pe_fldK K (pe_dget (hu_of hr) (pe_fldK K (pv 0) rfl) (pv 1) (fun _ _ => rfl)) rfl) (pa_cons (pe_fldK K (pe_dget (hu_of hr) (pe_fldK K (pv 0) rfl) (pv 1) (fun _ _ => rfl)) rfl) pa_nil)))))))), ?_⟩
    obtain ⟨c, rfl, S⟩ := hall_beh.mp B
    have hp := hall_p S
    have hsd := hall_sd S
    refine ⟨_, rfl, p, c.dx, _, rfl, hp, zf_no (k := "_names") (by decide +kernel), H0, p, c, rfl, S, O, fun l H1 x1 nl hl => ⟨l, rfl, ⟨_, SqL.of hl⟩, fun D nD => ?_⟩⟩
    have hp1 := x1 _ _ hp
    have hsd1 := x1 _ _ hsd
    have nlen := names_len (h := c.abs)
    refine lc_it (walk_list (K := K) (a := l) (xs := c.abs.names.map fun n => V.int (n : Nat))) (fun i H' => Ex H1 H' ∧ ∃ us, H' D = some (.lst us) ∧ Tups H' us (c.abs.looksV.take i)) ⟨Ex.new nD, [], upd_same, trivial⟩ (fun i H' _ h => SqL.of (h.1 _ _ hl)) ?_ ?_
    · rintro i x H2 H3 hi ⟨e, us, hD, hT⟩ ⟨rfl, hx⟩
      rw [List.getElem?_map] at hx
      cases en : c.abs.names[i]? with
      | none => rw [en] at hx; cases hx
      | some n =>
        rw [en] at hx
        obtain rfl := Option.some.inj hx
        obtain ⟨hn4, st, so, _⟩ := name_so (List.mem_of_getElem? en)
        obtain ⟨j, y, hj, hy, hyn, hys⟩ := so_seat so
        subst hys
        have hs := e _ _ (x1 _ _ (hall_seat S hy))
        refine ⟨rfl, yes_lc ?_⟩
        refine ⟨_, rfl, _, rfl, p, cs.H, c.dx, _, _, rfl, e _ _ hp1, Th.cl, Th.no.get (k := "_seats") (i := 1) (by decide +kernel), zf_get (k := "_seats") (i := 1) (by decide +kernel) rfl, _, rfl, c.sd, _, rfl, dgk (k := .inl (n : Nat)) (e _ _ hsd1) (seat_val hj hy), y.2.2.1, cs.S, y.2.2.2, _, _, rfl, hs, Ts.cl, Ts.no.get (k := "session") (i := 0) (by decide +kernel), zf_get (k := "session") (i := 0) (by decide +kernel) rfl,
          _, rfl, p, cs.H, c.dx, _, _, rfl, e _ _ hp1, Th.cl, Th.no.get (k := "_seats") (i := 1) (by decide +kernel), zf_get (k := "_seats") (i := 1) (by decide +kernel) rfl, _, rfl, c.sd, _, rfl, dgk (k := .inl (n : Nat)) (e _ _ hsd1) (seat_val hj hy), y.2.2.1, cs.S, y.2.2.2, _, _, rfl, hs, Ts.cl, Ts.no.get (k := "pane") (i := 1) (by decide +kernel), zf_get (k := "pane") (i := 1) (by decide +kernel) rfl, (by show 3 ≤ sizeLine; decide), fun t nt => ?_⟩
        have ntD : D ≠ t := ne_of_none hD nt
        have hv : c.abs.looksV[i]? = some [.int (n : Nat), .int (y.2.1.session : Nat), .int (y.2.1.pane : Nat)] := by
          unfold Hl.looksV
          rw [List.getElem?_map, en]
          show some (match sOf n c.abs.seats with | none => [] | some st => _) = _
          rw [so]
        have y1 : Ex H3 (upd H3 t (.tup [.int (n : Nat), .int (y.2.1.session : Nat), .int (y.2.1.pane : Nat)])) := Ex.new nt
        refine ⟨us, y1 _ _ hD, ?_, ex_set (e.trans y1) nD, us ++ [.ref t], upd_same, ?_⟩
        · rw [hT.len, List.length_take]
          refine Nat.lt_of_le_of_lt (Nat.min_le_right _ _) ?_
          unfold Hl.looksV
          rw [List.length_map]
          exact Nat.lt_of_le_of_lt nlen (by decide)
        · rw [List.take_add_one, hv]
          refine Tups.snoc ?_ ((hT.mono (TupEx.ex y1)).mono (TupEx.lst (y1 _ _ hD)))
          rw [upd_ne ntD.symm, upd_same]
    · rintro H2 ⟨e, us, hD, hT⟩
      refine q D us H2 (x1.trans e) (fresh_back x1 nD) hD ?_
      rw [List.length_map] at hT
      have : c.abs.looksV.take c.abs.names.length = c.abs.looksV := List.take_of_length_le (by unfold Hl.looksV; rw [List.length_map]; exact Nat.le_refl _)
      rw [this] at hT
      exact hT
structure THal6 (K : PySem.W.Frag) (C : HCl) : Prop where
  h : ClsN K C.H HKK
  s : ClsN K C.S SKK
  clP : Cls K C.P
structure CHal6 (P : Program) (w : World) (K : PySem.W.Frag) (mg : Str → Option Value) (base : Heap) (T0 : Addr) (C : HCl) : Prop where
  hall_letter : Cal P w K mg base "hall_letter" 4 ["name", "session", "pane", "done", "changes", "line", "rows"] (spHle T0 K)
  Pane_changes : MCal P w K mg base C.P "changes" 1 ["self"] (spCh C.P)
  Pane_line : MCal P w K mg base C.P "line" 1 ["self"] (spLi C.P)
  Pane_rows : MCal P w K mg base C.P "rows" 1 ["self"] (spRo C.P)
theorem ok_hlr {f T0 : Addr} {fd : FuncData} {cs : HCl} (F : Fun K "_letter" "Hall._letter" sHLr f fd) (T : THal6 K cs) (C : CHal6 P w K mg base T0 cs) : FnOk P w K mg base CX0 5 f fd ["self", "name", "seat"] (spHLr T0 cs) := by
  have Th := T.h
  have Ts := T.s
  refine F.ok scHLr (fun vs H Q E h => ?_) (fun cdv A outer s H vs Q E hr h => ?_)
  · obtain ⟨H0, p, c, n, i, x, rfl, _⟩ := h
    rfl
  · obtain ⟨H0, p, c, n, i, x, rfl, S, O, Ln, hix, hx, hn4, hT, q⟩ := h
    refine ⟨_, (pss_cons (ps_set (i := 3) scHLr.nd rfl (Or.inl rfl) (pe_ix ix_list (pe_fld (pv 0) rfl) (pe_fld (pv 2) rfl) (fun _ _ => rfl)))
      (pss_one (ps_ret (pcall C.hall_letter (hr.mono (by first | decide | omega)) (pa_cons (pv 1) (pa_cons (pe_fld (pv 2) rfl) (pa_cons (pe_fld (pv 2) rfl) (pa_cons (pe_fld (pv 2) rfl) (pa_cons (pmeth0 (pv 3) T.clP C.Pane_changes (hr.mono (by first | decide | omega))) (pa_cons (pmeth0 (pv 3) T.clP C.Pane_line (hr.mono (by first | decide | omega))) (pa_cons (pmeth0 (pv 3) T.clP C.Pane_rows (hr.mono (by first | decide | omega))) pa_nil))))))))))), ?_⟩
    have hp := hall_p S
    have hpl := hall_pl S
    have hs := hall_seat S hx
    have hax : c.abs.seats[i]? = some (x.1, x.2.1) := map_get hx
    have hpn : x.2.1.pane < c.pn.length := by
      have := O.pane (x.1, x.2.1) (List.mem_of_getElem? hax)
      have e2 : c.abs.panes.length = c.pn.length := by
        show (c.pn.map _).length = _
        rw [List.length_map]
      rw [← e2]
      exact this
    have hy := List.getElem?_eq_getElem hpn
    generalize c.pn[x.2.1.pane] = y at hy
    have hpy : c.abs.panes[x.2.1.pane]? = some y.2 := map_get hy
    have hmy : y.2 ∈ c.abs.panes := List.mem_of_getElem? hpy
    obtain ⟨Oy, Py⟩ := O.panes y.2 hmy
    obtain ⟨G, xG, R, back⟩ := hall_pane S hy
    obtain ⟨d0, r0, t0, u0, jv, b0, j0⟩ := R.at
    have hll : c.abs.letterL n = hallL [n, x.2.1.session, x.2.1.pane, x.2.1.done, y.2.log.length] y.2.line y.2.rows := by
      unfold Hl.letterL
      have so : sOf n c.abs.seats = some x.2.1 := by
        unfold sOf
        rw [abs_ix, hix]
        show (c.abs.seats[i]?).map (·.2) = _
        rw [hax]
        rfl
      rw [so]
      show (match c.abs.panes[x.2.1.pane]? with | none => [] | some s => _) = _
      rw [hpy]
    rw [hll] at q
    obtain ⟨l1, l2⟩ := Ln.seats (x.1, x.2.1) (List.mem_of_getElem? hax)
    have l1 : x.2.1.session < 10000000 := l1
    have l2 : x.2.1.done < 10000000 := l2
    have l3 := Ln.panes y.2 hmy
    have l4 : x.2.1.pane < 3 := by
      have h1 := O.len
      have h2 := O.pane (x.1, x.2.1) (List.mem_of_getElem? hax)
      have h3 : x.2.1.pane < c.abs.panes.length := h2
      omega
    refine ⟨_, rfl, p, cs.H, c.dx, _, _, rfl, hp, Th.cl, Th.no.get (k := "_panes") (i := 0) (by decide +kernel), zf_get (k := "_panes") (i := 0) (by decide +kernel) rfl, _, rfl, x.2.2.1, cs.S, x.2.2.2, _, _, rfl, hs, Ts.cl, Ts.no.get (k := "pane") (i := 1) (by decide +kernel), zf_get (k := "pane") (i := 1) (by decide +kernel) rfl, c.pl, _, _, _, rfl, rfl, SqL.of hpl, atI_nat (j := x.2.1.pane) (map_get hy), ?_⟩
    refine ⟨_, rfl, _, rfl, x.2.2.1, cs.S, x.2.2.2, _, _, rfl, hs, Ts.cl, Ts.no.get (k := "session") (i := 0) (by decide +kernel), zf_get (k := "session") (i := 0) (by decide +kernel) rfl, _, rfl, x.2.2.1, cs.S, x.2.2.2, _, _, rfl, hs, Ts.cl, Ts.no.get (k := "pane") (i := 1) (by decide +kernel), zf_get (k := "pane") (i := 1) (by decide +kernel) rfl, _, rfl, x.2.2.1, cs.S, x.2.2.2, _, _, rfl, hs, Ts.cl, Ts.no.get (k := "done") (i := 2) (by decide +kernel), zf_get (k := "done") (i := 2) (by decide +kernel) rfl, ?_⟩
    refine ⟨_, rfl, y.1, d0, _, rfl, b0, pf_no (by decide +kernel) (by decide +kernel) (by decide +kernel) (by decide +kernel) (by decide +kernel) (by decide +kernel), G, y.1, y.2, rfl, R, ?_⟩
    refine ⟨_, rfl, y.1, d0, _, rfl, b0, pf_no (by decide +kernel) (by decide +kernel) (by decide +kernel) (by decide +kernel) (by decide +kernel) (by decide +kernel), G, y.1, y.2, rfl, R, ?_⟩
    refine ⟨_, rfl, y.1, d0, _, rfl, b0, pf_no (by decide +kernel) (by decide +kernel) (by decide +kernel) (by decide +kernel) (by decide +kernel) (by decide +kernel), G, y.1, y.2, rfl, R, fun l nl => ?_⟩
    have x1 : Ex H (upd H l (.lst (y.2.rows.map V.str))) := Ex.new nl
    refine ⟨l, y.2.line, y.2.rows, n, x.2.1.session, x.2.1.pane, x.2.1.done, y.2.log.length, rfl, SqL.of upd_same, fun m hm => ?_, cl_fld Py.line (Nat.le_trans Oy.line (by decide)), Oy.rows, fun r hr => cl_fld (Py.rows r hr) (Nat.le_trans (Oy.rasc r hr).2 (by decide)), x1 _ _ (S.base _ _ hT), fun H2 e2 => q H2 (x1.trans e2)⟩
    simp only [List.mem_cons, List.mem_nil_iff, or_false] at hm
    omega
structure CHal7 (P : Program) (w : World) (K : PySem.W.Frag) (mg : Str → Option Value) (base : Heap) (T0 : Addr) (C : HCl) : Prop where
  names : MCal P w K mg base C.H "_names" 1 ["self"] (spHNa C)
  letter : MCal P w K mg base C.H "_letter" 5 ["self", "name", "seat"] (spHLr T0 C)
theorem ok_hlt {f T0 : Addr} {fd : FuncData} {cs : HCl} (F : Fun K "letters" "Hall.letters" sHLt f fd) (T : THal5 K mg cs) (C : CHal7 P w K mg base T0 cs) : FnOk P w K mg base CX0 6 f fd ["self"] (spHLt T0 cs) := by
  have Th := T.h
  have Ts := T.s
  refine F.ok scHLt (fun vs H Q E h => ?_) (fun cdv A outer s H vs Q E hr h => ?_)
  · obtain ⟨H0, p, h, rfl, _⟩ := h
    rfl
  · obtain ⟨H0, p, h, rfl, B, O, Ln, hT0, q⟩ := h
    refine ⟨_, (pss_one (ps_ret (pe_lc (own := [("name", 1)]) (g := gName 1) (tt := tYes) rfl scHLt.nd (pi_list (pmeth0 (pv 0) T.cl C.names (hr.mono (by first | decide | omega)))) (blkOk_by (own := [("name", 1)]) (N := ["self", "name"]) (sc := defScope sHLt) (by decide +kernel)) (fun _ _ _ _ _ => pg_name (i := 1) scHLt.nd rfl (Or.inl rfl)) (fun _ _ _ _ _ => pts_nil) (fun _ _ _ _ _ => (pe_tup (pa_cons (pv 1) (pa_cons (pmeth (pv 0) T.cl C.letter (hr.mono (by first | decide | omega)) (pa_cons (pv 1) (pa_cons (pe_dget (hu_of hr) (pe_fldK K (pv 0) rfl) (pv 1) (fun _ _ => rfl)) pa_nil))) pa_nil))))))), ?_⟩
    obtain ⟨c, rfl, S⟩ := hall_beh.mp B
    have hp := hall_p S
    have hsd := hall_sd S
    refine ⟨_, rfl, p, c.dx, _, rfl, hp, zf_no (k := "_names") (by decide +kernel), H0, p, c, rfl, S, O, fun l H1 x1 nl hl => ⟨l, rfl, ⟨_, SqL.of hl⟩, fun D nD => ?_⟩⟩
    have hp1 := x1 _ _ hp
    have hsd1 := x1 _ _ hsd
    have nlen := names_len (h := c.abs)
    refine lc_it (walk_list (K := K) (a := l) (xs := c.abs.names.map fun n => V.int (n : Nat))) (fun i H' => Ex H1 H' ∧ ∃ us, H' D = some (.lst us) ∧ Tups H' us (c.abs.lettersV.take i)) ⟨Ex.new nD, [], upd_same, trivial⟩ (fun i H' _ h => SqL.of (h.1 _ _ hl)) ?_ ?_
    · rintro i x H2 H3 hi ⟨e, us, hD, hT⟩ ⟨rfl, hx⟩
      rw [List.getElem?_map] at hx
      cases en : c.abs.names[i]? with
      | none => rw [en] at hx; cases hx
      | some n =>
        rw [en] at hx
        obtain rfl := Option.some.inj hx
        obtain ⟨hn4, st, so, _⟩ := name_so (List.mem_of_getElem? en)
        obtain ⟨j, y, hj, hy, hyn, hys⟩ := so_seat so
        subst hys
        have S3 := S.ex (hallBT cs p c) (x1.trans e)
        refine ⟨rfl, yes_lc ?_⟩
        refine ⟨_, rfl, _, rfl, p, c.dx, _, rfl, e _ _ hp1, zf_no (k := "_letter") (by decide +kernel), _, rfl, _, rfl, p, cs.H, c.dx, _, _, rfl, e _ _ hp1, Th.cl, Th.no.get (k := "_seats") (i := 1) (by decide +kernel), zf_get (k := "_seats") (i := 1) (by decide +kernel) rfl, _, rfl, c.sd, _, rfl, dgk (k := .inl (n : Nat)) (e _ _ hsd1) (seat_val hj hy), ?_⟩
        refine ⟨H0, p, c, n, j, y, rfl, S3, O, Ln, hj, hy, hn4, hT0, fun H4 e4 => ⟨by show 2 ≤ sizeLine; decide, fun t nt => ?_⟩⟩
        have hD4 := e4 _ _ hD
        have ntD : D ≠ t := ne_of_none hD4 nt
        have hv : c.abs.lettersV[i]? = some [.int (n : Nat), .str (txt (c.abs.letterL n))] := by
          unfold Hl.lettersV
          rw [List.getElem?_map, en]
          rfl
        have y1 : Ex H4 (upd H4 t (.tup [.int (n : Nat), .str (txt (c.abs.letterL n))])) := Ex.new nt
        refine ⟨us, y1 _ _ hD4, ?_, ex_set ((e.trans e4).trans y1) nD, us ++ [.ref t], upd_same, ?_⟩
        · rw [hT.len, List.length_take]
          refine Nat.lt_of_le_of_lt (Nat.min_le_right _ _) ?_
          unfold Hl.lettersV
          rw [List.length_map]
          exact Nat.lt_of_le_of_lt nlen (by decide)
        · rw [List.take_add_one, hv]
          refine Tups.snoc ?_ ((hT.mono (TupEx.ex (e4.trans y1))).mono (TupEx.lst (y1 _ _ hD4)))
          rw [upd_ne ntD.symm, upd_same]
    · rintro H2 ⟨e, us, hD, hT⟩
      refine q D us H2 (x1.trans e) (fresh_back x1 nD) hD ?_
      rw [List.length_map] at hT
      have : c.abs.lettersV.take c.abs.names.length = c.abs.lettersV := List.take_of_length_le (by unfold Hl.lettersV; rw [List.length_map]; exact Nat.le_refl _)
      rw [this] at hT
      exact hT
end
end Vf
namespace Vf
open PySem PySem.Spec PyProof.Rows L2 Evl GxR
/-! ### the hall's panes go on -/
abbrev sHBe : Stmt := inClass (topS 63) 1
theorem scHBe : FnScope ["self"] ["self"] (defScope sHBe) := ⟨rfl, rfl, rfl, by decide +kernel, rfl, by decide +kernel, by decide +kernel⟩
abbrev sHTy : Stmt := inClass (topS 63) 5
theorem scHTy : FnScope ["self", "pane"] ["self", "pane"] (defScope sHTy) := ⟨rfl, rfl, rfl, by decide +kernel, rfl, by decide +kernel, by decide +kernel⟩
def Hl.beat (h : Hl) : Hl := { h with panes := h.panes.map Pn.beat }
def spHBe (C : HCl) : Sp := fun vs H Q _ => ∃ (H0 : Hp) (p : Addr) (h : Hl), vs = [.ref p] ∧ Beh (hallA C p h) H0 H ∧ HOk h ∧ ∀ H', Beh (hallA C p h.beat) H0 H' → Q .non H'
def spHTy (C : HCl) : Sp := fun vs H Q _ => ∃ (H0 : Hp) (p : Addr) (h : Hl) (i : Nat) (s : Pn), vs = [.ref p, .int i] ∧ Beh (hallA C p h) H0 H ∧ h.panes[i]? = some s ∧ ∀ l ts, H l = none → Tups H ts s.typed → Q (.ref l) (upd H l (.lst ts))
structure CHal8 (P : Program) (w : World) (K : PySem.W.Frag) (mg : Str → Option Value) (base : Heap) (C : HCl) : Prop where
  Pane_beat : MCal P w K mg base C.P "beat" 3 ["self"] (spBe C.P)
structure CHal9 (P : Program) (w : World) (K : PySem.W.Frag) (mg : Str → Option Value) (base : Heap) (C : HCl) : Prop where
  is_within : Cal P w K mg base "is_within" 2 ["number", "least", "most"] spWit
  Pane_typed : MCal P w K mg base C.P "typed" 1 ["self"] (spTy C.P)
structure THal9 (K : PySem.W.Frag) (mg : Str → Option Value) (C : HCl) : Prop extends THal6 K C where
  z_len : mg "len" = none
section
variable {P : Program} {w : World} {K : PySem.W.Frag} {mg : Str → Option Value} {base : Heap}
theorem ok_hty {f : Addr} {fd : FuncData} {cs : HCl} (F : Fun K "typed" "Hall.typed" sHTy f fd) (T : THal9 K mg cs) (C : CHal9 P w K mg base cs) : FnOk P w K mg base CX0 3 f fd ["self", "pane"] (spHTy cs) := by
  have Th := T.h
  refine F.ok scHTy (fun vs H Q E h => ?_) (fun cdv A outer s H vs Q E hr h => ?_)
  · obtain ⟨H0, p, h, i, st, rfl, _⟩ := h
    rfl
  · obtain ⟨H0, p, h, i, st, rfl, B, hi, q⟩ := h
    refine ⟨_, (pss_cons (ps_if (pt_not (pt_val (pcall C.is_within (hr.mono (by first | decide | omega)) (pa_cons (pv 1) (pa_cons pe_int (pa_cons (pe_op op_sub (pe_callB call_len_seq (by rfl) T.z_len PySem.boot_len (pa_cons (pe_fld (pv 0) rfl) pa_nil)) pe_int) pa_nil)))))) pss_never pss_nil)
      (pss_one (ps_ret (pmeth0 (pe_ix ix_list (pe_fld (pv 0) rfl) (pv 1) (fun _ _ => rfl)) T.clP C.Pane_typed (hr.mono (by first | decide | omega)))))), ?_⟩
    obtain ⟨c, rfl, S⟩ := hall_beh.mp B
    have hp := hall_p S
    have hpl := hall_pl S
    have hi2 : (c.pn.map (·.2))[i]? = some st := hi
    rw [List.getElem?_map] at hi2
    cases e : c.pn[i]? with
    | none => rw [e] at hi2; cases hi2
    | some x =>
      rw [e] at hi2
      obtain rfl := Option.some.inj hi2
      have li : i < c.pn.length := lt_of_get e
      have lp : (paneV c.pn).length = c.pn.length := by unfold paneV; rw [List.length_map]
      obtain ⟨G, xG, R, back⟩ := hall_pane S e
      obtain ⟨d0, r0, t0, u0, jv, b0, j0⟩ := R.at
      refine ⟨_, rfl, _, rfl, p, cs.H, c.dx, _, _, rfl, hp, Th.cl, Th.no.get (k := "_panes") (i := 0) (by decide +kernel), zf_get (k := "_panes") (i := 0) (by decide +kernel) rfl, c.pl, _, rfl, .inl (SqL.of hpl), _, _, rfl, rfl, _, _, _, rfl, .inl ⟨_, rfl, _, rfl, ite2 (fun e => absurd e (wit_no (by omega))) fun _ => ?_⟩⟩
      exact ⟨_, rfl, p, cs.H, c.dx, _, _, rfl, hp, Th.cl, Th.no.get (k := "_panes") (i := 0) (by decide +kernel), zf_get (k := "_panes") (i := 0) (by decide +kernel) rfl, _, rfl, c.pl, _, _, _, rfl, rfl, SqL.of hpl, atI_nat (j := i) (map_get e), x.1, d0, _, rfl, b0, pf_no (by decide +kernel) (by decide +kernel) (by decide +kernel) (by decide +kernel) (by decide +kernel) (by decide +kernel), G, x.1, x.2, rfl, R, q⟩
end
end Vf
namespace Vf
open PySem PySem.Spec PyProof.Rows L2 Evl GxR
/-! ### what the hall tells of its panes -/
abbrev sHPa : Stmt := inClass (topS 63) 4
theorem scHPa : FnScope ["self", "pane"] ["self"] (defScope sHPa) := ⟨rfl, rfl, rfl, by decide +kernel, rfl, by decide +kernel, by decide +kernel⟩
def PaneT (H : Hp) (v : V) (s : Pn) : Prop := ∃ t r jv, v = .ref t ∧ H t = some (.tup [.ref r, .str s.line, jv, .int (s.log.length : Nat)]) ∧ H r = some (.lst (s.rows.map V.str)) ∧ JobAt H jv s.job
def PanesT (H : Hp) (us : List V) (ps : List Pn) : Prop := us.length = ps.length ∧ ∀ (i : Nat) (v : V) (s : Pn), us[i]? = some v → ps[i]? = some s → PaneT H v s
def spHPa (C : HCl) : Sp := fun vs H Q _ => ∃ (H0 : Hp) (p : Addr) (h : Hl), vs = [.ref p] ∧ Beh (hallA C p h) H0 H ∧ HOk h ∧ ∀ q us H', Ex H H' → H q = none → H' q = some (.lst us) → PanesT H' us h.panes → Q (.ref q) H'
theorem JobAt.ex {H H' : Hp} {jv : V} {j : Option (Int × Int)} (h : JobAt H jv j) (e : Ex H H') : JobAt H' jv j := by
  cases j with
  | none => exact h
  | some x =>
    obtain ⟨a, h1, h2⟩ := h
    exact ⟨a, h1, e _ _ h2⟩
theorem PaneT.ex {H H' : Hp} {v : V} {s : Pn} (h : PaneT H v s) (e : Ex H H') : PaneT H' v s := by
  obtain ⟨t, r, jv, h1, h2, h3, h4⟩ := h
  exact ⟨t, r, jv, h1, e _ _ h2, e _ _ h3, h4.ex e⟩
def off (D : Addr) (H : Hp) : Hp := fun a => if a = D then none else H a
theorem off_ne {D a : Addr} {H : Hp} (h : a ≠ D) : off D H a = H a := if_neg h
theorem off_ex {D : Addr} {H H' : Hp} (e : Ex H H') : Ex (off D H) (off D H') := fun a o h => by
  by_cases k : a = D
  · unfold off at h
    rw [if_pos k] at h
    cases h
  · rw [off_ne k] at h ⊢
    exact e _ _ h
theorem off_back {D : Addr} {H : Hp} : Ex (off D H) H := fun a o h => by
  by_cases k : a = D
  · unfold off at h
    rw [if_pos k] at h
    cases h
  · rw [off_ne k] at h
    exact h
theorem off_upd {D : Addr} {H : Hp} {o : HO} : off D (upd H D o) = off D H := funext fun a => by
  by_cases k : a = D
  · unfold off
    rw [if_pos k, if_pos k]
  · rw [off_ne k, off_ne k, upd_ne k]
structure CHal10 (P : Program) (w : World) (K : PySem.W.Frag) (mg : Str → Option Value) (base : Heap) (C : HCl) : Prop where
  Pane_rows : MCal P w K mg base C.P "rows" 1 ["self"] (spRo C.P)
  Pane_line : MCal P w K mg base C.P "line" 1 ["self"] (spLi C.P)
  Pane_job : MCal P w K mg base C.P "job" 1 ["self"] (spJo C.P)
  Pane_changes : MCal P w K mg base C.P "changes" 1 ["self"] (spCh C.P)
section
variable {P : Program} {w : World} {K : PySem.W.Frag} {mg : Str → Option Value} {base : Heap}
theorem ok_hpa {f : Addr} {fd : FuncData} {cs : HCl} (F : Fun K "panes" "Hall.panes" sHPa f fd) (T : THal6 K cs) (C : CHal10 P w K mg base cs) : FnOk P w K mg base CX0 2 f fd ["self"] (spHPa cs) := by
  have Th := T.h
  refine F.ok scHPa (fun vs H Q E h => ?_) (fun cdv A outer s H vs Q E hr h => ?_)
  · obtain ⟨H0, p, h, rfl, _⟩ := h
    rfl
  · obtain ⟨H0, p, h, rfl, B, O, q⟩ := h
    refine ⟨_, (pss_one (ps_ret (pe_lc (own := [("pane", 1)]) (g := gName 1) (tt := tYes) rfl scHPa.nd (pi_list (pe_fld (pv 0) rfl)) (blkOk_by (own := [("pane", 1)]) (N := ["self", "pane"]) (sc := defScope sHPa) (by decide +kernel)) (fun _ _ _ _ _ => pg_name (i := 1) scHPa.nd rfl (Or.inl rfl)) (fun _ _ _ _ _ => pts_nil) (fun _ _ _ _ _ => (pe_tup (pa_cons (pmeth0 (pv 1) T.clP C.Pane_rows (hr.mono (by first | decide | omega))) (pa_cons (pmeth0 (pv 1) T.clP C.Pane_line (hr.mono (by first | decide | omega))) (pa_cons (pmeth0 (pv 1) T.clP C.Pane_job (hr.mono (by first | decide | omega))) (pa_cons (pmeth0 (pv 1) T.clP C.Pane_changes (hr.mono (by first | decide | omega))) pa_nil))))))))), ?_⟩
    obtain ⟨c, rfl, S⟩ := hall_beh.mp B
    have hp := hall_p S
    have hpl := hall_pl S
    refine ⟨_, rfl, p, cs.H, c.dx, _, _, rfl, hp, Th.cl, Th.no.get (k := "_panes") (i := 0) (by decide +kernel), zf_get (k := "_panes") (i := 0) (by decide +kernel) rfl, c.pl, rfl, ⟨_, SqL.of hpl⟩, fun D nD => ?_⟩
    have l3 : c.pn.length ≤ 3 := by
      have := O.len
      have e : c.abs.panes.length = c.pn.length := by show (c.pn.map _).length = _; rw [List.length_map]
      omega
    refine lc_it (walk_list (K := K) (a := c.pl) (xs := paneV c.pn)) (fun i H' => Ex H H' ∧ ∃ us, H' D = some (.lst us) ∧ us.length = i ∧ ∀ (j : Nat) (v : V) (x : Addr × Pn), us[j]? = some v → c.pn[j]? = some x → PaneT (off D H') v x.2) ⟨Ex.new nD, [], upd_same, rfl, fun j v x h _ => by simp at h⟩ (fun i H' _ h => SqL.of (h.1 _ _ hpl)) ?_ ?_
    · rintro i v Ho H1 hi ⟨e, us, hD, hl, hus⟩ ⟨rfl, hx⟩
      unfold paneV at hx
      rw [List.getElem?_map] at hx
      cases ep : c.pn[i]? with
      | none => rw [ep] at hx; cases hx
      | some x =>
        rw [ep] at hx
        obtain rfl := Option.some.inj hx
        have li : i < c.pn.length := lt_of_get ep
        refine ⟨rfl, yes_lc ?_⟩
        have S1 := S.ex (hallBT cs p c) e
        obtain ⟨G, xG, R, back⟩ := hall_pane S1 ep
        obtain ⟨d0, r0, t0, u0, jv0, b0, j0⟩ := R.at
        refine ⟨_, rfl, x.1, d0, _, rfl, b0, pf_no (by decide +kernel) (by decide +kernel) (by decide +kernel) (by decide +kernel) (by decide +kernel) (by decide +kernel), G, x.1, x.2, rfl, R, fun r nr => ?_⟩
        have nrD : r ≠ D := fun k => by rw [k, hD] at nr; cases nr
        have y1 : Ex H1 (upd H1 r (.lst (x.2.rows.map V.str))) := Ex.new nr
        have hr2 : upd H1 r (.lst (x.2.rows.map V.str)) r = some (.lst (x.2.rows.map V.str)) := upd_same
        generalize upd H1 r (.lst (x.2.rows.map V.str)) = H2 at y1 hr2 ⊢
        have R2 := R.ex y1
        have b2 := y1 _ _ b0
        refine ⟨_, rfl, x.1, d0, _, rfl, b2, pf_no (by decide +kernel) (by decide +kernel) (by decide +kernel) (by decide +kernel) (by decide +kernel) (by decide +kernel), G, x.1, x.2, rfl, R2, ?_⟩
        refine ⟨_, rfl, x.1, d0, _, rfl, b2, pf_no (by decide +kernel) (by decide +kernel) (by decide +kernel) (by decide +kernel) (by decide +kernel) (by decide +kernel), G, x.1, x.2, rfl, R2, fun jv hjv => ?_⟩
        refine ⟨_, rfl, x.1, d0, _, rfl, b2, pf_no (by decide +kernel) (by decide +kernel) (by decide +kernel) (by decide +kernel) (by decide +kernel) (by decide +kernel), G, x.1, x.2, rfl, R2, (by show 4 ≤ sizeLine; decide), fun t nt => ?_⟩
        have y2 : Ex H2 (upd H2 t (.tup [.ref r, .str x.2.line, jv, .int (x.2.log.length : Nat)])) := Ex.new nt
        have ht : upd H2 t (.tup [.ref r, .str x.2.line, jv, .int (x.2.log.length : Nat)]) t = some (.tup [.ref r, .str x.2.line, jv, .int (x.2.log.length : Nat)]) := upd_same
        have ntD : t ≠ D := fun k => by rw [k, y1 _ _ hD] at nt; cases nt
        generalize upd H2 t (.tup [.ref r, .str x.2.line, jv, .int (x.2.log.length : Nat)]) = H3 at y2 ht ⊢
        have y3 := y1.trans y2
        refine ⟨us, y3 _ _ hD, ?_, ex_set (e.trans y3) nD, us ++ [.ref t], upd_same, by rw [List.length_append, hl]; rfl, fun j v x2 hv hx2 => ?_⟩
        · exact Nat.lt_of_le_of_lt (show us.length ≤ 3 by omega) (by decide)
        · rw [off_upd]
          by_cases k : j < us.length
          · rw [List.getElem?_append_left k] at hv
            exact (hus j v x2 hv hx2).ex (off_ex y3)
          · have kj : j = us.length := by
              have := lt_of_get hv
              rw [List.length_append] at this
              have : j < us.length + 1 := this
              omega
            rw [kj, List.getElem?_append_right (Nat.le_refl _), Nat.sub_self] at hv
            cases hv
            rw [kj, hl, ep] at hx2
            cases hx2
            refine ⟨t, r, jv, rfl, by rw [off_ne ntD]; exact ht, by rw [off_ne nrD]; exact y2 _ _ hr2, ?_⟩
            have hj3 := hjv.ex y2
            cases hjob : x.2.job with
            | none => rw [hjob] at hj3; exact hj3
            | some bn =>
              rw [hjob] at hj3
              obtain ⟨a, h1, h2⟩ := hj3
              exact ⟨a, h1, by rw [off_ne (fun k => by rw [k, y3 _ _ hD] at h2; cases h2)]; exact h2⟩
    · rintro H1 ⟨e, us, hD, hl, hus⟩
      refine q D us H1 e nD hD ⟨?_, fun j v s hv hs => ?_⟩
      · rw [hl]
        show (paneV c.pn).length = (c.pn.map (·.2)).length
        unfold paneV
        rw [List.length_map, List.length_map]
      · have hs2 : (c.pn.map (·.2))[j]? = some s := hs
        rw [List.getElem?_map] at hs2
        cases ep : c.pn[j]? with
        | none => rw [ep] at hs2; cases hs2
        | some x =>
          rw [ep] at hs2
          cases hs2
          exact (hus j v x hv ep).ex off_back
end
end Vf
namespace Vf
open PySem PySem.Spec PyProof.Rows L2 Evl GxR
/-! ### the law's own list of seats -/
def stH (o : Option Sst) (s p : Nat) (g : Bool) : Sst :=
  let st := match o with
    | none => ⟨s, p, 0, false⟩
    | some st => if st.session < s then ⟨s, p, 0, false⟩ else st
  if st.session = s ∧ g = true then { st with left := true } else st
def putS {α : Type} (se : List (Nat × α)) (n : Nat) (st : α) : List (Nat × α) := match ixOf n se with
  | none => se ++ [(n, st)]
  | some i => se.set i (n, st)
def hrdL (se : List (Nat × Sst)) (n s p : Nat) (g : Bool) : List (Nat × Sst) := putS se n (stH (sOf n se) s p g)
def seatV (s : Sst) : List V := [.int (s.session : Nat), .int (s.pane : Nat), .bl (!s.left)]
def seatD (d : Addr) (se : List (Nat × Sst)) : Prd := fun fp H => fp = [d] ∧ ∃ tl : List (Nat × Sst × Addr × Addr), (tl.map fun x => (x.1, x.2.1)) = se ∧ H d = some (.dK (seatKV tl)) ∧ ∀ x ∈ tl, H x.2.2.1 = some (.tup (seatV x.2.1))
theorem seatDT (d : Addr) (se : List (Nat × Sst)) : Thing (seatD d se) := by
  refine ⟨fun fp H H' ⟨e, tl, h1, h2, h3⟩ te k => ⟨e, tl, h1, ?_, fun x hx => te _ _ (h3 x hx)⟩, fun fp H ⟨e, tl, h1, h2, h3⟩ b hb => ?_⟩
  · subst e
    rw [k d (by simp)]
    exact h2
  · subst e
    rw [List.mem_singleton.mp hb]
    exact ⟨_, h2, fun _ z => by cases z⟩
def spHrd : Sp := fun vs H Q _ => ∃ (H0 : Hp) (d t : Addr) (se : List (Nat × Sst)) (n s p : Nat) (z : Str), vs = [.ref d, .ref t, .str z] ∧ Beh (seatD d se) H0 H ∧ (se.map (·.1)).Nodup ∧ se.length ≤ 4 ∧ H t = some (.tup [.int (n : Nat), .int (s : Nat), .int (p : Nat)]) ∧ 1 ≤ s ∧
  ∀ H', Beh (seatD d (hrdL se n s p (decide (z = "gone")))) H0 H' → Q .non H'
theorem sOf_ix {α : Type} {n : Nat} {se : List (Nat × α)} {i : Nat} {x : Nat × α} (h : ixOf n se = some i) (e : se[i]? = some x) : sOf n se = some x.2 := by
  unfold sOf
  rw [h, ]
  show (se[i]?).map (·.2) = _
  rw [e]
  rfl
theorem sOf_none {α : Type} {n : Nat} {se : List (Nat × α)} (h : ixOf n se = none) : sOf n se = none := by
  unfold sOf
  rw [h]
section
variable {P : Program} {w : World} {K : PySem.W.Frag} {mg : Str → Option Value} {base : Heap}
end
end Vf
namespace Vf
open PySem PySem.Spec PyProof.Rows L2 Evl GxR
/-! ### worlds -/
def WKK : List Str := ["_hall", "_many", "_looks", "_sessions", "_road"]
/-- a dict by whole numbers, in its turn -/
def gKV {α : Type} (f : α → V) (se : List (Nat × α)) : List (Key × V) := se.map fun x => (.inl (x.1 : Nat), f x.2)
theorem g_val {α : Type} {f : α → V} {n : Nat} : ∀ {se : List (Nat × α)} {x : α}, sOf n se = some x → valV (gKV f se) (.inl (n : Nat)) = some (f x)
  | y :: r, x, h => by
    by_cases e : y.1 = n
    · have : x = y.2 := by
        unfold sOf ixOf at h
        rw [if_pos e] at h
        exact (Option.some.inj h).symm
      subst this
      exact valV_pos (keyn.mpr e)
    · refine (valV_neg (fun k => e (keyn.mp k))).trans (g_val (se := r) ?_)
      unfold sOf ixOf at h
      rw [if_neg e] at h
      unfold sOf
      cases h2 : ixOf n r with
      | none => rw [h2] at h; exact h
      | some i => rw [h2] at h; exact h
  | [], x, h => by cases h
theorem ixo_sof {α : Type} {n : Nat} {se : List (Nat × α)} : sOf n se = none ↔ ixOf n se = none := by
  constructor
  · intro h
    cases e : ixOf n se with
    | none => rfl
    | some i =>
      obtain ⟨x, hx, _⟩ := ixo_get e
      unfold sOf at h
      rw [e] at h
      have : (se[i]?).map (·.2) = none := h
      rw [hx] at this
      cases this
  · exact fun h => sOf_none h
theorem g_val0 {α : Type} {f : α → V} {n : Nat} : ∀ {se : List (Nat × α)}, sOf n se = none → valV (gKV f se) (.inl (n : Nat)) = none
  | y :: r, h => by
    obtain ⟨h1, h2⟩ := ixo_none (ixo_sof.mp h)
    exact (valV_neg (fun k => h1 (keyn.mp k))).trans (g_val0 (se := r) (ixo_sof.mpr h2))
  | [], _ => rfl
theorem g_put {α : Type} {f : α → V} {n : Nat} {v : α} : ∀ {se : List (Nat × α)} {i : Nat}, (se.map (·.1)).Nodup → ixOf n se = some i → (gKV f se).map (fun kv => if kv.1 = (Sum.inl (n : Nat) : Key) then (kv.1, f v) else kv) = gKV f (se.set i (n, v))
  | y :: r, i, hd, h => by
    rw [List.map_cons, List.nodup_cons] at hd
    rcases ixo_cons h with ⟨e1, rfl⟩ | ⟨hn, j, hj, rfl⟩
    · show (if (Sum.inl ((y.1 : Nat) : Int) : Key) = .inl (n : Nat) then _ else _) :: (gKV f r).map _ = _
      rw [if_pos (keyn.mpr e1), map_repl]
      · subst e1
        rfl
      · intro x hx k
        obtain ⟨z, hz, rfl⟩ := List.mem_map.mp hx
        have k2 : z.1 = n := keyn.mp k
        exact hd.1 (by rw [e1, ← k2]; exact List.mem_map.mpr ⟨z, hz, rfl⟩)
    · show (if (Sum.inl ((y.1 : Nat) : Int) : Key) = .inl (n : Nat) then _ else _) :: (gKV f r).map _ = _
      rw [if_neg (fun k => hn (keyn.mp k)), g_put (se := r) hd.2 hj]
      rfl
  | [], i, _, h => by cases h
theorem g_putS {α : Type} {f : α → V} {n : Nat} {v : α} {se : List (Nat × α)} (nod : (se.map (·.1)).Nodup) : putK (gKV f se) (.inl (n : Nat)) (f v) = gKV f (putS se n v) := by
  unfold putS
  cases h : ixOf n se with
  | none =>
    rw [putK_new _ (g_val0 (ixo_sof.mpr h))]
    show _ = gKV f (se ++ [(n, v)])
    unfold gKV
    rw [List.map_append]
    rfl
  | some i =>
    show _ = gKV f (se.set i (n, v))
    rw [← g_put nod h]
    obtain ⟨x, hx, _⟩ := ixo_get h
    have hs : sOf n se = some x.2 := sOf_ix h hx
    unfold putK
    rw [valV_any, g_val hs]
    exact if_pos rfl
theorem g_keys {α : Type} {f : α → V} {se : List (Nat × α)} : (gKV f se).map (·.1) = (se.map fun x => ((x.1 : Nat) : Int)).map Sum.inl := by
  unfold gKV
  rw [List.map_map, List.map_map]
  rfl
theorem len4 {α : Type} {se : List (Nat × α)} (nod : (se.map (·.1)).Nodup) (h4 : ∀ x ∈ se, x.1 < 4) : se.length ≤ 4 := by
  have h : ∀ x ∈ se.map (·.1), x ∈ List.range 4 := fun x hx => by
    obtain ⟨y, hy, rfl⟩ := List.mem_map.mp hx
    exact List.mem_range.mpr (h4 y hy)
  have := List.Nodup.length_le_of_subset nod (fun x hx => h x hx)
  simpa using this
/-! ### the road -/
def whoV : Option Nat → V
  | none => .str (Str.ofString "hall")
  | some n => .int (n : Nat)
def rowV (x : Option Nat × Str) : List V := [whoV x.1, .str x.2]
def roadA (rd : Addr) (road : List (Option Nat × Str)) : Prd := fun fp H => fp = [rd] ∧ ∃ vs, H rd = some (.lst vs) ∧ Tups H vs (road.map rowV)
theorem roadT (rd : Addr) (road : List (Option Nat × Str)) : Thing (roadA rd road) := by
  refine ⟨fun fp H H' ⟨e, vs, h, t⟩ te k => ⟨e, vs, ?_, t.mono te⟩, fun fp H ⟨e, vs, h, t⟩ b hb => ?_⟩
  · subst e
    rw [k rd (by simp)]
    exact h
  · subst e
    rw [List.mem_singleton.mp hb]
    exact ⟨_, h, fun _ z => by cases z⟩
theorem road_get {As : List Prd} {H0 H : Hp} {i : Nat} {rd : Addr} {road : List (Option Nat × Str)} (h : Sep As H0 H) (e : As[i]? = some (roadA rd road)) : H0 rd = none ∧ ∃ vs, H rd = some (.lst vs) ∧ Tups H vs (road.map rowV) := by
  obtain ⟨fp, n, rfl, vs, h, t⟩ := h.get e
  exact ⟨n rd (by simp), vs, h, t⟩
theorem road_set {As : List Prd} {H0 H : Hp} {i : Nat} {rd : Addr} {road road' : List (Option Nat × Str)} {vs : List V} (T : Things As) (h : Sep As H0 H) (e : As[i]? = some (roadA rd road)) (t : Tups H vs (road'.map rowV)) : Sep (As.set i (roadA rd road')) H0 (upd H rd (.lst vs)) := by
  obtain ⟨H1, x, ⟨y, fp, n, rfl, ws, g, _⟩, back⟩ := h.focus T e
  have nd : H1 rd = none := n rd (by simp)
  refine back _ _ ⟨ex_set y nd, [rd], n, rfl, vs, upd_same, t.mono fun a xs ha => ?_⟩
  rw [upd_ne (fun k => by subst k; rw [g] at ha; cases ha)]
  exact ha
/-! ### a world with all its places -/
structure WCl where
  h : HCl
  K : Addr
  W : Addr
structure Wd where
  hall : Hl
  many : Nat
  looks : List (Nat × Lk)
  sess : List (Nat × Nat)
  road : List (Option Nat × Str)
structure WC where
  dx : Addr
  hp : Addr
  ld : Addr
  sd : Addr
  rd : Addr
  hall : Hl
  many : Nat
  lks : List (Nat × Lk × Addr)
  sess : List (Nat × Nat)
  road : List (Option Nat × Str)
def WC.abs (c : WC) : Wd := ⟨c.hall, c.many, c.lks.map fun x => (x.1, x.2.1), c.sess, c.road⟩
def lkV (x : Lk × Addr) : V := .ref x.2
def ssV (x : Nat) : V := .int (x : Nat)
def lkP (C : WCl) (x : Nat × Lk × Addr) : Prd := lookA C.K x.2.2 x.2.1
def worldB (C : WCl) (p : Addr) (c : WC) : List Prd :=
  [packA (c.lks.map (lkP C)), roadA c.rd c.road, cellA c.sd (.dK (gKV ssV c.sess)), cellA c.ld (.dK (gKV lkV c.lks)), hallA C.h c.hp c.hall, cellA p (.ins C.W c.dx (zf WKK [.ref c.hp, .int (c.many : Nat), .ref c.ld, .ref c.sd, .ref c.rd]))]
def worldA (C : WCl) (p : Addr) (w : Wd) : Prd := fun fp H => ∃ c : WC, c.abs = w ∧ packA (worldB C p c) fp H
theorem lksT (C : WCl) (lks : List (Nat × Lk × Addr)) : Things (lks.map (lkP C)) := fun A hA => by
  obtain ⟨x, _, rfl⟩ := List.mem_map.mp hA
  exact lookT _ _ _
theorem worldBT (C : WCl) (p : Addr) (c : WC) : Things (worldB C p c) := Things.cons (packT (lksT C _)) (Things.cons (roadT _ _) (Things.cons (cellT _ _) (Things.cons (cellT _ _) (Things.cons (hallT _ _ _) (Things.cons (cellT _ _) Things.nil)))))
theorem worldT (C : WCl) (p : Addr) (w : Wd) : Thing (worldA C p w) :=
  ⟨fun fp H H' ⟨c, e, x⟩ te k => ⟨c, e, (packT (worldBT C p c)).stay _ _ _ x te k⟩, fun fp H ⟨c, _, x⟩ => (packT (worldBT C p c)).at_ _ _ x⟩
theorem world_beh {C : WCl} {p : Addr} {w : Wd} {H0 H : Hp} : Beh (worldA C p w) H0 H ↔ ∃ c : WC, c.abs = w ∧ Sep (worldB C p c) H0 H := by
  constructor
  · rintro ⟨x, fp, n, c, e, k⟩
    exact ⟨c, e, sep_beh.mpr ⟨x, fp, n, k⟩⟩
  · rintro ⟨c, e, k⟩
    obtain ⟨x, fp, n, k⟩ := sep_beh.mp k
    exact ⟨x, fp, n, c, e, k⟩
section
variable {C : WCl} {p : Addr} {c : WC} {H0 H : Hp}
theorem world_p (h : Sep (worldB C p c) H0 H) : H p = some (.ins C.W c.dx (zf WKK [.ref c.hp, .int (c.many : Nat), .ref c.ld, .ref c.sd, .ref c.rd])) := h.cell (i := 5) rfl
theorem world_ld (h : Sep (worldB C p c) H0 H) : H c.ld = some (.dK (gKV lkV c.lks)) := h.cell (i := 3) rfl
theorem world_sd (h : Sep (worldB C p c) H0 H) : H c.sd = some (.dK (gKV ssV c.sess)) := h.cell (i := 2) rfl
theorem world_rd (h : Sep (worldB C p c) H0 H) : H0 c.rd = none ∧ ∃ vs, H c.rd = some (.lst vs) ∧ Tups H vs (c.road.map rowV) := road_get h (i := 1) rfl
theorem world_hall (h : Sep (worldB C p c) H0 H) : ∃ H1, Ex H0 H1 ∧ Beh (hallA C.h c.hp c.hall) H1 H ∧ ∀ hl' H', Beh (hallA C.h c.hp hl') H1 H' → Sep (worldB C p { c with hall := hl' }) H0 H' := by
  obtain ⟨H1, x, b, back⟩ := h.focus (worldBT C p c) (i := 4) rfl
  exact ⟨H1, x, b, fun hl' H' k => back _ _ k⟩
theorem lks_at {n : Nat} {l : Lk} : sOf n c.abs.looks = some l → ∃ i a, ixOf n c.lks = some i ∧ c.lks[i]? = some (n, l, a) ∧ sOf n c.lks = some (l, a) := by
  intro h
  have h2 : sOf n (c.lks.map fun x => (x.1, x.2.1)) = (sOf n c.lks).map (·.1) := sOf_map (f := fun y : Lk × Addr => y.1) c.lks
  have h3 : (sOf n c.lks).map (·.1) = some l := h2.symm.trans h
  cases e : sOf n c.lks with
  | none => rw [e] at h3; cases h3
  | some y =>
    rw [e] at h3
    obtain rfl := Option.some.inj h3
    obtain ⟨i, h4, h5⟩ := sOf_get e
    exact ⟨i, y.2, h4, h5, rfl⟩
theorem lks_none {n : Nat} : sOf n c.abs.looks = none ↔ sOf n c.lks = none := by
  have h2 : sOf n (c.lks.map fun x => (x.1, x.2.1)) = (sOf n c.lks).map (·.1) := sOf_map (f := fun y : Lk × Addr => y.1) c.lks
  show sOf n (c.lks.map fun x => (x.1, x.2.1)) = none ↔ _
  rw [h2, Option.map_eq_none_iff]
theorem set_lk {lks : List (Nat × Lk × Addr)} {i n : Nat} {l l' : Lk} {a : Addr} (e : lks[i]? = some (n, l, a)) : gKV lkV (lks.set i (n, l', a)) = gKV lkV lks := set_map_same e rfl
/-- one of the looks, by its place in the dict -/
theorem world_look (h : Sep (worldB C p c) H0 H) {i n : Nat} {l : Lk} {a : Addr} (e : c.lks[i]? = some (n, l, a)) : ∃ H1, Ex H0 H1 ∧ Beh (lookA C.K a l) H1 H ∧ ∀ l' H', Beh (lookA C.K a l') H1 H' → Sep (worldB C p { c with lks := c.lks.set i (n, l', a) }) H0 H' := by
  obtain ⟨H1, x, b, back⟩ := h.focus (worldBT C p c) (i := 0) rfl
  obtain ⟨H2, x2, b2, back2⟩ := (sep_beh.mpr b).focus (lksT C c.lks) (i := i) (map_get e)
  refine ⟨H2, x.trans x2, b2, fun l' H' k => ?_⟩
  have k2 := back2 _ _ k
  have k3 : Sep ((c.lks.set i (n, l', a)).map (lkP C)) H1 H' := by
    rw [List.map_set]
    exact k2
  have k4 := back _ _ (sep_beh.mp k3)
  unfold worldB
  rw [show gKV lkV ({ c with lks := c.lks.set i (n, l', a) } : WC).lks = gKV lkV c.lks from set_lk e]
  exact k4
end
theorem Sep.get1 {As : List Prd} {A : Prd} {H0 H : Hp} {i : Nat} (T : Things As) (h : Sep As H0 H) (e : As[i]? = some A) : ∃ H1, Ex H0 H1 ∧ Beh A H1 H := by
  obtain ⟨H1, x, b, _⟩ := h.focus T e
  exact ⟨H1, x, b⟩
/-- what a hall's place holds -/
theorem hall_ins {C : HCl} {p : Addr} {h : Hl} {H0 H : Hp} (b : Beh (hallA C p h) H0 H) : ∃ dx pl sd, H p = some (.ins C.H dx (zf HKK [.ref pl, .ref sd])) := by
  obtain ⟨c, _, S⟩ := hall_beh.mp b
  exact ⟨_, _, _, hall_p S⟩
theorem beh_imp {A B : Prd} {H0 H : Hp} (h : Beh A H0 H) (k : ∀ fp H, A fp H → B fp H) : Beh B H0 H := by
  obtain ⟨x, fp, n, a⟩ := h
  exact ⟨x, fp, n, k _ _ a⟩
theorem sep_imp {As : List Prd} {A B : Prd} {H0 H : Hp} {i : Nat} (h : Sep As H0 H) (T : Things As) (e : As[i]? = some A) (k : ∀ fp H, A fp H → B fp H) : Sep (As.set i B) H0 H := by
  obtain ⟨H1, x, b, back⟩ := h.focus T e
  exact back _ _ (beh_imp b k)
def Wd.new (n : Nat) : Wd := ⟨Hl.new n, n, [], [], []⟩
structure TWld (K : PySem.W.Frag) (mg : Str → Option Value) (C : WCl) : Prop where
  z_len : mg "len" = none
  cl : Cls K C.W
  w : ClsN K C.W WKK
  clH : Cls K C.h.H
def spWIn (C : WCl) : Sp := fun vs H Q _ => ∃ (H0 : Hp) (p dx : Addr) (n : Nat), vs = [.ref p, .int n] ∧ Ex H0 H ∧ H0 p = none ∧ H p = some (.ins C.W dx []) ∧ 1 ≤ n ∧ n ≤ 3 ∧ ∀ H', Beh (worldA C p (Wd.new n)) H0 H' → Q .non H'
def spWPa (C : WCl) : Sp := fun vs H Q _ => ∃ (H0 : Hp) (p : Addr) (w : Wd), vs = [.ref p] ∧ Beh (worldA C p w) H0 H ∧ HOk w.hall ∧ ∀ q us H', Ex H H' → H q = none → H' q = some (.lst us) → PanesT H' us w.hall.panes → Q (.ref q) H'
def spWTy (C : WCl) : Sp := fun vs H Q _ => ∃ (H0 : Hp) (p : Addr) (w : Wd) (i : Nat) (s : Pn), vs = [.ref p, .int i] ∧ Beh (worldA C p w) H0 H ∧ w.hall.panes[i]? = some s ∧ ∀ l ts, H l = none → Tups H ts s.typed → Q (.ref l) (upd H l (.lst ts))
def spWWa (C : WCl) : Sp := fun vs H Q _ => ∃ (H0 : Hp) (p : Addr) (w : Wd), vs = [.ref p] ∧ Beh (worldA C p w) H0 H ∧ Q (.int (w.road.length : Nat)) H
def spWCk (C : WCl) : Sp := fun vs H Q _ => ∃ (H0 : Hp) (p : Addr) (w : Wd) (n : Nat), vs = [.ref p, .int n] ∧ Beh (worldA C p w) H0 H ∧ sOf n w.looks ≠ none ∧ Q .non H
def spWLk (C : WCl) : Sp := fun vs H Q _ => ∃ (H0 : Hp) (p : Addr) (c : WC) (n : Nat) (l : Lk) (a : Addr), vs = [.ref p, .int n] ∧ Sep (worldB C p c) H0 H ∧ sOf n c.lks = some (l, a) ∧ Q (.ref a) H
def spWLi (C : WCl) : Sp := fun vs H Q _ => ∃ (H0 : Hp) (p : Addr) (w : Wd) (n : Nat), vs = [.ref p, .int n] ∧ Beh (worldA C p w) H0 H ∧ Q (.bl (decide (n < w.road.length))) H
section
variable {P : Program} {w : World} {K : PySem.W.Frag} {mg : Str → Option Value} {base : Heap}
structure CWld1 (P : Program) (w : World) (K : PySem.W.Frag) (mg : Str → Option Value) (base : Heap) (C : WCl) : Prop where
  mk_Hall : NCal P w K mg base C.h.H "Hall" 3 ["self", "many"] (spHIn C.h)
structure CWld2 (P : Program) (w : World) (K : PySem.W.Frag) (mg : Str → Option Value) (base : Heap) (C : WCl) : Prop where
  Hall_panes : MCal P w K mg base C.h.H "panes" 2 ["self"] (spHPa C.h)
  Hall_typed : MCal P w K mg base C.h.H "typed" 3 ["self", "pane"] (spHTy C.h)
structure CWld3 (P : Program) (w : World) (K : PySem.W.Frag) (mg : Str → Option Value) (base : Heap) : Prop where
  is_number : Cal P w K mg base "is_number" 1 ["number"] spIsN
  is_within : Cal P w K mg base "is_within" 2 ["number", "least", "most"] spWit
structure CWld4 (P : Program) (w : World) (K : PySem.W.Frag) (mg : Str → Option Value) (base : Heap) (C : WCl) : Prop where
end
end Vf
namespace Vf
open PySem PySem.Spec PyProof.Rows L2 Evl GxR
/-! ### a world's letters -/
def DelOk (w : Wd) (x : Option Nat × Str) : Prop := x.2.length ≤ 900000 ∧ match x.1 with
  | none => HOk w.hall ∧ LetOk (readLook x.2.cps.toList)
  | some n => ∀ l, sOf n w.looks = some l → l.signs.length < 1000000
def Wd.deliver (w : Wd) (x : Option Nat × Str) : Wd := match x.1 with
  | none => { w with hall := w.hall.hear (readLook x.2.cps.toList) }
  | some n => match sOf n w.looks with
    | none => w
    | some l => { w with looks := putS w.looks n (l.hear (readHall x.2.cps.toList)) }
def spWDe (T0 : Addr) (C : WCl) : Sp := fun vs H Q _ => ∃ (H0 : Hp) (p : Addr) (w : Wd) (x : Option Nat × Str), vs = [.ref p, whoV x.1, .str x.2] ∧ Beh (worldA C p w) H0 H ∧ DelOk w x ∧ H0 T0 = some (TabO T0) ∧
  ∀ H', Beh (worldA C p (w.deliver x)) H0 H' → Q .non H'
theorem putS_look {c : WC} {n i : Nat} {l' : Lk} {a : Addr} (h1 : ixOf n c.lks = some i) : putS c.abs.looks n l' = (c.lks.set i (n, l', a)).map fun x => (x.1, x.2.1) := by
  unfold putS
  have h2 : ixOf n c.abs.looks = some i := (ixo_map (f := fun y : Lk × Addr => y.1) c.lks).trans h1
  rw [h2, List.map_set]
  rfl
theorem sep_pair {A B : Prd} {Bs : List Prd} {H0 H : Hp} (h : Sep (A :: Bs) H0 H) (k : ∀ fp H, packA Bs fp H → B fp H) : Sep [A, B] H0 H := by
  obtain ⟨x, fps, s, n⟩ := h
  match fps, s with
  | f :: fps, s =>
    refine ⟨x, [f, fps.flatten], ⟨s.1, fun g hg a ha hag => ?_, k _ _ ⟨fps, s.2.2, rfl⟩, (fun g hg => nomatch hg), trivial⟩, fun g hg a ha => ?_⟩
    · rw [List.mem_singleton.mp hg] at hag
      obtain ⟨g', hg', ha'⟩ := List.mem_flatten.mp hag
      exact s.2.1 g' hg' a ha ha'
    · rcases List.mem_cons.mp hg with rfl | hg
      · exact n g List.mem_cons_self a ha
      · rw [List.mem_singleton.mp hg] at ha
        obtain ⟨g', hg', ha'⟩ := List.mem_flatten.mp ha
        exact n g' (List.mem_cons_of_mem _ hg') a ha'
theorem cutV_to (xs : List V) (k : Nat) : cutV xs none (some (k : Int)) = xs.take k := by
  unfold cutV
  rw [HT.sIx_nat, HT.sIx_none]
  by_cases hh : k ≤ xs.length
  · rw [Nat.min_eq_left hh, List.drop_zero, Nat.sub_zero]
  · rw [Nat.min_eq_right (by omega), List.drop_zero, Nat.sub_zero, List.take_of_length_le (Nat.le_refl _), List.take_of_length_le (by omega)]
structure TWld2 (K : PySem.W.Frag) (mg : Str → Option Value) (C : WCl) : Prop where
  mg_TO_HALL : ∃ t, mg "TO_HALL" = some (.str "hall" t)
  z_max : mg "max" = none
  z_sorted : mg "sorted" = none
  cl : Cls K C.W
  w : ClsN K C.W WKK
  clH : Cls K C.h.H
  clK : Cls K C.K
section
variable {P : Program} {w : World} {K : PySem.W.Frag} {mg : Str → Option Value} {base : Heap}
structure CWld5 (P : Program) (w : World) (K : PySem.W.Frag) (mg : Str → Option Value) (base : Heap) (T0 : Addr) (C : WCl) : Prop where
  Hall_hear : MCal P w K mg base C.h.H "hear" 6 ["self", "text"] (spHHe T0 C.h)
  Look_hear : MCal P w K mg base C.K "hear" 5 ["self", "text"] (spKHe T0 C.K)
structure CWld6 (P : Program) (w : World) (K : PySem.W.Frag) (mg : Str → Option Value) (base : Heap) (T0 : Addr) (C : WCl) : Prop where
structure CWld7 (P : Program) (w : World) (K : PySem.W.Frag) (mg : Str → Option Value) (base : Heap) (T0 : Addr) (C : WCl) : Prop where
  Hall_letters : MCal P w K mg base C.h.H "letters" 6 ["self"] (spHLt T0 C.h)
  Look_letters : MCal P w K mg base C.K "letters" 6 ["self"] (spKLt T0 C.K)
/-! the first so many letters are heard -/
def Wd.carry (w : Wd) (k : Nat) : Wd := (w.road.take k).foldl Wd.deliver { w with road := w.road.drop k }
def CarOk (w : Wd) (k : Nat) : Prop := ∀ i x, (w.road.take k)[i]? = some x → DelOk (((w.road.take k).take i).foldl Wd.deliver { w with road := w.road.drop k }) x
def spWCa (T0 : Addr) (C : WCl) : Sp := fun vs H Q _ => ∃ (H0 : Hp) (p : Addr) (w : Wd) (k : Nat), vs = [.ref p, .int k] ∧ Beh (worldA C p w) H0 H ∧ CarOk w k ∧ H0 T0 = some (TabO T0) ∧ w.road.length < 1000000 ∧
  ∀ H', Beh (worldA C p (w.carry k)) H0 H' → Q .non H'
def roadV (rd : Addr) (vs : List V) (road : List (Option Nat × Str)) : Prd := fun fp H => fp = [rd] ∧ H rd = some (.lst vs) ∧ Tups H vs (road.map rowV)
theorem roadVT (rd : Addr) (vs : List V) (road : List (Option Nat × Str)) : Thing (roadV rd vs road) := by
  refine ⟨fun fp H H' ⟨e, h, t⟩ te k => ⟨e, ?_, t.mono te⟩, fun fp H ⟨e, h, t⟩ b hb => ?_⟩
  · subst e
    rw [k rd (by simp)]
    exact h
  · subst e
    rw [List.mem_singleton.mp hb]
    exact ⟨_, h, fun _ z => by cases z⟩
theorem roadV_get {As : List Prd} {H0 H : Hp} {i : Nat} {rd : Addr} {vs : List V} {road : List (Option Nat × Str)} (h : Sep As H0 H) (e : As[i]? = some (roadV rd vs road)) : H0 rd = none ∧ H rd = some (.lst vs) ∧ Tups H vs (road.map rowV) := by
  obtain ⟨fp, n, rfl, h, t⟩ := h.get e
  exact ⟨n rd (by simp), h, t⟩
/-- another list in the road's place -/
theorem road_new {As : List Prd} {H0 H : Hp} {i : Nat} {rd q : Addr} {road road' : List (Option Nat × Str)} {vs : List V} (T : Things As) (h : Sep As H0 H) (e : As[i]? = some (roadA rd road)) (nq : H q = none) (t : Tups H vs (road'.map rowV)) : Sep (As.set i (roadA q road')) H0 (upd H q (.lst vs)) := by
  obtain ⟨H1, x, ⟨y, fp, n, rfl, ws, g, _⟩, back⟩ := h.focus T e
  refine back _ _ ⟨y.trans (Ex.new nq), [q], (fun a ha => by rw [List.mem_singleton.mp ha]; exact exf y nq), rfl, vs, upd_same, t.mono (TupEx.new nq)⟩
theorem Tups.take {H : Hp} : ∀ {vs : List V} {xs : List (List V)} (k : Nat), Tups H vs xs → Tups H (vs.take k) (xs.take k)
  | _, _, 0, _ => by rw [List.take_zero, List.take_zero]; trivial
  | [], [], _ + 1, _ => trivial
  | v :: vs, x :: xs, k + 1, h => ⟨h.1, Tups.take k h.2⟩
  | [], _ :: _, _, h => h.elim
  | _ :: _, [], _, h => h.elim
theorem Tups.at_ {H : Hp} : ∀ {vs : List V} {xs : List (List V)} {i : Nat} {x : List V}, Tups H vs xs → xs[i]? = some x → ∃ a, vs[i]? = some (.ref a) ∧ H a = some (.tup x)
  | v :: vs, x :: xs, 0, y, h, e => by
    cases e
    obtain ⟨a, rfl, ha⟩ := h.1
    exact ⟨a, rfl, ha⟩
  | v :: vs, x :: xs, i + 1, y, h, e => Tups.at_ (vs := vs) (xs := xs) (i := i) h.2 e
  | [], [], _, _, _, e => by cases e
  | [], _ :: _, _, _, h, _ => h.elim
  | _ :: _, [], _, _, h, _ => h.elim
/-! all letters are laid onto the road -/
def Wd.toHall (w : Wd) (n : Nat) : List (Option Nat × Str) := match sOf n w.looks with
  | none => []
  | some l => l.letters.map fun t => (none, txt t)
def Wd.sent (w : Wd) : List (Option Nat × Str) := (keysOf w.looks).flatMap w.toHall ++ w.hall.names.map fun n => (some n, txt (w.hall.letterL n))
def Wd.send (w : Wd) : Wd := { w with road := w.road ++ w.sent }
structure LksOk (w : Wd) : Prop where
  nod : (w.looks.map (·.1)).Nodup
  n4 : ∀ x ∈ w.looks, x.1 < 4
  ok : ∀ x ∈ w.looks, LOk x.2
structure SendOk (w : Wd) : Prop extends LksOk w where
  hok : HOk w.hall
  hlen : HLen w.hall
  road : w.road.length < 900000
def spWSe (T0 : Addr) (C : WCl) : Sp := fun vs H Q _ => ∃ (H0 : Hp) (p : Addr) (w : Wd), vs = [.ref p] ∧ Beh (worldA C p w) H0 H ∧ SendOk w ∧ H0 T0 = some (TabO T0) ∧ ∀ H', Beh (worldA C p w.send) H0 H' → Q .non H'
theorem Tups.app {H : Hp} : ∀ {vs ws : List V} {xs ys : List (List V)}, Tups H vs xs → Tups H ws ys → Tups H (vs ++ ws) (xs ++ ys)
  | [], _, [], _, _, k => k
  | v :: vs, _, y :: xs, _, h, k => ⟨h.1, Tups.app h.2 k⟩
  | [], _, _ :: _, _, h, _ => h.elim
  | _ :: _, _, [], _, h, _ => h.elim
theorem road_push {As : List Prd} {H0 H : Hp} {i : Nat} {rd t : Addr} {road : List (Option Nat × Str)} {vs : List V} {x : Option Nat × Str} (T : Things As) (h : Sep As H0 H) (e : As[i]? = some (roadA rd road)) (hv : H rd = some (.lst vs)) (tv : Tups H vs (road.map rowV)) (nt : H t = none) :
    Sep (As.set i (roadA rd (road ++ [x]))) H0 (upd (upd H t (.tup (rowV x))) rd (.lst (vs ++ [.ref t]))) := by
  refine road_set T (h.ex T (Ex.new nt)) e ?_
  rw [List.map_append]
  exact Tups.snoc upd_same (tv.mono (TupEx.new nt))
theorem look_len {l : Lk} (O : LOk l) : l.letters.length ≤ 1002 := by
  unfold Lk.letters
  by_cases h1 : l.over = true
  · rw [if_pos h1]; exact Nat.zero_le _
  · rw [if_neg h1]
    by_cases h2 : l.left = true
    · rw [if_pos h2]; exact (by decide : 1 ≤ 1002)
    · rw [if_neg h2, List.length_map, List.length_range]
      have := O.len
      unfold letterN
      omega
theorem keys_mem {α : Type} {se : List (Nat × α)} {n : Nat} (h : n ∈ keysOf se) : n < 4 ∧ ∃ x, sOf n se = some x := by
  unfold keysOf at h
  rw [List.mem_filter, List.mem_range] at h
  refine ⟨h.1, ?_⟩
  cases e : sOf n se with
  | none => rw [ixo_sof.mp e] at h; exact absurd h.2 (by simp)
  | some x => exact ⟨x, rfl⟩
theorem toHall_len {w : Wd} (O : LksOk w) : ∀ ns : List Nat, (ns.flatMap w.toHall).length ≤ ns.length * 1002
  | [] => Nat.zero_le _
  | n :: r => by
    rw [List.flatMap_cons, List.length_append, List.length_cons]
    have h1 := toHall_len O r
    have h2 : (w.toHall n).length ≤ 1002 := by
      unfold Wd.toHall
      cases e : sOf n w.looks with
      | none => exact Nat.zero_le _
      | some l =>
        obtain ⟨i, _, hi⟩ := sOf_get e
        rw [List.length_map]
        exact look_len (O.ok _ (List.mem_of_getElem? hi))
    omega
theorem keysOf_len {α : Type} {se : List (Nat × α)} : (keysOf se).length ≤ 4 := by
  unfold keysOf
  exact Nat.le_trans (List.length_filter_le _ _) (by simp)
theorem abs_keys {c : WC} : keysOf c.abs.looks = keysOf c.lks := by
  unfold keysOf
  congr 1
  funext n
  rw [show ixOf n c.abs.looks = ixOf n c.lks from ixo_map (f := fun y : Lk × Addr => y.1) c.lks]
theorem LksOk.nodC {c : WC} (O : LksOk c.abs) : (c.lks.map (·.1)).Nodup := by
  have h9 := O.nod
  have h8 : c.abs.looks.map (·.1) = c.lks.map (·.1) := by
    show (c.lks.map fun x => (x.1, x.2.1)).map (·.1) = _
    rw [List.map_map]
    rfl
  rw [h8] at h9
  exact h9
theorem LksOk.n4C {c : WC} (O : LksOk c.abs) : ∀ x ∈ c.lks, x.1 < 4 := fun x hx => O.n4 (x.1, x.2.1) (List.mem_map.mpr ⟨x, hx, rfl⟩)
theorem names_len4 {h : Hl} : h.names.length ≤ 4 := by
  unfold Hl.names
  exact Nat.le_trans (List.length_filter_le _ _) (by simp)
theorem lettersV_rows {h : Hl} : h.lettersV = (h.names.map fun n => ((some n, txt (h.letterL n)) : Option Nat × Str)).map rowV := by
  unfold Hl.lettersV
  rw [List.map_map]
  rfl
end
end Vf
namespace Vf
open PySem PySem.Spec PyProof.Rows L2 Evl GxR
/-! ### looks that come and go; letters lost, twice, cut -/
def Wd.next (w : Wd) (n : Nat) : Nat := (sOf n w.sess).getD 0 + 1
def Wd.come (w : Wd) (n pn wd hg : Nat) : Wd := { w with looks := putS w.looks n (Lk.new n (w.next n) pn wd hg), sess := putS w.sess n (w.next n) }
def Wd.gone (w : Wd) (n : Nat) : Wd := { w with looks := w.looks.filter fun x => !decide (x.1 = n) }
def Wd.lose (w : Wd) (k : Nat) : Wd := if k < w.road.length then { w with road := w.road.eraseIdx k } else w
def Wd.twice (w : Wd) (k : Nat) : Wd := match w.road[k]? with
  | none => w
  | some x => w.deliver x
def Wd.cutL (w : Wd) (k n : Nat) : Wd := match w.road[k]? with
  | none => w
  | some x => { w with road := w.road.set k (x.1, cutS x.2 none (some (n : Int))) }
structure SesOk (w : Wd) : Prop where
  snod : (w.sess.map (·.1)).Nodup
  s4 : ∀ x ∈ w.sess, x.1 < 4
def ComeOk (w : Wd) (n pn wd hg : Nat) : Prop := n < 4 ∧ pn < w.many ∧ w.many ≤ 3 ∧ w.next n ≤ 100000 ∧ SizeOk wd hg ∧ LksOk w ∧ SesOk w
def spWCo (C : WCl) : Sp := fun vs H Q _ => ∃ (H0 : Hp) (p : Addr) (w : Wd) (n pn wd hg : Nat), vs = [.ref p, .int n, .int pn, .int wd, .int hg] ∧ Beh (worldA C p w) H0 H ∧ ComeOk w n pn wd hg ∧ ∀ H', Beh (worldA C p (w.come n pn wd hg)) H0 H' → Q .non H'
def spWGo (C : WCl) : Sp := fun vs H Q _ => ∃ (H0 : Hp) (p : Addr) (w : Wd) (n : Nat), vs = [.ref p, .int n] ∧ Beh (worldA C p w) H0 H ∧ sOf n w.looks ≠ none ∧ ∀ H', Beh (worldA C p (w.gone n)) H0 H' → Q .non H'
def spWLo (C : WCl) : Sp := fun vs H Q _ => ∃ (H0 : Hp) (p : Addr) (w : Wd) (k : Nat), vs = [.ref p, .int k] ∧ Beh (worldA C p w) H0 H ∧ w.road.length < 1000000 ∧ ∀ H', Beh (worldA C p (w.lose k)) H0 H' → Q .non H'
def spWHa (T0 : Addr) (C : WCl) : Sp := fun vs H Q _ => ∃ (H0 : Hp) (p : Addr) (w : Wd) (k : Nat), vs = [.ref p, .int k] ∧ Beh (worldA C p w) H0 H ∧ (∀ x, w.road[k]? = some x → DelOk w x) ∧ H0 T0 = some (TabO T0) ∧ ∀ H', Beh (worldA C p (w.twice k)) H0 H' → Q .non H'
def spWCu (C : WCl) : Sp := fun vs H Q _ => ∃ (H0 : Hp) (p : Addr) (w : Wd) (k n : Nat), vs = [.ref p, .int k, .int n] ∧ Beh (worldA C p w) H0 H ∧ (∀ x ∈ w.road, x.2.length ≤ 900000) ∧ ∀ H', Beh (worldA C p (w.cutL k n)) H0 H' → Q .non H'
/-- a new look in the dict, perhaps in the place of another one -/
theorem world_put {C : WCl} {p y n : Nat} {c : WC} {H0 H G : Hp} {l : Lk} (S : Sep (worldB C p c) H0 H) (nod : (c.lks.map (·.1)).Nodup) (b : Beh (lookA C.K y l) H G) :
    Sep (worldB C p { c with lks := putS c.lks n (l, y) }) H0 (upd G c.ld (.dK (gKV lkV (putS c.lks n (l, y))))) := by
  have fin : Sep ((worldB C p c).set 0 (packA ((putS c.lks n (l, y)).map (lkP C)))) H0 G := by
    cases h : ixOf n c.lks with
    | none =>
      have e : putS c.lks n (l, y) = c.lks ++ [(n, l, y)] := by unfold putS; rw [h]
      rw [e, List.map_append]
      exact Sep.into (worldBT C p c) (lksT C c.lks) S (i := 0) rfl b
    | some i =>
      have e : putS c.lks n (l, y) = c.lks.set i (n, l, y) := by unfold putS; rw [h]
      obtain ⟨x, hx, _⟩ := ixo_get h
      obtain ⟨H1, y1, b1, back1⟩ := S.focus (worldBT C p c) (i := 0) rfl
      obtain ⟨H2, y2, b2, back2⟩ := (sep_beh.mpr b1).focus (lksT C c.lks) (i := i) (map_get hx)
      have k2 := back2 _ _ (Beh.shrink b b2.1)
      have k3 : Sep ((c.lks.set i (n, l, y)).map (lkP C)) H1 G := by
        rw [List.map_set]
        exact k2
      rw [e]
      exact back1 _ _ (sep_beh.mp k3)
  exact fin.write (Things.set (packT (lksT C _)) (worldBT C p c)) (i := 3) rfl (fun _ z => by cases z)
theorem look_ins {C p : Addr} {s : Lk} {H0 H : Hp} (b : Beh (lookA C p s) H0 H) : ∃ dx r, H p = some (.ins C dx (zf LKK (s.vals r))) := by
  obtain ⟨dx, r, L⟩ := look_at b
  exact ⟨dx, r, L.at_⟩
theorem putS_map {α β : Type} {f : α → β} {n : Nat} {v : α} (se : List (Nat × α)) : (putS se n v).map (fun x => (x.1, f x.2)) = putS (se.map fun x => (x.1, f x.2)) n (f v) := by
  unfold putS
  rw [ixo_map]
  cases ixOf n se with
  | none =>
    show (se ++ [(n, v)]).map _ = _
    rw [List.map_append]
    rfl
  | some i =>
    show (se.set i (n, v)).map _ = _
    rw [List.map_set]
section
variable {P : Program} {w : World} {K : PySem.W.Frag} {mg : Str → Option Value} {base : Heap}
structure CWld8 (P : Program) (w : World) (K : PySem.W.Frag) (mg : Str → Option Value) (base : Heap) (C : WCl) : Prop where
  is_within : Cal P w K mg base "is_within" 2 ["number", "least", "most"] spWit
  mk_Look : NCal P w K mg base C.K "Look" 4 ["self", "name", "session", "pane", "wide", "high"] (spKIn C.K)
structure CWld9 (P : Program) (w : World) (K : PySem.W.Frag) (mg : Str → Option Value) (base : Heap) (C : WCl) : Prop where
structure CWld10 (P : Program) (w : World) (K : PySem.W.Frag) (mg : Str → Option Value) (base : Heap) (T0 : Addr) (C : WCl) : Prop where
theorem drop_g {α : Type} {f : α → V} {n : Nat} (se : List (Nat × α)) : dropK (gKV f se) (.inl (n : Nat)) = gKV f (se.filter fun x => !decide (x.1 = n)) := by
  unfold dropK gKV
  rw [List.filter_map]
  congr 1
  refine List.filter_congr fun x _ => ?_
  show decide (¬ (Sum.inl ((x.1 : Nat) : Int) : Key) = .inl ((n : Nat) : Int)) = _
  rw [decide_not, decide_eq_decide.mpr keyn]
theorem sat_filter {α : Type} {f : α → Prd} {g : α → Bool} : ∀ {xs : List α} {fps : List (List Addr)} {H : Hp}, Sat (xs.map f) fps H → ∃ fps', Sat ((xs.filter g).map f) fps' H ∧ ∀ y ∈ fps', y ∈ fps
  | [], [], H, _ => ⟨[], trivial, fun _ h => nomatch h⟩
  | x :: r, y :: fps, H, h => by
    obtain ⟨fps', h1, h2⟩ := sat_filter (xs := r) h.2.2
    by_cases e : g x = true
    · rw [List.filter_cons_of_pos e]
      exact ⟨y :: fps', ⟨h.1, fun z hz a ha => h.2.1 z (h2 z hz) a ha, h1⟩, fun z hz => by
        rcases List.mem_cons.mp hz with rfl | hz
        · exact List.mem_cons_self
        · exact List.mem_cons_of_mem _ (h2 z hz)⟩
    · rw [List.filter_cons_of_neg e]
      exact ⟨fps', h1, fun z hz => List.mem_cons_of_mem _ (h2 z hz)⟩
  | [], _ :: _, _, h => h.elim
  | _ :: _, [], _, h => h.elim
theorem beh_filter {α : Type} {f : α → Prd} {g : α → Bool} {xs : List α} {H0 H : Hp} (b : Beh (packA (xs.map f)) H0 H) : Beh (packA ((xs.filter g).map f)) H0 H := by
  obtain ⟨x, fps, s, n⟩ := sep_beh.mpr b
  obtain ⟨fps', h1, h2⟩ := sat_filter (g := g) s
  exact sep_beh.mp ⟨x, fps', h1, fun y hy => n y (h2 y hy)⟩
theorem Tups.eraseIdx {H : Hp} : ∀ {vs : List V} {xs : List (List V)} (n : Nat), Tups H vs xs → Tups H (vs.eraseIdx n) (xs.eraseIdx n)
  | [], [], _, _ => trivial
  | v :: vs, x :: xs, 0, h => h.2
  | v :: vs, x :: xs, n + 1, h => ⟨h.1, Tups.eraseIdx n h.2⟩
  | [], _ :: _, _, h => h.elim
  | _ :: _, [], _, h => h.elim
theorem Tups.set {H : Hp} {a : Addr} {y : List V} (e : H a = some (.tup y)) : ∀ {vs : List V} {xs : List (List V)} (n : Nat), Tups H vs xs → Tups H (vs.set n (.ref a)) (xs.set n y)
  | [], [], _, _ => trivial
  | v :: vs, x :: xs, 0, h => ⟨⟨a, rfl, e⟩, h.2⟩
  | v :: vs, x :: xs, n + 1, h => ⟨h.1, Tups.set e n h.2⟩
  | [], _ :: _, _, h => h.elim
  | _ :: _, [], _, h => h.elim
theorem eraseIdx_map {α β : Type} {f : α → β} : ∀ (xs : List α) (n : Nat), (xs.eraseIdx n).map f = (xs.map f).eraseIdx n
  | [], _ => rfl
  | x :: r, 0 => rfl
  | x :: r, n + 1 => by
    show f x :: (r.eraseIdx n).map f = f x :: (r.map f).eraseIdx n
    rw [eraseIdx_map r n]
theorem seq_at {k n : Nat} (h : k < n) : seqIndex? (k : Int) n = some k := by
  unfold seqIndex?
  have h1 : ¬ ((k : Int) < 0) := by omega
  simp only [if_neg h1]
  rw [if_pos (by simp; omega)]
  simp
theorem road_at {c : WC} {k : Nat} (h : k < c.road.length) : ∃ x, c.road[k]? = some x ∧ c.abs.road[k]? = some x := ⟨c.road[k], List.getElem?_eq_getElem h, List.getElem?_eq_getElem h⟩
end
end Vf
namespace Vf
open PySem PySem.Spec PyProof.Rows L2 Evl GxR
/-! ### a world settles -/
abbrev sKHl : Stmt := inClass (topS 60) 10
theorem scKHl : FnScope ["self"] ["self"] (defScope sKHl) := ⟨rfl, rfl, rfl, by decide +kernel, rfl, by decide +kernel, by decide +kernel⟩
def spKHl (C : Addr) : Sp := fun vs H Q _ => ∃ (H0 : Hp) (p : Addr) (s : Lk), vs = [.ref p] ∧ Beh (lookA C p s) H0 H ∧ Q (.bl s.left) H
def spWTh (C : Addr) : Sp := fun vs H Q _ => ∃ (H0 : Hp) (p : Addr) (s : Lk) (ch : Nat), vs = [.ref p, .int ch] ∧ Beh (lookA C p s) H0 H ∧ s.signs.length < 1000000 ∧ Q (.bl (s.through ch)) H
def Hl.ch (h : Hl) (pn : Nat) : Nat := match h.panes[pn]? with
  | none => 0
  | some s => s.log.length
def Wd.settled (w : Wd) : Bool := w.looks.all fun x => x.2.left || x.2.through (w.hall.ch x.2.pane)
structure SetOk (w : Wd) : Prop extends LksOk w where
  hok : HOk w.hall
  pane : ∀ x ∈ w.looks, x.2.pane < w.hall.panes.length
def spWIs (C : WCl) : Sp := fun vs H Q _ => ∃ (H0 : Hp) (p : Addr) (w : Wd), vs = [.ref p] ∧ Beh (worldA C p w) H0 H ∧ SetOk w ∧ ∀ H', Ex H H' → Q (.bl w.settled) H'
def Wd.round (w : Wd) : Wd := w.send.carry w.send.road.length
structure RouOk (w : Wd) : Prop where
  send : SendOk w
  car : CarOk w.send w.send.road.length
  len : w.send.road.length < 1000000
  set : SetOk w.round
def Wd.settleN : Nat → Wd → Wd
  | 0, w => w
  | n + 1, w => if w.round.settled = true then w.round else Wd.settleN n w.round
def Wd.settle (w : Wd) : Wd := w.settleN 60
def spWSt (T0 : Addr) (C : WCl) : Sp := fun vs H Q _ => ∃ (H0 : Hp) (p : Addr) (w : Wd) (Safe : Wd → Prop), vs = [.ref p] ∧ Beh (worldA C p w) H0 H ∧ Safe w ∧ (∀ w', Safe w' → RouOk w' ∧ Safe w'.round) ∧ H0 T0 = some (TabO T0) ∧ ∀ H', Beh (worldA C p w.settle) H0 H' → Q .non H'
theorem numV_eq {o : Option Nat} {n : Nat} : decide (numV o = .int (n : Nat)) = decide (o = some n) := by
  refine decide_eq_decide.mpr ⟨fun k => ?_, fun k => by rw [k]; rfl⟩
  cases o with
  | none => cases k
  | some m =>
    have := V.int.inj k
    rw [show m = n by omega]
structure TWld4 (K : PySem.W.Frag) (mg : Str → Option Value) (C : WCl) : Prop where
  z_len : mg "len" = none
  z_all : mg "all" = none
  z_range : mg "range" = none
  mg_ROUNDS : ∃ t, mg "ROUNDS" = some (.int 60 t)
  cl : Cls K C.W
  w : ClsN K C.W WKK
  clH : Cls K C.h.H
  clK : Cls K C.K
  k : ClsN K C.K LKK
structure TThr (K : PySem.W.Frag) (C : Addr) : Prop where
  clK : Cls K C
section
variable {P : Program} {w : World} {K : PySem.W.Frag} {mg : Str → Option Value} {base : Heap}
structure CThr (P : Program) (w : World) (K : PySem.W.Frag) (mg : Str → Option Value) (base : Heap) (C : Addr) : Prop where
  Look_known : MCal P w K mg base C "known" 1 ["self"] (spKKn C)
  Look_waiting : MCal P w K mg base C "waiting" 1 ["self"] (spKWa C)
structure CWld11 (P : Program) (w : World) (K : PySem.W.Frag) (mg : Str → Option Value) (base : Heap) (C : WCl) : Prop where
  Hall_panes : MCal P w K mg base C.h.H "panes" 2 ["self"] (spHPa C.h)
  Look_has_left : MCal P w K mg base C.K "has_left" 1 ["self"] (spKHl C.K)
structure CWld12 (P : Program) (w : World) (K : PySem.W.Frag) (mg : Str → Option Value) (base : Heap) (T0 : Addr) (C : WCl) : Prop where
end
end Vf
namespace Vf
open PySem PySem.Spec PyProof.Rows L2 Evl GxR
/-! ### steps of a world -/
inductive Stp
  | come (n pn wd hg : Nat)
  | press (n : Nat) (z : Str)
  | size (n wd hg : Nat)
  | leave (n : Nat)
  | gone (n : Nat)
  | beat
  | send
  | carry (k : Nat)
  | lose (k : Nat)
  | twice (k : Nat)
  | cut (k m : Nat)
  | settle
def Stp.vals : Stp → List V
  | .come n pn wd hg => [.str (Str.ofString "come"), .int (n : Nat), .int (pn : Nat), .int (wd : Nat), .int (hg : Nat)]
  | .press n z => [.str (Str.ofString "press"), .int (n : Nat), .str z]
  | .size n wd hg => [.str (Str.ofString "size"), .int (n : Nat), .int (wd : Nat), .int (hg : Nat)]
  | .leave n => [.str (Str.ofString "leave"), .int (n : Nat)]
  | .gone n => [.str (Str.ofString "gone"), .int (n : Nat)]
  | .beat => [.str (Str.ofString "beat")]
  | .send => [.str (Str.ofString "send")]
  | .carry k => [.str (Str.ofString "carry"), .int (k : Nat)]
  | .lose k => [.str (Str.ofString "lose"), .int (k : Nat)]
  | .twice k => [.str (Str.ofString "twice"), .int (k : Nat)]
  | .cut k m => [.str (Str.ofString "cut"), .int (k : Nat), .int (m : Nat)]
  | .settle => [.str (Str.ofString "settle")]
def Wd.onLook (w : Wd) (n : Nat) (f : Lk → Lk) : Wd := match sOf n w.looks with
  | none => w
  | some l => { w with looks := putS w.looks n (f l) }
def Wd.doS (w : Wd) : Stp → Wd
  | .come n pn wd hg => w.come n pn wd hg
  | .press n z => w.onLook n fun l => { l with signs := l.signs ++ z }
  | .size n wd hg => w.onLook n fun l => { l with wide := wd, high := hg }
  | .leave n => w.onLook n fun l => { l with left := true }
  | .gone n => w.gone n
  | .beat => { w with hall := w.hall.beat }
  | .send => w.send
  | .carry k => w.carry k
  | .lose k => w.lose k
  | .twice k => w.twice k
  | .cut k m => w.cutL k m
  | .settle => w.settle
def DoOk (w : Wd) : Stp → Prop
  | .come n pn wd hg => ComeOk w n pn wd hg
  | .press n z => ∃ l, sOf n w.looks = some l ∧ l.left = false ∧ l.over = false ∧ (∀ c ∈ z.cps.toList, isK c = true) ∧ l.signs.length + z.length < 1000000
  | .size n wd hg => ∃ l, sOf n w.looks = some l ∧ SizeOk wd hg
  | .leave n => ∃ l, sOf n w.looks = some l ∧ True
  | .gone n => sOf n w.looks ≠ none
  | .beat => HOk w.hall
  | .send => SendOk w
  | .carry k => CarOk w k ∧ w.road.length < 1000000
  | .lose _ => w.road.length < 1000000
  | .twice k => ∀ x, w.road[k]? = some x → DelOk w x
  | .cut _ _ => ∀ x ∈ w.road, x.2.length ≤ 900000
  | .settle => ∃ Safe : Wd → Prop, Safe w ∧ ∀ w', Safe w' → RouOk w' ∧ Safe w'.round
theorem onLook_abs {c : WC} {n i : Nat} {l : Lk} {a : Addr} {f : Lk → Lk} (e : sOf n c.abs.looks = some l) (h1 : ixOf n c.lks = some i) : ({ c with lks := c.lks.set i (n, f l, a) } : WC).abs = c.abs.onLook n f := by
  have e2 : c.abs.onLook n f = { c.abs with looks := putS c.abs.looks n (f l) } := by unfold Wd.onLook; rw [e]
  rw [e2, putS_look (a := a) h1]
  rfl
def spWDo (T0 : Addr) (C : WCl) : Sp := fun vs H Q _ => ∃ (H0 : Hp) (p t : Addr) (w : Wd) (st : Stp), vs = [.ref p, .ref t] ∧ H t = some (.tup st.vals) ∧ Beh (worldA C p w) H0 H ∧ DoOk w st ∧ H0 T0 = some (TabO T0) ∧ ∀ H', Beh (worldA C p (w.doS st)) H0 H' → Q .non H'
structure TWld5 (K : PySem.W.Frag) (C : WCl) : Prop where
  cl : Cls K C.W
  w : ClsN K C.W WKK
  clH : Cls K C.h.H
  clK : Cls K C.K
section
variable {P : Program} {w : World} {K : PySem.W.Frag} {mg : Str → Option Value} {base : Heap}
structure CWld13 (P : Program) (w : World) (K : PySem.W.Frag) (mg : Str → Option Value) (base : Heap) (T0 : Addr) (C : WCl) : Prop where
  Look_press : MCal P w K mg base C.K "press" 2 ["self", "signs"] (spKPr C.K)
  Look_resize : MCal P w K mg base C.K "resize" 4 ["self", "wide", "high"] (spKRe C.K)
  Look_leave : MCal P w K mg base C.K "leave" 1 ["self"] (spKLe C.K)
  Hall_beat : MCal P w K mg base C.h.H "beat" 4 ["self"] (spHBe C.h)
end
end Vf
namespace Vf
open PySem PySem.Spec PyProof.Rows L2 Evl GxR
/-! ### what the looks of a world show -/
def ShowT (H : Hp) (v : V) (s : Lk) : Prop := ∃ t pr, v = .ref t ∧ H t = some (.tup [.int (s.name : Nat), .int (s.session : Nat), .ref pr, numV s.known, .int (s.signs.length : Nat)]) ∧ H pr = some (.lst (s.picture.map V.str))
def ShowsT (H : Hp) (us : List V) (ls : List Lk) : Prop := us.length = ls.length ∧ ∀ (i : Nat) (v : V) (s : Lk), us[i]? = some v → ls[i]? = some s → ShowT H v s
def lkAt (looks : List (Nat × Lk)) (n : Nat) : Lk := (sOf n looks).getD (Lk.new 0 0 0 0 0)
def Wd.inTurn (w : Wd) : List Lk := (keysOf w.looks).map (lkAt w.looks)
theorem ShowT.ex {H H' : Hp} {v : V} {s : Lk} (h : ShowT H v s) (e : Ex H H') : ShowT H' v s := by
  obtain ⟨t, pr, h1, h2, h3⟩ := h
  exact ⟨t, pr, h1, e _ _ h2, e _ _ h3⟩
def spWSh (C : WCl) : Sp := fun vs H Q _ => ∃ (H0 : Hp) (p : Addr) (w : Wd), vs = [.ref p] ∧ Beh (worldA C p w) H0 H ∧ LksOk w ∧ ∀ q us H', Ex H H' → H q = none → H' q = some (.lst us) → ShowsT H' us w.inTurn → Q (.ref q) H'
structure TWld6 (K : PySem.W.Frag) (mg : Str → Option Value) (C : WCl) : Prop where
  z_sorted : mg "sorted" = none
  w : ClsN K C.W WKK
  clK : Cls K C.K
  k : ClsN K C.K LKK
section
variable {P : Program} {w : World} {K : PySem.W.Frag} {mg : Str → Option Value} {base : Heap}
structure CWld14 (P : Program) (w : World) (K : PySem.W.Frag) (mg : Str → Option Value) (base : Heap) (C : Addr) : Prop where
  Look_picture : MCal P w K mg base C "picture" 5 ["self"] (spKPi C)
  Look_known : MCal P w K mg base C "known" 1 ["self"] (spKKn C)
  Look_waiting : MCal P w K mg base C "waiting" 1 ["self"] (spKWa C)
end
end Vf
namespace Vf
open PySem PySem.Spec PyProof.Rows L2 Evl GxR
/-! ### looks that type nothing, and their letters -/
structure Ent where
  s : Nat
  p : Nat
  left : Bool
def lkOf (n : Nat) (e : Ent) : Lk := ⟨n, e.s, e.p, 2, 1, 0, Str.ofString "", none, [], Str.ofString "", e.left, false⟩
def kindOf (e : Ent) : Str := if e.left = true then "left" else "typed"
def wordOf (e : Ent) : Str := if e.left = true then "gone" else "at"
def textOf (n : Nat) (e : Ent) : List Nat := lookL (kindOf e) [n, e.s, e.p, 0] (Str.ofString "")
theorem lk_letters {n : Nat} {e : Ent} : (lkOf n e).letters = [textOf n e] := by
  have h1 : cutS (Str.ofString "") (some ((0 : Nat) : Int)) (some ((1000 : Nat) : Int)) = Str.ofString "" := by decide +kernel
  have h2 : letterN (Str.ofString "").length = 1 := by decide +kernel
  unfold textOf kindOf Lk.letters lkOf
  cases e.left with
  | true => rw [if_neg (fun k => by cases k), if_pos rfl, if_pos rfl]
  | false =>
    rw [if_neg (fun k => by cases k), if_neg (fun k => by cases k), if_neg (fun k => by cases k)]
    show (List.range (letterN (Str.ofString "").length)).map (fun i => lookL "typed" [n, e.s, e.p, 0 + i * 1000] (cutS (Str.ofString "") (some ((i * 1000 : Nat) : Int)) (some ((i * 1000 + 1000 : Nat) : Int)))) = _
    rw [h2]
    show [lookL "typed" [n, e.s, e.p, 0 + 0 * 1000] (cutS (Str.ofString "") (some ((0 * 1000 : Nat) : Int)) (some ((0 * 1000 + 1000 : Nat) : Int)))] = _
    rw [show (0 * 1000 : Nat) = 0 from rfl, show (0 + 1000 : Nat) = 1000 from rfl, h1]
theorem kind_ok {e : Ent} : isKind (kindOf e) := by
  unfold kindOf isKind
  cases e.left
  · exact .inl rfl
  · exact .inr rfl
theorem word_gone {e : Ent} : decide (wordOf e = "gone") = e.left := by
  unfold wordOf
  cases e.left
  · decide +kernel
  · decide +kernel
theorem kind_left {e : Ent} : (kindOf e = "left") ↔ e.left = true := by
  unfold kindOf
  cases e.left
  · decide +kernel
  · decide +kernel
theorem fld_nil : FldOk (Str.ofString "") := ⟨by decide +kernel, by decide +kernel, fun c hc => by
  rw [show (Str.ofString "").cps.toList = [] by decide +kernel] at hc
  exact nomatch hc⟩
theorem text_back {n : Nat} {e : Ent} (h : ∀ k ∈ [n, e.s, e.p, 0], k < 10000000) : readLook (textOf n e) = some (kindOf e, [n, e.s, e.p, 0], Str.ofString "") := look_back kind_ok rfl h fld_nil
theorem set_same {α : Type} {xs : List α} {i : Nat} {x : α} (h : xs[i]? = some x) : xs.set i x = xs := by
  obtain ⟨hi, rfl⟩ := List.getElem?_eq_some_iff.mp h
  exact List.set_getElem_self hi
def seated (k : Str) (n : Nat) (z : Str) : Hl × Option Nat → Hl
  | (h', none) => h'
  | (h', some i) => if k = "left" then h'.setLeft i else h'.doSigns n i 0 z.cps.toList
/-- a letter of a look that typed nothing: as the list tells -/
theorem hear_hrd {R : List Pn} {se : List (Nat × Sst)} {n : Nat} {e : Ent} (hp : e.p < R.length) (hd : ∀ x ∈ se, x.2.done = 0) (hpf : ∀ i x, ixOf n se = some i → se[i]? = some x → x.2.session = e.s → x.2.pane = e.p) :
    (⟨R, se⟩ : Hl).hear (some (kindOf e, [n, e.s, e.p, 0], Str.ofString "")) = ⟨R, hrdL se n e.s e.p e.left⟩ := by
  have dos : ∀ (se2 : List (Nat × Sst)) (i : Nat) (x : Nat × Sst), se2[i]? = some x → x.2.done = 0 → (⟨R, se2⟩ : Hl).doSigns n i 0 (Str.ofString "").cps.toList = ⟨R, se2⟩ := fun se2 i x hx h0 => by
    unfold Hl.doSigns
    show (match se2[i]? with | none => _ | some x => _) = _
    rw [hx]
    show (if x.2.done < 0 then _ else _) = _
    rw [if_neg (Nat.not_lt_zero _), show (Str.ofString "").cps.toList = [] by decide +kernel, List.drop_nil]
    rfl
  have lft : ∀ (se2 : List (Nat × Sst)) (i : Nat) (x : Nat × Sst), se2[i]? = some x → (⟨R, se2⟩ : Hl).setLeft i = ⟨R, se2.set i (x.1, { x.2 with left := true })⟩ := fun se2 i x hx => by
    unfold Hl.setLeft
    show (match se2[i]? with | none => _ | some x => _) = _
    rw [hx]
  have hh : (⟨R, se⟩ : Hl).hear (some (kindOf e, [n, e.s, e.p, 0], Str.ofString "")) = seated (kindOf e) n (Str.ofString "") ((⟨R, se⟩ : Hl).seat n e.s e.p) := rfl
  have hR : ¬ R.length ≤ e.p := by omega
  rw [hh]
  unfold hrdL putS
  cases hix : ixOf n se with
  | none =>
    rw [sOf_none hix]
    have hs : (⟨R, se⟩ : Hl).seat n e.s e.p = (⟨R, se ++ [(n, ⟨e.s, e.p, 0, false⟩)]⟩, some se.length) := by
      unfold Hl.seat
      rw [if_neg hR]
      simp only [hix]
    rw [hs]
    show (if kindOf e = "left" then (⟨R, se ++ [(n, ⟨e.s, e.p, 0, false⟩)]⟩ : Hl).setLeft se.length else (⟨R, se ++ [(n, ⟨e.s, e.p, 0, false⟩)]⟩ : Hl).doSigns n se.length 0 _) = _
    have hx : (se ++ [(n, (⟨e.s, e.p, 0, false⟩ : Sst))])[se.length]? = some (n, ⟨e.s, e.p, 0, false⟩) := by simp
    cases hl : e.left with
    | true =>
      rw [if_pos (kind_left.mpr hl), lft _ _ _ hx]
      unfold stH
      simp only [and_self, if_true]
      rw [List.set_append_right _ _ (Nat.le_refl _), Nat.sub_self]
      rfl
    | false =>
      rw [if_neg (fun k => by rw [kind_left, hl] at k; cases k), dos _ _ _ hx rfl]
      unfold stH
      simp
  | some i =>
    obtain ⟨x, hx, hxn⟩ := ixo_get hix
    rw [sOf_ix hix hx]
    have hs : (⟨R, se⟩ : Hl).seat n e.s e.p = if x.2.session < e.s then (⟨R, se.set i (n, ⟨e.s, e.p, 0, false⟩)⟩, some i) else if e.s < x.2.session ∨ x.2.left = true ∨ ¬ e.p = x.2.pane then (⟨R, se⟩, none) else (⟨R, se⟩, some i) := by
      unfold Hl.seat
      rw [if_neg hR]
      simp only [hix, hx]
    rw [hs]
    by_cases h1 : x.2.session < e.s
    · rw [if_pos h1]
      show (if kindOf e = "left" then (⟨R, se.set i (n, ⟨e.s, e.p, 0, false⟩)⟩ : Hl).setLeft i else (⟨R, se.set i (n, ⟨e.s, e.p, 0, false⟩)⟩ : Hl).doSigns n i 0 _) = _
      have hx2 : (se.set i (n, (⟨e.s, e.p, 0, false⟩ : Sst)))[i]? = some (n, ⟨e.s, e.p, 0, false⟩) := by
        rw [List.getElem?_set_self (List.getElem?_eq_some_iff.mp hx).1]
      unfold stH
      simp only [if_pos h1]
      cases hl : e.left with
      | true =>
        rw [if_pos (kind_left.mpr hl), lft _ _ _ hx2, List.set_set]
        simp
      | false =>
        rw [if_neg (fun k => by rw [kind_left, hl] at k; cases k), dos _ _ _ hx2 rfl]
        simp
    · rw [if_neg h1]
      unfold stH
      simp only [if_neg h1]
      have same : se.set i (n, x.2) = se := set_same (by rw [hx, ← hxn])
      by_cases h2 : e.s < x.2.session ∨ x.2.left = true ∨ ¬ e.p = x.2.pane
      · rw [if_pos h2]
        show (⟨R, se⟩ : Hl) = _
        by_cases h3 : x.2.session = e.s ∧ e.left = true
        · rw [if_pos h3]
          rcases h2 with h2 | h2 | h2
          · omega
          · have : ({ x.2 with left := true } : Sst) = x.2 := by rw [← h2]
            rw [this, same]
          · exact absurd (hpf i x hix hx h3.1).symm h2
        · rw [if_neg h3, same]
      · rw [if_neg h2]
        show (if kindOf e = "left" then (⟨R, se⟩ : Hl).setLeft i else (⟨R, se⟩ : Hl).doSigns n i 0 _) = _
        have h4 : x.2.session = e.s := by
          have : ¬ e.s < x.2.session := fun k => h2 (.inl k)
          omega
        cases hl : e.left with
        | true =>
          rw [if_pos (kind_left.mpr hl), lft _ _ _ hx, if_pos ⟨h4, rfl⟩, hxn]
        | false =>
          rw [if_neg (fun k => by rw [kind_left, hl] at k; cases k), dos _ _ _ hx (hd x (List.mem_of_getElem? hx)), if_neg (fun k => by cases k.2), same]
theorem hear_far {R : List Pn} {se : List (Nat × Sst)} {n s p : Nat} {k z : Str} (hp : R.length ≤ p) : (⟨R, se⟩ : Hl).hear (some (k, [n, s, p, 0], z)) = ⟨R, se⟩ := by
  have hh : (⟨R, se⟩ : Hl).hear (some (k, [n, s, p, 0], z)) = seated k n z ((⟨R, se⟩ : Hl).seat n s p) := rfl
  have hs : (⟨R, se⟩ : Hl).seat n s p = (⟨R, se⟩, none) := if_pos hp
  rw [hh, hs]
  rfl
end Vf
namespace Vf
open PySem PySem.Spec PyProof.Rows L2 Evl GxR
/-! ### what was typed and done, and what letters may say: the mathematics -/
theorem add_len {s : Pn} {x : Str} : (s.addRow x).log.length = s.log.length + 1 := by
  show (s.log ++ [_]).length = _
  rw [List.length_append]; rfl
theorem clr_len {s : Pn} : s.clr.log.length = s.log.length + 1 := by
  show (s.log ++ [_]).length = _
  rw [List.length_append]; rfl
theorem set_len {s : Pn} {x : Str} : (s.setLine x).log.length ≤ s.log.length + 1 := by
  unfold Pn.setLine
  by_cases h : x = s.line
  · rw [if_pos h]; omega
  · rw [if_neg h]
    show (s.log ++ [_]).length ≤ _
    rw [List.length_append]; exact Nat.le_refl _
theorem said_len {s : Pn} : s.said.log.length ≤ s.log.length + 2 := by
  have h1 := set_len (s := s.addRow ("> " ++ s.line)) (x := ⟨#[]⟩)
  rw [add_len] at h1
  exact h1
theorem do_len {s : Pn} : s.doLine.log.length ≤ s.log.length + 3 := by
  have h := said_len (s := s)
  unfold Pn.doLine
  split
  · rw [add_len]; omega
  · split
    · rw [clr_len]; omega
    · split
      · show s.said.log.length ≤ _; omega
      · split
        · show s.said.log.length ≤ _; omega
        · split
          · rw [add_len]; omega
          · omega
theorem press_len {s : Pn} {v w : V} {c : Nat} : (s.press v w c).log.length ≤ s.log.length + 3 := by
  unfold Pn.press
  have h0 : ({ s with typed := lst 100 (s.typed ++ [[v, w, .str (sg c)]]) } : Pn).log.length = s.log.length := rfl
  generalize ({ s with typed := lst 100 (s.typed ++ [[v, w, .str (sg c)]]) } : Pn) = t at h0
  show (if sg c = ";" then t.doLine else if sg c = "<" then t.setLine (cutS t.line none (some (-1))) else if t.line.length < 30 then t.setLine (t.line ++ sg c) else t).log.length ≤ _
  have h1 := do_len (s := t)
  have h2 := fun x => set_len (s := t) (x := x)
  split
  · omega
  · split
    · have := h2 (cutS t.line none (some (-1))); omega
    · split
      · have := h2 (t.line ++ sg c); omega
      · omega
theorem beat_len {s : Pn} : s.beat.log.length ≤ s.log.length + 3 := by
  unfold Pn.beat
  cases s.job with
  | none => exact Nat.le_add_right _ _
  | some x =>
    obtain ⟨b, n⟩ := x
    show (s.addRow (ofRow (b + 1) n)).log.length ≤ _
    rw [add_len]; omega
/-- what happens to panes: a sign of a name's session is done at one, or all go on -/
inductive Gev
  | press (p n s c : Nat)
  | beat
def stepP (p : Nat) (st : Pn) : Gev → Pn
  | .press q n s c => if q = p then st.press (.int (n : Nat)) (.int (s : Nat)) c else st
  | .beat => st.beat
def runP (p : Nat) (ev : List Gev) : Pn := ev.foldl (stepP p) Pn.new
theorem runP_snoc {p : Nat} {ev : List Gev} {g : Gev} : runP p (ev ++ [g]) = stepP p (runP p ev) g := by
  unfold runP
  rw [List.foldl_append]
  rfl
def Gev.ok : Gev → Prop
  | .press _ _ _ c => isK c = true
  | .beat => True
theorem isK_mem {c : Nat} : isK c = true ↔ c ∈ KEY.cps.toList := by unfold isK; exact decide_eq_true_iff
theorem step_ok {p : Nat} {st : Pn} {g : Gev} (h : g.ok) (O : POk st ∧ PFl st) : POk (stepP p st g) ∧ PFl (stepP p st g) := by
  cases g with
  | press q n s c =>
    show POk (if q = p then _ else _) ∧ PFl (if q = p then _ else _)
    by_cases e : q = p
    · rw [if_pos e]; exact ⟨O.1.press (isK_mem.mp h), O.2.press (isK_mem.mp h)⟩
    · rw [if_neg e]; exact O
  | beat => exact ⟨O.1.beat, O.2.beat O.1⟩
theorem fold_ok {p : Nat} : ∀ {ev : List Gev} {st : Pn}, (∀ g ∈ ev, g.ok) → POk st ∧ PFl st → POk (ev.foldl (stepP p) st) ∧ PFl (ev.foldl (stepP p) st)
  | [], _, _, O => O
  | g :: r, st, h, O => fold_ok (ev := r) (fun x hx => h x (List.mem_cons_of_mem _ hx)) (step_ok (h g List.mem_cons_self) O)
theorem runP_ok {p : Nat} {ev : List Gev} (h : ∀ g ∈ ev, g.ok) : POk (runP p ev) ∧ PFl (runP p ev) := fold_ok h ⟨POk.new, PFl.new⟩
theorem step_leads {p : Nat} {st : Pn} {g : Gev} : Leads st (stepP p st g) := by
  cases g with
  | press q n s c =>
    show Leads st (if q = p then _ else _)
    by_cases e : q = p
    · rw [if_pos e]; exact Leads.press
    · rw [if_neg e]; exact Leads.refl
  | beat => exact Leads.beat
theorem fold_leads {p : Nat} : ∀ {ev : List Gev} {st : Pn}, Leads st (ev.foldl (stepP p) st)
  | [], _ => Leads.refl
  | g :: r, st => Leads.trans step_leads (fold_leads (ev := r))
theorem fold_len {p : Nat} : ∀ {ev : List Gev} {st : Pn}, (ev.foldl (stepP p) st).log.length ≤ st.log.length + 3 * ev.length
  | [], _ => Nat.le_add_right _ _
  | g :: r, st => by
    have h1 := fold_len (p := p) (ev := r) (st := stepP p st g)
    have h2 : (stepP p st g).log.length ≤ st.log.length + 3 := by
      cases g with
      | press q n s c =>
        show (if q = p then _ else _ : Pn).log.length ≤ _
        by_cases e : q = p
        · rw [if_pos e]; exact press_len
        · rw [if_neg e]; omega
      | beat => exact beat_len
    rw [List.length_cons]
    show (r.foldl (stepP p) (stepP p st g)).log.length ≤ _
    omega
theorem runP_len {p : Nat} {ev : List Gev} : (runP p ev).log.length ≤ 3 * ev.length := by
  have := fold_len (p := p) (ev := ev) (st := Pn.new)
  have e : Pn.new.log.length = 0 := rfl
  unfold runP
  omega
theorem runP_leads {p j : Nat} {ev : List Gev} : Leads (runP p (ev.take j)) (runP p ev) := by
  have e : runP p ev = (ev.drop j).foldl (stepP p) (runP p (ev.take j)) := by
    unfold runP
    rw [← List.foldl_append, List.take_append_drop]
  rw [e]
  exact fold_leads
/-- what a pane had behind so many changes -/
def Past (ev : List Gev) (p c : Nat) (rows : List Str) (line : Str) : Prop := ∃ j, j ≤ ev.length ∧ c = (runP p (ev.take j)).log.length ∧ rows = (runP p (ev.take j)).rows ∧ line = (runP p (ev.take j)).line
theorem Past.mono {ev : List Gev} {p c : Nat} {rows : List Str} {line : Str} (h : Past ev p c rows line) (L : List Gev) : Past (ev ++ L) p c rows line := by
  obtain ⟨j, h0, h1, h2, h3⟩ := h
  refine ⟨j, by rw [List.length_append]; omega, ?_⟩
  rw [List.take_append_of_le_length h0]
  exact ⟨h1, h2, h3⟩
theorem Past.now {ev : List Gev} {p : Nat} : Past ev p (runP p ev).log.length (runP p ev).rows (runP p ev).line := ⟨ev.length, Nat.le_refl _, by rw [List.take_length], by rw [List.take_length], by rw [List.take_length]⟩
theorem Past.le {ev : List Gev} {p c : Nat} {rows : List Str} {line : Str} (h : Past ev p c rows line) : c ≤ (runP p ev).log.length := by
  obtain ⟨j, h0, h1, h2, h3⟩ := h
  obtain ⟨l, hl, _⟩ := runP_leads (p := p) (j := j) (ev := ev)
  rw [h1, hl, List.length_append]
  omega
theorem Past.same {ev : List Gev} {p : Nat} {rows : List Str} {line : Str} (h : Past ev p (runP p ev).log.length rows line) : rows = (runP p ev).rows ∧ line = (runP p ev).line := by
  obtain ⟨j, h0, h1, h2, h3⟩ := h
  obtain ⟨l, hl, hr⟩ := runP_leads (p := p) (j := j) (ev := ev)
  rw [hl, List.length_append] at h1
  have : l = [] := List.length_eq_zero_iff.mp (by omega)
  subst this
  rw [h2, h3]
  exact ⟨congrArg Prod.fst hr, congrArg Prod.snd hr⟩
end Vf
namespace Vf
open PySem PySem.Spec PyProof.Rows L2 Evl GxR
/-! ### sessions, and the hall that hears of them -/
structure Ses where
  n : Nat
  s : Nat
  p : Nat
  ty : List Nat
  dn : Nat
  lf : Bool
def Ses.key (x : Ses) : Nat × Nat := (x.n, x.s)
/-- the signs of a name's session that were done, in turn -/
def signG (n s : Nat) : Gev → Option Nat
  | .press _ n' s' c => if n' = n ∧ s' = s then some c else none
  | .beat => none
def signsOf (n s : Nat) (ev : List Gev) : List Nat := ev.filterMap (signG n s)
def undone (ses : List Ses) : Nat := (ses.map fun x => x.ty.length - x.dn).sum
def pressed (ev : List Gev) : Prop := ∀ g ∈ ev, ∃ p n s c, g = .press p n s c
structure Net (m B : Nat) (ses : List Ses) (ev : List Gev) (h : Hl) : Prop where
  m1 : 1 ≤ m
  m3 : m ≤ 3
  panes : h.panes = (List.range m).map fun p => runP p ev
  seat : ∀ n st, sOf n h.seats = some st → ∃ x ∈ ses, x.n = n ∧ x.s = st.session ∧ x.p = st.pane ∧ x.dn = st.done ∧ (st.left = true → x.lf = true)
  s4 : ∀ y ∈ h.seats, y.1 < 4
  snod : (h.seats.map (·.1)).Nodup
  nod : (ses.map Ses.key).Nodup
  new : ∀ x ∈ ses, (∀ st, sOf x.n h.seats = some st → st.session < x.s) → x.dn = 0
  ok : ∀ x ∈ ses, x.n < 4 ∧ 1 ≤ x.s ∧ x.s ≤ 100000 ∧ x.p < m ∧ (∀ c ∈ x.ty, isK c = true)
  dn : ∀ x ∈ ses, x.dn ≤ x.ty.length
  done : ∀ x ∈ ses, signsOf x.n x.s ev = x.ty.take x.dn
  evok : ∀ g ∈ ev, g.ok
  evp : ∀ p n s c, .press p n s c ∈ ev → ∃ x ∈ ses, x.n = n ∧ x.s = s ∧ x.p = p
  bud : ev.length + undone ses ≤ B
theorem key_inj {ses : List Ses} (nod : (ses.map Ses.key).Nodup) {j k : Nat} {x y : Ses} (hj : ses[j]? = some x) (hk : ses[k]? = some y) (e1 : x.n = y.n) (e2 : x.s = y.s) : j = k := by
  have h1 : (ses.map Ses.key)[j]? = some x.key := map_get hj
  have h2 : (ses.map Ses.key)[k]? = some y.key := map_get hk
  have e : x.key = y.key := by unfold Ses.key; rw [e1, e2]
  have l1 := lt_of_get h1
  exact (List.getElem?_inj l1 nod).mp (by rw [h1, h2, e])
theorem key_eq {ses : List Ses} (nod : (ses.map Ses.key).Nodup) {x y : Ses} (hx : x ∈ ses) (hy : y ∈ ses) (e1 : x.n = y.n) (e2 : x.s = y.s) : x = y := by
  obtain ⟨j, hj⟩ := List.getElem?_of_mem hx
  obtain ⟨k, hk⟩ := List.getElem?_of_mem hy
  have := key_inj nod hj hk e1 e2
  subst this
  rw [hj] at hk
  exact Option.some.inj hk
section
variable {m B : Nat} {ses : List Ses} {ev : List Gev} {h : Hl}
theorem Net.hlen (N : Net m B ses ev h) : h.panes.length = m := by rw [N.panes, List.length_map, List.length_range]
theorem Net.pane (N : Net m B ses ev h) {p : Nat} (hp : p < m) : h.panes[p]? = some (runP p ev) := by
  rw [N.panes, List.getElem?_map, List.getElem?_range hp]
  rfl
theorem Net.dnle (N : Net m B ses ev h) {x : Ses} (hx : x ∈ ses) : x.dn ≤ ev.length := by
  have h1 := N.done x hx
  have h2 := congrArg List.length h1
  rw [List.length_take, Nat.min_eq_left (N.dn x hx)] at h2
  rw [← h2]
  exact List.length_filterMap_le _ _
theorem Net.hok (N : Net m B ses ev h) : HOk h := by
  refine ⟨N.snod, N.s4, fun y hy => ?_, fun st hst => ?_, by rw [N.hlen]; exact N.m3⟩
  · obtain ⟨i, hi⟩ := List.getElem?_of_mem hy
    have hs : sOf y.1 h.seats = some y.2 := by
      cases e : ixOf y.1 h.seats with
      | none => exact absurd rfl (ixo_none_mem e y hy)
      | some k =>
        obtain ⟨z, hz, hzn⟩ := ixo_get e
        have h1 : (h.seats.map (·.1))[i]? = some y.1 := map_get hi
        have h2 : (h.seats.map (·.1))[k]? = some z.1 := map_get hz
        have : i = k := (List.getElem?_inj (lt_of_get h1) N.snod).mp (by rw [h1, h2, hzn])
        subst this
        rw [hi] at hz
        obtain rfl := Option.some.inj hz
        exact sOf_ix e hi
    obtain ⟨x, hx, _, _, e3, _, _⟩ := N.seat _ _ hs
    rw [N.hlen, ← e3]
    exact (N.ok x hx).2.2.2.1
  · rw [N.panes] at hst
    obtain ⟨p, _, rfl⟩ := List.mem_map.mp hst
    exact runP_ok N.evok
theorem Net.seat_mem (N : Net m B ses ev h) {y : Nat × Sst} (hy : y ∈ h.seats) : sOf y.1 h.seats = some y.2 := by
  obtain ⟨i, hi⟩ := List.getElem?_of_mem hy
  cases e : ixOf y.1 h.seats with
  | none => exact absurd rfl (ixo_none_mem e y hy)
  | some k =>
    obtain ⟨z, hz, hzn⟩ := ixo_get e
    have h1 : (h.seats.map (·.1))[i]? = some y.1 := map_get hi
    have h2 : (h.seats.map (·.1))[k]? = some z.1 := map_get hz
    have : i = k := (List.getElem?_inj (lt_of_get h1) N.snod).mp (by rw [h1, h2, hzn])
    subst this
    rw [hi] at hz
    obtain rfl := Option.some.inj hz
    exact sOf_ix e hi
theorem Net.hlens (N : Net m B ses ev h) (hB : B ≤ 1000000) : HLen h := by
  have hev : ev.length ≤ B := by have := N.bud; omega
  refine ⟨fun y hy => ?_, fun st hst => ?_⟩
  · obtain ⟨x, hx, _, e2, _, e4, _⟩ := N.seat _ _ (N.seat_mem hy)
    have h1 := N.ok x hx
    have h2 := N.dnle hx
    omega
  · rw [N.panes] at hst
    obtain ⟨p, _, rfl⟩ := List.mem_map.mp hst
    have := runP_len (p := p) (ev := ev)
    omega
end
/-- how sessions and what happened may go on, while nothing is typed -/
structure Le0 (ses : List Ses) (ev : List Gev) (ses' : List Ses) (ev' : List Gev) : Prop where
  ev : ∃ L, ev' = ev ++ L ∧ pressed L
  len : ses'.length = ses.length
  at_ : ∀ (i : Nat) (x : Ses), ses[i]? = some x → ∃ d, ses'[i]? = some { x with dn := d } ∧ x.dn ≤ d
theorem Le0.refl (ses : List Ses) (ev : List Gev) : Le0 ses ev ses ev := ⟨⟨[], by simp, fun _ h => nomatch h⟩, rfl, fun i x h => ⟨x.dn, h, Nat.le_refl _⟩⟩
theorem Le0.trans {s1 s2 s3 : List Ses} {e1 e2 e3 : List Gev} (h : Le0 s1 e1 s2 e2) (k : Le0 s2 e2 s3 e3) : Le0 s1 e1 s3 e3 := by
  obtain ⟨L1, h1, p1⟩ := h.ev
  obtain ⟨L2, h2, p2⟩ := k.ev
  refine ⟨⟨L1 ++ L2, by rw [h2, h1, List.append_assoc], fun g hg => (List.mem_append.mp hg).elim (p1 g) (p2 g)⟩, k.len.trans h.len, fun i x hx => ?_⟩
  obtain ⟨d, hd, l1⟩ := h.at_ i x hx
  obtain ⟨d', hd', l2⟩ := k.at_ i _ hd
  exact ⟨d', hd', Nat.le_trans l1 l2⟩
theorem Le0.mem {ses ses' : List Ses} {ev ev' : List Gev} (h : Le0 ses ev ses' ev') {x : Ses} (hx : x ∈ ses) : ∃ d, { x with dn := d } ∈ ses' ∧ x.dn ≤ d := by
  obtain ⟨i, hi⟩ := List.getElem?_of_mem hx
  obtain ⟨d, hd, l⟩ := h.at_ i x hi
  exact ⟨d, List.mem_of_getElem? hd, l⟩
theorem Le0.back {ses ses' : List Ses} {ev ev' : List Gev} (h : Le0 ses ev ses' ev') {y : Ses} (hy : y ∈ ses') : ∃ x ∈ ses, ∃ d, y = { x with dn := d } ∧ x.dn ≤ d := by
  obtain ⟨i, hi⟩ := List.getElem?_of_mem hy
  have li := lt_of_get hi
  rw [h.len] at li
  have hx : ses[i]? = some ses[i] := List.getElem?_eq_getElem li
  obtain ⟨d, hd, l⟩ := h.at_ i _ hx
  rw [hi] at hd
  exact ⟨_, List.getElem_mem li, d, Option.some.inj hd, l⟩
/-! one sign is done -/
theorem sum_set {α : Type} {f : α → Nat} : ∀ {l : List α} {j : Nat} {x y : α}, l[j]? = some x → f y + 1 = f x → ((l.set j y).map f).sum + 1 = (l.map f).sum
  | a :: r, 0, x, y, h, e => by
    cases h
    show (f y + (r.map f).sum) + 1 = f a + (r.map f).sum
    omega
  | a :: r, j + 1, x, y, h, e => by
    have := sum_set (l := r) (j := j) (x := x) (y := y) h e
    show (f a + ((r.set j y).map f).sum) + 1 = f a + (r.map f).sum
    omega
  | [], _, _, _, h, _ => by cases h
theorem set_mem {α : Type} {l : List α} {j : Nat} {y z : α} (h : z ∈ l.set j y) : z = y ∨ ∃ k, k ≠ j ∧ l[k]? = some z := by
  obtain ⟨k, hk⟩ := List.getElem?_of_mem h
  by_cases e : j = k
  · subst e
    have hl := lt_of_get hk
    rw [List.length_set] at hl
    rw [List.getElem?_set_self hl] at hk
    exact .inl (Option.some.inj hk).symm
  · rw [List.getElem?_set_ne e] at hk
    exact .inr ⟨k, fun z => e z.symm, hk⟩
theorem set_mem_self {α : Type} {l : List α} {j : Nat} {x y : α} (h : l[j]? = some x) : y ∈ l.set j y := List.mem_of_getElem? (List.getElem?_set_self (lt_of_get h))
theorem sOf_set {α : Type} {n i : Nat} {se : List (Nat × α)} {st st' : α} (nod : (se.map (·.1)).Nodup) (h : se[i]? = some (n, st)) (k : Nat) : sOf k (se.set i (n, st')) = if k = n then some st' else sOf k se := by
  have hm : ∀ k, ixOf k (se.set i (n, st')) = ixOf k se := by
    intro k
    have : ∀ (se : List (Nat × α)) (i : Nat), se[i]? = some (n, st) → ixOf k (se.set i (n, st')) = ixOf k se := by
      intro se
      induction se with
      | nil => intro i _; rfl
      | cons a r ih =>
        intro i hi
        cases i with
        | zero =>
          cases hi
          rfl
        | succ i =>
          show (if a.1 = k then some 0 else (ixOf k (r.set i (n, st'))).map (· + 1)) = _
          rw [ih i hi]
          rfl
    exact this se i h
  by_cases e : k = n
  · subst e
    rw [if_pos rfl]
    have hi : ixOf k se = some i := by
      cases e : ixOf k se with
      | none => exact absurd rfl (ixo_none_mem e (k, st) (List.mem_of_getElem? h))
      | some j =>
        obtain ⟨z, hz, hzn⟩ := ixo_get e
        have h1 : (se.map (·.1))[i]? = some k := map_get h
        have h2 : (se.map (·.1))[j]? = some z.1 := map_get hz
        have q : i = j := (List.getElem?_inj (lt_of_get h1) nod).mp (by rw [h1, h2, hzn])
        rw [q]
    exact sOf_ix ((hm k).trans hi) (List.getElem?_set_self (lt_of_get h))
  · rw [if_neg e]
    unfold sOf
    rw [hm k]
    cases e2 : ixOf k se with
    | none => rfl
    | some j =>
      obtain ⟨z, hz, hzn⟩ := ixo_get e2
      have : i ≠ j := by
        rintro rfl
        rw [h] at hz
        cases hz
        exact e hzn.symm
      show ((se.set i (n, st'))[j]?).map (·.2) = (se[j]?).map (·.2)
      rw [List.getElem?_set_ne this]
theorem sOf_snoc {α : Type} {n : Nat} {se : List (Nat × α)} {st : α} (h : ixOf n se = none) (k : Nat) : sOf k (se ++ [(n, st)]) = if k = n then some st else sOf k se := by
  have : ∀ se : List (Nat × α), ixOf n se = none → sOf k (se ++ [(n, st)]) = if k = n then some st else sOf k se := by
    intro se
    induction se with
    | nil =>
      intro _
      by_cases e : k = n
      · subst e
        rw [if_pos rfl]
        exact sOf_ix (i := 0) (x := (k, st)) (if_pos rfl) rfl
      · rw [if_neg e]
        exact sOf_none (by
          show (if n = k then some 0 else none) = none
          exact if_neg fun z => e z.symm)
    | cons a r ih =>
      intro h
      obtain ⟨h1, h2⟩ := ixo_none h
      have ih := ih h2
      by_cases ea : a.1 = k
      · have e1 : ixOf k (a :: r ++ [(n, st)]) = some 0 := by show (if a.1 = k then some 0 else _) = _; rw [if_pos ea]
        have e2 : ixOf k (a :: r) = some 0 := by show (if a.1 = k then some 0 else _) = _; rw [if_pos ea]
        rw [sOf_ix e1 rfl, sOf_ix e2 rfl, if_neg (fun z => h1 (ea.trans z))]
      · have e1 : ixOf k (a :: r ++ [(n, st)]) = (ixOf k (r ++ [(n, st)])).map (· + 1) := by show (if a.1 = k then some 0 else _) = _; rw [if_neg ea]; rfl
        have e2 : ixOf k (a :: r) = (ixOf k r).map (· + 1) := by show (if a.1 = k then some 0 else _) = _; rw [if_neg ea]
        have f1 : sOf k (a :: r ++ [(n, st)]) = sOf k (r ++ [(n, st)]) := by
          unfold sOf
          rw [e1]
          cases ixOf k (r ++ [(n, st)]) <;> rfl
        have f2 : sOf k (a :: r) = sOf k r := by
          unfold sOf
          rw [e2]
          cases ixOf k r <;> rfl
        rw [f1, f2, ih]
  exact this se h
end Vf
namespace Vf
open PySem PySem.Spec PyProof.Rows L2 Evl GxR
/-! ### the hall hears -/
theorem mem_set_ne {α : Type} {l : List α} {j k : Nat} {y z : α} (h : l[k]? = some y) (n : k ≠ j) : y ∈ l.set j z := List.mem_of_getElem? ((List.getElem?_set_ne fun e => n e.symm).trans h)
theorem sOf_at {α : Type} {n i : Nat} {se : List (Nat × α)} {st : α} (nod : (se.map (·.1)).Nodup) (h : se[i]? = some (n, st)) : sOf n se = some st := by
  have := sOf_set (st' := st) nod h n
  rw [if_pos rfl, set_same h] at this
  exact this
section
variable {m B : Nat} {ses : List Ses} {ev : List Gev} {h : Hl}
theorem Net.press (N : Net m B ses ev h) {j i c : Nat} {x : Ses} (hj : ses[j]? = some x) (hi : h.seats[i]? = some (x.n, ⟨x.s, x.p, x.dn, false⟩)) (hc : x.ty[x.dn]? = some c) :
    Net m B (ses.set j { x with dn := x.dn + 1 }) (ev ++ [.press x.p x.n x.s c]) (h.press x.n i c) ∧ (h.press x.n i c).seats[i]? = some (x.n, ⟨x.s, x.p, x.dn + 1, false⟩) ∧ Le0 ses ev (ses.set j { x with dn := x.dn + 1 }) (ev ++ [.press x.p x.n x.s c]) := by
  have hx := List.mem_of_getElem? hj
  have hok := N.ok x hx
  have hp := N.pane hok.2.2.2.1
  have eh : h.press x.n i c = ⟨h.panes.set x.p ((runP x.p ev).press (.int (x.n : Nat)) (.int (x.s : Nat)) c), h.seats.set i (x.n, ⟨x.s, x.p, x.dn + 1, false⟩)⟩ := by
    unfold Hl.press
    rw [hi]
    show (match h.panes[x.p]? with | none => h | some s => (⟨h.panes.set x.p (s.press (.int (x.n : Nat)) (.int (x.s : Nat)) c), h.seats.set i (x.n, ⟨x.s, x.p, x.dn + 1, false⟩)⟩ : Hl)) = _
    rw [hp]
  have li := lt_of_get hi
  have ldn : x.dn < x.ty.length := lt_of_get hc
  have kc : isK c = true := hok.2.2.2.2 c (List.mem_of_getElem? hc)
  have nodk : ((ses.set j { x with dn := x.dn + 1 }).map Ses.key) = ses.map Ses.key := set_map_same hj rfl
  have so := sOf_set (st' := (⟨x.s, x.p, x.dn + 1, false⟩ : Sst)) N.snod hi
  have le : Le0 ses ev (ses.set j { x with dn := x.dn + 1 }) (ev ++ [.press x.p x.n x.s c]) := by
    refine ⟨⟨_, rfl, fun g hg => ⟨x.p, x.n, x.s, c, List.mem_singleton.mp hg⟩⟩, List.length_set, fun k y hk => ?_⟩
    by_cases e : j = k
    · subst e
      rw [hj] at hk
      cases hk
      exact ⟨x.dn + 1, List.getElem?_set_self (lt_of_get hj), Nat.le_succ _⟩
    · exact ⟨y.dn, (List.getElem?_set_ne e).trans hk, Nat.le_refl _⟩
  rw [eh]
  refine ⟨⟨N.m1, N.m3, ?_, fun n st hs => ?_, fun y hy => ?_, ?_, by rw [nodk]; exact N.nod, fun y hy hst => ?_, fun y hy => ?_, fun y hy => ?_, fun y hy => ?_, fun g hg => ?_, fun p n s c' hg => ?_, ?_⟩, List.getElem?_set_self li, le⟩
  · -- panes
    refine List.ext_getElem? fun p => ?_
    rw [List.getElem?_map]
    by_cases e : x.p = p
    · subst e
      have lp := lt_of_get hp
      rw [List.getElem?_set_self lp, List.getElem?_range hok.2.2.2.1]
      show some _ = some (runP x.p _)
      rw [runP_snoc]
      show _ = some (if x.p = x.p then _ else _)
      rw [if_pos rfl]
    · rw [List.getElem?_set_ne e, N.panes, List.getElem?_map]
      by_cases lp : p < m
      · rw [List.getElem?_range lp]
        show some (runP p ev) = some (runP p _)
        rw [runP_snoc]
        show _ = some (if x.p = p then _ else _)
        rw [if_neg e]
      · rw [List.getElem?_eq_none (by rw [List.length_range]; omega)]
        rfl
  · -- seat
    rw [so n] at hs
    by_cases e : n = x.n
    · rw [if_pos e] at hs
      cases hs
      exact ⟨_, set_mem_self hj, e.symm, rfl, rfl, rfl, fun z => by cases z⟩
    · rw [if_neg e] at hs
      obtain ⟨y, hy, e1, e2, e3, e4, e5⟩ := N.seat n st hs
      obtain ⟨k, hk⟩ := List.getElem?_of_mem hy
      have kj : k ≠ j := by
        rintro rfl
        rw [hj] at hk
        cases hk
        exact e e1.symm
      exact ⟨y, mem_set_ne hk kj, e1, e2, e3, e4, e5⟩
  · rcases List.mem_or_eq_of_mem_set hy with hy | rfl
    · exact N.s4 y hy
    · exact hok.1
  · have e := set_map_same (f := fun y : Nat × Sst => y.1) (y := (x.n, (⟨x.s, x.p, x.dn + 1, false⟩ : Sst))) hi rfl
    show ((h.seats.set i (x.n, (⟨x.s, x.p, x.dn + 1, false⟩ : Sst))).map (·.1)).Nodup
    rw [e]
    exact N.snod
  · -- new
    rcases set_mem hy with rfl | ⟨k, kj, hk⟩
    · have := hst _ ((so x.n).trans (if_pos rfl))
      exact absurd this (Nat.lt_irrefl _)
    · refine N.new y (List.mem_of_getElem? hk) fun st hs => ?_
      by_cases e : y.n = x.n
      · have h1 := hst _ ((so y.n).trans (if_pos e))
        rw [e, sOf_at N.snod hi] at hs
        cases hs
        exact h1
      · exact hst st (((so y.n).trans (if_neg e)).trans hs)
  · rcases set_mem hy with rfl | ⟨k, kj, hk⟩
    · exact hok
    · exact N.ok y (List.mem_of_getElem? hk)
  · rcases set_mem hy with rfl | ⟨k, kj, hk⟩
    · exact ldn
    · exact N.dn y (List.mem_of_getElem? hk)
  · -- done
    rcases set_mem hy with rfl | ⟨k, kj, hk⟩
    · show signsOf x.n x.s (ev ++ [.press x.p x.n x.s c]) = x.ty.take (x.dn + 1)
      have e1 : signsOf x.n x.s (ev ++ [.press x.p x.n x.s c]) = signsOf x.n x.s ev ++ [c] := by
        unfold signsOf
        rw [List.filterMap_append]
        congr 1
        have e : signG x.n x.s (Gev.press x.p x.n x.s c) = some c := if_pos ⟨rfl, rfl⟩
        rw [List.filterMap_cons, e]
        rfl
      rw [e1, N.done x hx, List.take_add_one, hc]
      rfl
    · have hy2 := List.mem_of_getElem? hk
      rw [← N.done y hy2]
      unfold signsOf
      rw [List.filterMap_append]
      have : List.filterMap (signG y.n y.s) [Gev.press x.p x.n x.s c] = [] := by
        have e : signG y.n y.s (Gev.press x.p x.n x.s c) = none := if_neg fun z => kj (key_inj N.nod hk hj z.1.symm z.2.symm)
        rw [List.filterMap_cons, e]
        rfl
      rw [this, List.append_nil]
  · rcases List.mem_append.mp hg with hg | hg
    · exact N.evok g hg
    · rw [List.mem_singleton.mp hg]; exact kc
  · rcases List.mem_append.mp hg with hg | hg
    · obtain ⟨y, hy, e1, e2, e3⟩ := N.evp p n s c' hg
      obtain ⟨d, hd, _⟩ := le.mem hy
      exact ⟨_, hd, e1, e2, e3⟩
    · cases List.mem_singleton.mp hg
      exact ⟨_, set_mem_self hj, rfl, rfl, rfl⟩
  · have h1 := sum_set (f := fun y : Ses => y.ty.length - y.dn) (y := { x with dn := x.dn + 1 }) hj (by show (x.ty.length - (x.dn + 1)) + 1 = x.ty.length - x.dn; omega)
    have h2 := N.bud
    unfold undone at h2 ⊢
    rw [List.length_append]
    show ev.length + 1 + _ ≤ B
    omega
theorem Net.run {i j : Nat} : ∀ {l : List Nat} {ses : List Ses} {ev : List Gev} {h : Hl} {x : Ses}, Net m B ses ev h → ses[j]? = some x → h.seats[i]? = some (x.n, ⟨x.s, x.p, x.dn, false⟩) → l <+: x.ty.drop x.dn →
    ∃ ses' ev', Net m B ses' ev' (l.foldl (fun h c => h.press x.n i c) h) ∧ Le0 ses ev ses' ev' ∧ ses'[j]? = some { x with dn := x.dn + l.length } ∧ (l.foldl (fun h c => h.press x.n i c) h).seats[i]? = some (x.n, ⟨x.s, x.p, x.dn + l.length, false⟩)
  | [], ses, ev, h, x, N, hj, hi, _ => ⟨ses, ev, N, Le0.refl _ _, hj, hi⟩
  | c :: l, ses, ev, h, x, N, hj, hi, hl => by
    obtain ⟨t, ht⟩ := hl
    have hc : x.ty[x.dn]? = some c := by
      have : (x.ty.drop x.dn)[0]? = some c := by rw [← ht]; rfl
      rw [List.getElem?_drop] at this
      exact this
    obtain ⟨N1, h1, le1⟩ := N.press hj hi hc
    have hj1 : (ses.set j { x with dn := x.dn + 1 })[j]? = some { x with dn := x.dn + 1 } := List.getElem?_set_self (lt_of_get hj)
    have hd : l <+: x.ty.drop (x.dn + 1) := by
      refine ⟨t, ?_⟩
      have h3 : (x.ty.drop x.dn).drop 1 = x.ty.drop (x.dn + 1) := by rw [List.drop_drop]
      rw [← h3, ← ht]
      rfl
    obtain ⟨ses', ev', N2, le2, hj2, hi2⟩ := Net.run (l := l) (x := { x with dn := x.dn + 1 }) N1 hj1 h1 hd
    refine ⟨ses', ev', N2, le1.trans le2, ?_, ?_⟩
    · rw [hj2, List.length_cons]
      show some ({ x with dn := x.dn + 1 + l.length } : Ses) = _
      rw [show x.dn + 1 + l.length = x.dn + (l.length + 1) by omega]
    · rw [List.length_cons, show x.dn + (l.length + 1) = x.dn + 1 + l.length by omega]
      exact hi2
/-- a name's session is seated, if it may be -/
theorem Net.sit (N : Net m B ses ev h) {x : Ses} (hx : x ∈ ses) : ∃ h' o, h.seat x.n x.s x.p = (h', o) ∧ Net m B ses ev h' ∧ (∀ i, o = some i → h'.seats[i]? = some (x.n, ⟨x.s, x.p, x.dn, false⟩)) ∧
    (o = none → h' = h ∧ ((∃ st, sOf x.n h.seats = some st ∧ x.s < st.session) ∨ x.lf = true)) := by
  have hok := N.ok x hx
  have hp : ¬ h.panes.length ≤ x.p := by rw [N.hlen]; omega
  -- a seat of this session in a list of seats
  have mk : ∀ se : List (Nat × Sst), (∀ k, sOf k se = if k = x.n then some ⟨x.s, x.p, 0, false⟩ else sOf k h.seats) → (∀ y ∈ se, y.1 < 4) → (se.map (·.1)).Nodup → x.dn = 0 → (∀ st, sOf x.n h.seats = some st → st.session < x.s) → Net m B ses ev { h with seats := se } := fun se hs h4 nod h0 hlt => by
    refine ⟨N.m1, N.m3, N.panes, fun n st hn => ?_, h4, nod, N.nod, fun y hy hst => ?_, N.ok, N.dn, N.done, N.evok, N.evp, N.bud⟩
    · rw [show sOf n ({ h with seats := se } : Hl).seats = _ from hs n] at hn
      by_cases e : n = x.n
      · rw [if_pos e] at hn
        cases hn
        exact ⟨x, hx, e.symm, rfl, rfl, h0, fun z => by cases z⟩
      · rw [if_neg e] at hn
        exact N.seat n st hn
    · refine N.new y hy fun st hst2 => ?_
      by_cases e : y.n = x.n
      · have h1 := hst _ ((hs y.n).trans (if_pos e))
        have h2 := hlt st (by rw [← e]; exact hst2)
        exact Nat.lt_trans h2 h1
      · exact hst st (((hs y.n).trans (if_neg e)).trans hst2)
  unfold Hl.seat
  rw [if_neg hp]
  cases hix : ixOf x.n h.seats with
  | none =>
    have hnone : ∀ st, sOf x.n h.seats = some st → st.session < x.s := fun st hs => by rw [sOf_none hix] at hs; cases hs
    refine ⟨_, _, rfl, mk _ (fun k => sOf_snoc hix k) (fun y hy => ?_) ?_ (N.new x hx hnone) hnone, fun i hi => ?_, fun z => by cases z⟩
    · rcases List.mem_append.mp hy with hy | hy
      · exact N.s4 y hy
      · rw [List.mem_singleton.mp hy]; exact hok.1
    · rw [List.map_append, List.nodup_append]
      refine ⟨N.snod, by simp, fun a ha b hb => ?_⟩
      rw [List.mem_singleton.mp hb]
      obtain ⟨y, hy, rfl⟩ := List.mem_map.mp ha
      exact ixo_none_mem hix y hy
    · cases hi
      show (h.seats ++ [(x.n, (⟨x.s, x.p, 0, false⟩ : Sst))])[h.seats.length]? = _
      rw [List.getElem?_append_right (Nat.le_refl _), Nat.sub_self, N.new x hx hnone]
      rfl
  | some i =>
    obtain ⟨y, hy, hyn⟩ := ixo_get hix
    have hs : sOf x.n h.seats = some y.2 := sOf_ix hix hy
    have hy' : h.seats[i]? = some (x.n, y.2) := by rw [hy, ← hyn]
    show ∃ h' o, (match h.seats[i]? with | none => (h, none) | some z => if z.2.session < x.s then ({ h with seats := h.seats.set i (x.n, ⟨x.s, x.p, 0, false⟩) }, some i) else if x.s < z.2.session ∨ z.2.left = true ∨ ¬ x.p = z.2.pane then (h, none) else (h, some i)) = (h', o) ∧ _
    rw [hy]
    show ∃ h' o, (if y.2.session < x.s then ({ h with seats := h.seats.set i (x.n, ⟨x.s, x.p, 0, false⟩) }, some i) else if x.s < y.2.session ∨ y.2.left = true ∨ ¬ x.p = y.2.pane then (h, none) else (h, some i)) = (h', o) ∧ _
    by_cases e1 : y.2.session < x.s
    · have hlt : ∀ st, sOf x.n h.seats = some st → st.session < x.s := fun st h2 => by rw [hs] at h2; cases h2; exact e1
      rw [if_pos e1]
      refine ⟨_, _, rfl, mk _ (fun k => sOf_set N.snod hy' k) (fun z hz => ?_) ?_ (N.new x hx hlt) hlt, fun k hk => ?_, fun z => by cases z⟩
      · rcases List.mem_or_eq_of_mem_set hz with hz | rfl
        · exact N.s4 z hz
        · exact hok.1
      · have e := set_map_same (f := fun y : Nat × Sst => y.1) (y := (x.n, (⟨x.s, x.p, 0, false⟩ : Sst))) hy' rfl
        rw [e]
        exact N.snod
      · cases hk
        show (h.seats.set i (x.n, (⟨x.s, x.p, 0, false⟩ : Sst)))[i]? = _
        rw [List.getElem?_set_self (lt_of_get hy), N.new x hx hlt]
    · rw [if_neg e1]
      obtain ⟨x2, hx2, f1, f2, f3, f4, f5⟩ := N.seat _ _ hs
      by_cases e2 : x.s < y.2.session ∨ y.2.left = true ∨ ¬ x.p = y.2.pane
      · rw [if_pos e2]
        refine ⟨_, _, rfl, N, (fun k hk => by cases hk), fun _ => ⟨rfl, ?_⟩⟩
        by_cases e3 : x.s < y.2.session
        · exact .inl ⟨_, hs, e3⟩
        · have ex : x2 = x := key_eq N.nod hx2 hx f1 (by omega)
          subst ex
          rcases e2 with e2 | e2 | e2
          · exact absurd e2 e3
          · exact .inr (f5 e2)
          · exact absurd f3 e2
      · rw [if_neg e2]
        have e3 : ¬ x.s < y.2.session := fun z => e2 (.inl z)
        have ex : x2 = x := key_eq N.nod hx2 hx f1 (by omega)
        subst ex
        refine ⟨_, _, rfl, N, fun k hk => ?_, fun z => by cases z⟩
        cases hk
        rw [hy']
        have e4 : y.2.left = false := Bool.eq_false_iff.mpr fun z => e2 (.inr (.inl z))
        have ey : y.2 = ⟨y.2.session, y.2.pane, y.2.done, y.2.left⟩ := rfl
        rw [ey, ← f2, ← f3, ← f4, e4]
end
/-! what letters may say -/
def LetH (ses : List Ses) (z : Str) : Prop := z.length ≤ 900000 ∧ ∀ m, readLook z.cps.toList = some m → ∃ x ∈ ses, ∃ k f sg, m = (k, [x.n, x.s, x.p, f], sg) ∧ (k = "left" → x.lf = true) ∧ sg.length ≤ 1000 ∧ sg.cps.toList <+: x.ty.drop f
def LetL (ses : List Ses) (ev : List Gev) (n : Nat) (z : Str) : Prop := z.length ≤ 900000 ∧ ∀ m, readHall z.cps.toList = some m → ∃ x ∈ ses, x.n = n ∧ ∃ d c line rows, m = ([x.n, x.s, x.p, d, c], line, rows) ∧ d ≤ x.dn ∧ Past ev x.p c rows line
def LetI (ses : List Ses) (ev : List Gev) (l : Option Nat × Str) : Prop := match l.1 with
  | none => LetH ses l.2
  | some n => LetL ses ev n l.2
section
variable {m B : Nat} {ses : List Ses} {ev : List Gev} {h : Hl}
theorem LetI.mono0 {ses' : List Ses} {ev' : List Gev} {l : Option Nat × Str} (k : LetI ses ev l) (le : Le0 ses ev ses' ev') : LetI ses' ev' l := by
  obtain ⟨to, z⟩ := l
  cases to with
  | none =>
    refine ⟨k.1, fun m hm => ?_⟩
    obtain ⟨x, hx, kk, f, sg, e, e1, e2, e3⟩ := k.2 m hm
    obtain ⟨d, hd, _⟩ := le.mem hx
    exact ⟨_, hd, kk, f, sg, e, e1, e2, e3⟩
  | some n =>
    refine ⟨k.1, fun m hm => ?_⟩
    obtain ⟨x, hx, hn, d, c, line, rows, e, e1, e2⟩ := k.2 m hm
    obtain ⟨d', hd, l1⟩ := le.mem hx
    obtain ⟨L, hL, _⟩ := le.ev
    exact ⟨_, hd, hn, d, c, line, rows, e, Nat.le_trans e1 l1, by rw [hL]; exact e2.mono L⟩
theorem LetH.letOk (N : Net m B ses ev h) {z : Str} (L : LetH ses z) : LetOk (readLook z.cps.toList) := fun k ns sg e => by
  obtain ⟨x, hx, kk, f, sg', e1, e2, e3, e4⟩ := L.2 _ e
  cases e1
  have hok := N.ok x hx
  refine ⟨fun n r er => ?_, e3, fun c hc => ?_⟩
  · cases er
    exact hok.1
  · exact hok.2.2.2.2 c (List.mem_of_mem_drop (e4.subset hc))
def sat (h' : Hl) (k : Str) (n f : Nat) (l : List Nat) : Option Nat → Hl
  | none => h'
  | some i => if k = "left" then h'.setLeft i else h'.doSigns n i f l
theorem pre_drop {α : Type} {a b : List α} (h : a <+: b) (k : Nat) : a.drop k <+: b.drop k := by
  obtain ⟨t, rfl⟩ := h
  rw [List.drop_append]
  exact ⟨_, rfl⟩
theorem Net.hear (N : Net m B ses ev h) {z : Str} (L : LetH ses z) : ∃ ses' ev', Net m B ses' ev' (h.hear (readLook z.cps.toList)) ∧ Le0 ses ev ses' ev' ∧
    (∀ x ∈ ses, ∀ k f sg, readLook z.cps.toList = some (k, [x.n, x.s, x.p, f], sg) → (∀ st, sOf x.n h.seats = some st → st.session ≤ x.s) → x.lf = false → f ≤ x.dn → sg.cps.toList = x.ty.drop f →
      { x with dn := x.ty.length } ∈ ses' ∧ sOf x.n (h.hear (readLook z.cps.toList)).seats = some ⟨x.s, x.p, x.ty.length, false⟩) ∧
    ((∀ k n s p f sg, readLook z.cps.toList = some (k, [n, s, p, f], sg) → k = "left" ∨ ∀ x ∈ ses, x.n = n → x.s = s → x.dn = x.ty.length) → ses' = ses ∧ ev' = ev) := by
  cases hr : readLook z.cps.toList with
  | none => exact ⟨ses, ev, N, Le0.refl _ _, (fun x _ k f sg e => by cases e), fun _ => ⟨rfl, rfl⟩⟩
  | some m0 =>
    obtain ⟨x, hx, k, f, sg, rfl, e1, e2, e3⟩ := L.2 _ hr
    obtain ⟨h', o, hs, N', ho, hn⟩ := N.sit hx
    obtain ⟨j, hj⟩ := List.getElem?_of_mem hx
    have uniq : ∀ y ∈ ses, ∀ k' f' sg', some (k, [x.n, x.s, x.p, f], sg) = some (k', [y.n, y.s, y.p, f'], sg') → y = x ∧ k' = k ∧ f' = f ∧ sg' = sg := fun y hy k' f' sg' e => by
      injection e with e
      injection e with a1 a2
      injection a2 with a2 a3
      injection a2 with b1 b2
      injection b2 with b2 b3
      injection b3 with b3 b4
      injection b4 with b4 b5
      exact ⟨key_eq N.nod hy hx b1.symm b2.symm, a1.symm, b4.symm, a3.symm⟩
    have eh : h.hear (some (k, [x.n, x.s, x.p, f], sg)) = sat h' k x.n f sg.cps.toList o := by
      show (match h.seat x.n x.s x.p with | (h', none) => h' | (h', some i) => if k = "left" then h'.setLeft i else h'.doSigns x.n i f sg.cps.toList) = _
      rw [hs]
      cases o <;> rfl
    rw [eh]
    cases o with
    | none =>
      obtain ⟨rfl, hc⟩ := hn rfl
      refine ⟨ses, ev, N, Le0.refl _ _, fun y hy k' f' sg' e hst hlf _ _ => ?_, fun _ => ⟨rfl, rfl⟩⟩
      obtain ⟨rfl, _, _, _⟩ := uniq y hy k' f' sg' e
      rcases hc with ⟨st, hst2, lt⟩ | hc
      · have := hst st hst2; omega
      · rw [hlf] at hc; cases hc
    | some i =>
      have hi := ho i rfl
      have es : sat h' k x.n f sg.cps.toList (some i) = if k = "left" then h'.setLeft i else h'.doSigns x.n i f sg.cps.toList := rfl
      rw [es]
      clear es
      by_cases hk : k = "left"
      · rw [if_pos hk]
        have hlf := e1 hk
        have es : h'.setLeft i = { h' with seats := h'.seats.set i (x.n, ⟨x.s, x.p, x.dn, true⟩) } := by unfold Hl.setLeft; rw [hi]
        rw [es]
        have so := sOf_set (st' := (⟨x.s, x.p, x.dn, true⟩ : Sst)) N'.snod hi
        refine ⟨ses, ev, ⟨N.m1, N.m3, N'.panes, fun n st hs => ?_, fun y hy => ?_, ?_, N.nod, fun y hy hst => ?_, N.ok, N.dn, N.done, N.evok, N.evp, N.bud⟩, Le0.refl _ _, fun y hy k' f' sg' e hst hl _ _ => ?_, fun _ => ⟨rfl, rfl⟩⟩
        · rw [show sOf n ({ h' with seats := h'.seats.set i (x.n, ⟨x.s, x.p, x.dn, true⟩) } : Hl).seats = _ from so n] at hs
          by_cases e : n = x.n
          · rw [if_pos e] at hs
            cases hs
            exact ⟨x, hx, e.symm, rfl, rfl, rfl, fun _ => hlf⟩
          · rw [if_neg e] at hs
            exact N'.seat n st hs
        · rcases List.mem_or_eq_of_mem_set hy with hy | rfl
          · exact N'.s4 y hy
          · exact (N.ok x hx).1
        · have e := set_map_same (f := fun y : Nat × Sst => y.1) (y := (x.n, (⟨x.s, x.p, x.dn, true⟩ : Sst))) hi rfl
          show ((h'.seats.set i (x.n, (⟨x.s, x.p, x.dn, true⟩ : Sst))).map (·.1)).Nodup
          rw [e]
          exact N'.snod
        · refine N'.new y hy fun st hs2 => ?_
          by_cases e : y.n = x.n
          · have h1 := hst _ ((so y.n).trans (if_pos e))
            rw [e, sOf_at N'.snod hi] at hs2
            cases hs2
            exact h1
          · exact hst st (((so y.n).trans (if_neg e)).trans hs2)
        · obtain ⟨rfl, _, _, _⟩ := uniq y hy k' f' sg' e
          rw [hl] at hlf; cases hlf
      · rw [if_neg hk]
        have ed : h'.doSigns x.n i f sg.cps.toList = if x.dn < f then h' else (sg.cps.toList.drop (x.dn - f)).foldl (fun h c => h.press x.n i c) h' := by unfold Hl.doSigns; rw [hi]
        rw [ed]
        by_cases hf : x.dn < f
        · rw [if_pos hf]
          refine ⟨ses, ev, N', Le0.refl _ _, fun y hy k' f' sg' e _ _ hle _ => ?_, fun _ => ⟨rfl, rfl⟩⟩
          obtain ⟨rfl, _, rfl, _⟩ := uniq y hy k' f' sg' e
          omega
        · rw [if_neg hf]
          have hpre : sg.cps.toList.drop (x.dn - f) <+: x.ty.drop x.dn := by
            have := pre_drop e3 (x.dn - f)
            rw [List.drop_drop, show f + (x.dn - f) = x.dn by omega] at this
            exact this
          by_cases hall : x.dn = x.ty.length
          · have e0 : sg.cps.toList.drop (x.dn - f) = [] := by
              have := hpre
              rw [hall, List.drop_length] at this
              rw [hall]
              exact List.prefix_nil.mp this
            rw [e0]
            refine ⟨ses, ev, N', Le0.refl _ _, fun y hy k' f' sg' e hst hl hle hsg => ?_, fun _ => ⟨rfl, rfl⟩⟩
            obtain ⟨rfl, _, rfl, rfl⟩ := uniq y hy k' f' sg' e
            refine ⟨by rw [← hall]; exact hy, ?_⟩
            rw [← hall]
            exact sOf_at N'.snod hi
          obtain ⟨ses', ev', N2, le2, hj2, hi2⟩ := N'.run hj hi hpre
          refine ⟨ses', ev', N2, le2, fun y hy k' f' sg' e hst hl hle hsg => ?_, fun k2 => (k2 k _ _ _ _ _ rfl).elim (fun k3 => absurd k3 hk) fun k3 => absurd (k3 x hx rfl rfl) hall⟩
          obtain ⟨rfl, _, rfl, rfl⟩ := uniq y hy k' f' sg' e
          have el : y.dn + (sg'.cps.toList.drop (y.dn - f')).length = y.ty.length := by
            have := N.dn y hy
            rw [hsg, List.length_drop, List.length_drop]
            omega
          rw [el] at hj2 hi2
          exact ⟨List.mem_of_getElem? hj2, sOf_at N2.snod hi2⟩
end
end Vf
namespace Vf
open PySem PySem.Spec PyProof.Rows L2 Evl GxR
/-! ### looks know of what there was -/
theorem cut_from {z : Str} {k : Nat} : (cutS z (some (k : Int)) none).cps.toList = z.cps.toList.drop k := by
  unfold cutS
  rw [HT.sIx_nat, HT.sIx_none]
  have hz : z.length = z.cps.toList.length := by show z.cps.size = _; simp
  show ((z.cps.toList.drop _).take _).toArray.toList = _
  by_cases hh : k ≤ z.length
  · rw [Nat.min_eq_left hh, List.take_of_length_le (by rw [List.length_drop]; omega)]
  · rw [Nat.min_eq_right (by omega), Nat.sub_self, List.take_zero, List.drop_eq_nil_of_le (by omega)]
theorem cut_mid {z : Str} {a b : Nat} : (cutS z (some (a : Int)) (some (b : Int))).cps.toList = (z.cps.toList.drop a).take (b - a) := by
  unfold cutS
  rw [HT.sIx_nat, HT.sIx_nat]
  have hz : z.length = z.cps.toList.length := by show z.cps.size = _; simp
  show ((z.cps.toList.drop (min a z.length)).take (min b z.length - min a z.length)).toArray.toList = _
  show (z.cps.toList.drop (min a z.length)).take (min b z.length - min a z.length) = _
  by_cases hh : a ≤ z.length
  · rw [Nat.min_eq_left hh]
    by_cases hb : b ≤ z.length
    · rw [Nat.min_eq_left hb]
    · rw [Nat.min_eq_right (by omega), List.take_of_length_le (by rw [List.length_drop]; omega), List.take_of_length_le (by rw [List.length_drop]; omega)]
  · rw [show min a z.length = z.length by omega, List.drop_eq_nil_of_le (by omega), List.drop_eq_nil_of_le (by omega), List.take_nil, List.take_nil]
theorem slen {z : Str} : z.length = z.cps.toList.length := by show z.cps.size = _; simp
structure Lki (ses : List Ses) (ev : List Gev) (k : Lk) : Prop where
  ok : LOk k
  at_ : ∃ x ∈ ses, x.n = k.name ∧ x.s = k.session ∧ x.p = k.pane ∧ k.done ≤ x.dn ∧ k.signs.cps.toList = x.ty.drop k.done ∧ x.lf = k.left
  known : ∀ c, k.known = some c → Past ev k.pane c k.rows k.line
  over : k.over = true → ∃ y ∈ ses, y.n = k.name ∧ k.session < y.s
section
variable {m B : Nat} {ses : List Ses} {ev : List Gev} {h : Hl} {k : Lk}
theorem Lki.mono0 {ses' : List Ses} {ev' : List Gev} (I : Lki ses ev k) (le : Le0 ses ev ses' ev') : Lki ses' ev' k := by
  refine ⟨I.ok, ?_, fun c hc => ?_, fun ho => ?_⟩
  · obtain ⟨x, hx, e1, e2, e3, e4, e5, e6⟩ := I.at_
    obtain ⟨d, hd, l⟩ := le.mem hx
    exact ⟨_, hd, e1, e2, e3, Nat.le_trans e4 l, e5, e6⟩
  · obtain ⟨L, hL, _⟩ := le.ev
    rw [hL]
    exact (I.known c hc).mono L
  · obtain ⟨y, hy, e1, e2⟩ := I.over ho
    obtain ⟨d, hd, _⟩ := le.mem hy
    exact ⟨_, hd, e1, e2⟩
theorem Past.ok {p c : Nat} {rows : List Str} {line : Str} (evok : ∀ g ∈ ev, g.ok) (P : Past ev p c rows line) : rows.length ≤ 40 ∧ (∀ r ∈ rows, FldOk r) ∧ FldOk line := by
  obtain ⟨j, _, _, rfl, rfl⟩ := P
  obtain ⟨O, F⟩ := runP_ok (p := p) (ev := ev.take j) fun g hg => evok g (List.mem_of_mem_take hg)
  refine ⟨O.rows, fun r hr => ?_, ?_⟩
  · exact cl_fld (F.rows r hr) (Nat.le_trans (O.rasc r hr).2 (by decide))
  · exact cl_fld F.line (Nat.le_trans O.line (by decide))
theorem Lk.hearDone_eq {k : Lk} {d : Nat} : k.hearDone d = if k.done < d then { k with signs := cutS k.signs (some ((d - k.done : Nat) : Int)) none, done := d } else k := rfl
theorem Lki.done (N : Net m B ses ev h) (I : Lki ses ev k) {x : Ses} (hx : x ∈ ses) (e1 : x.n = k.name) (e2 : x.s = k.session) {d : Nat} (hd : d ≤ x.dn) : Lki ses ev (k.hearDone d) ∧ d ≤ (k.hearDone d).done := by
  rw [Lk.hearDone_eq]
  by_cases hlt : k.done < d
  · rw [if_pos hlt]
    obtain ⟨y, hy, f1, f2, f3, f4, f5, f6⟩ := I.at_
    have exy : y = x := key_eq N.nod hy hx (f1.trans e1.symm) (f2.trans e2.symm)
    subst exy
    have hcut : (cutS k.signs (some ((d - k.done : Nat) : Int)) none).cps.toList = y.ty.drop d := by
      rw [cut_from, f5, List.drop_drop, show k.done + (d - k.done) = d by omega]
    have hl : (cutS k.signs (some ((d - k.done : Nat) : Int)) none).length = y.ty.length - d := by rw [slen, hcut, List.length_drop]
    have hl2 : k.signs.length = y.ty.length - k.done := by rw [slen, f5, List.length_drop]
    have hdn := N.dn y hy
    have O := I.ok
    refine ⟨⟨⟨O.look, O.size, fun c hc => ?_, ?_, O.rows, O.rok, O.line⟩, ⟨y, hy, f1, f2, f3, hd, hcut, f6⟩, I.known, I.over⟩, Nat.le_refl _⟩
    · refine O.signs c ?_
      have hc2 : c ∈ (cutS k.signs (some ((d - k.done : Nat) : Int)) none).cps.toList := hc
      rw [cut_from] at hc2
      exact List.mem_of_mem_drop hc2
    · show d + (cutS k.signs (some ((d - k.done : Nat) : Int)) none).length < 1000000
      have := O.len
      omega
  · rw [if_neg hlt]
    exact ⟨I, by omega⟩
theorem Lki.pane (N : Net m B ses ev h) (I : Lki ses ev k) {c : Nat} {line : Str} {rows : List Str} (P : Past ev k.pane c rows line) : Lki ses ev (k.hearPane c line rows) := by
  obtain ⟨h1, h2, h3⟩ := P.ok N.evok
  have hp := I.ok.hearPane (ch := c) h1 h2 h3
  have new : LOk { k with known := some c, line := line, rows := rows } → Lki ses ev { k with known := some c, line := line, rows := rows } := fun O => ⟨O, I.at_, fun c' hc => by cases hc; exact P, I.over⟩
  unfold Lk.hearPane at hp ⊢
  cases hk : k.known with
  | none =>
    rw [hk] at hp
    exact new hp
  | some c0 =>
    rw [hk] at hp
    show Lki ses ev (if c0 < c then _ else k)
    by_cases hlt : c0 < c
    · have hp2 : LOk (if c0 < c then { k with known := some c, line := line, rows := rows } else k) := hp
      rw [if_pos hlt] at hp2 ⊢
      exact new hp2
    · rw [if_neg hlt]
      exact I
/-- what stays of a look that hears -/
structure Stat (k k' : Lk) : Prop where
  name : k'.name = k.name
  session : k'.session = k.session
  pane : k'.pane = k.pane
  wide : k'.wide = k.wide
  high : k'.high = k.high
  left : k'.left = k.left
theorem Stat.refl : Stat k k := ⟨rfl, rfl, rfl, rfl, rfl, rfl⟩
theorem Stat.trans {a b c : Lk} (h : Stat a b) (g : Stat b c) : Stat a c := ⟨g.name.trans h.name, g.session.trans h.session, g.pane.trans h.pane, g.wide.trans h.wide, g.high.trans h.high, g.left.trans h.left⟩
theorem hearDone_stat {d : Nat} : Stat k (k.hearDone d) ∧ (k.hearDone d).known = k.known ∧ (k.hearDone d).over = k.over := by
  rw [Lk.hearDone_eq]
  by_cases hlt : k.done < d
  · rw [if_pos hlt]; exact ⟨⟨rfl, rfl, rfl, rfl, rfl, rfl⟩, rfl, rfl⟩
  · rw [if_neg hlt]; exact ⟨Stat.refl, rfl, rfl⟩
theorem hearPane_stat {c : Nat} {line : Str} {rows : List Str} : Stat k (k.hearPane c line rows) ∧ (k.hearPane c line rows).signs = k.signs ∧ (k.hearPane c line rows).over = k.over := by
  unfold Lk.hearPane
  cases hk : k.known with
  | none => exact ⟨⟨rfl, rfl, rfl, rfl, rfl, rfl⟩, rfl, rfl⟩
  | some c0 =>
    show Stat k (if c0 < c then _ else k) ∧ (if c0 < c then _ else k : Lk).signs = _ ∧ (if c0 < c then _ else k : Lk).over = _
    by_cases hlt : c0 < c
    · rw [if_pos hlt]; exact ⟨⟨rfl, rfl, rfl, rfl, rfl, rfl⟩, rfl, rfl⟩
    · rw [if_neg hlt]; exact ⟨Stat.refl, rfl, rfl⟩
theorem hearPane_known {c : Nat} {line : Str} {rows : List Str} (h : ∀ c0, k.known = some c0 → c0 ≤ c) : (k.hearPane c line rows).known = some c := by
  unfold Lk.hearPane
  cases hk : k.known with
  | none => rfl
  | some c0 =>
    show (if c0 < c then { k with known := some c, line := line, rows := rows } else k : Lk).known = _
    by_cases hlt : c0 < c
    · rw [if_pos hlt]
    · rw [if_neg hlt, hk]
      have := h c0 hk
      rw [show c0 = c by omega]
theorem hear_five {n s p d c : Nat} {line : Str} {rows : List Str} : k.hear (some ([n, s, p, d, c], line, rows)) = if k.over = true ∨ ¬ n = k.name then k else if k.session < s then { k with over := true } else if s = k.session ∧ p = k.pane then (k.hearDone d).hearPane c line rows else k := rfl
theorem Lki.hear (N : Net m B ses ev h) (I : Lki ses ev k) {z : Str} (L : LetL ses ev k.name z) : Lki ses ev (k.hear (readHall z.cps.toList)) ∧ Stat k (k.hear (readHall z.cps.toList)) := by
  cases hr : readHall z.cps.toList with
  | none => exact ⟨I, Stat.refl⟩
  | some m0 =>
    obtain ⟨x, hx, hn, d, c, line, rows, rfl, e1, e2⟩ := L.2 _ hr
    rw [hear_five]
    by_cases h1 : k.over = true ∨ ¬ x.n = k.name
    · rw [if_pos h1]; exact ⟨I, Stat.refl⟩
    · rw [if_neg h1]
      by_cases h2 : k.session < x.s
      · rw [if_pos h2]
        exact ⟨⟨⟨I.ok.look, I.ok.size, I.ok.signs, I.ok.len, I.ok.rows, I.ok.rok, I.ok.line⟩, I.at_, I.known, fun _ => ⟨x, hx, hn, h2⟩⟩, ⟨rfl, rfl, rfl, rfl, rfl, rfl⟩⟩
      · rw [if_neg h2]
        by_cases h3 : x.s = k.session ∧ x.p = k.pane
        · rw [if_pos h3]
          obtain ⟨I1, _⟩ := I.done N hx hn h3.1 e1
          have st := (hearDone_stat (k := k) (d := d)).1
          refine ⟨I1.pane N (by rw [st.pane, ← h3.2]; exact e2), st.trans hearPane_stat.1⟩
        · rw [if_neg h3]; exact ⟨I, Stat.refl⟩
/-- the latest letter of its own session: all is known, nothing waits -/
theorem Lki.full (N : Net m B ses ev h) (I : Lki ses ev k) {z : Str} {x : Ses} (hx : x ∈ ses) (e1 : x.n = k.name) (e2 : x.s = k.session) (e3 : x.dn = x.ty.length) (ho : k.over = false)
    (hr : readHall z.cps.toList = some ([x.n, x.s, x.p, x.dn, (runP x.p ev).log.length], (runP x.p ev).line, (runP x.p ev).rows)) : (k.hear (readHall z.cps.toList)).through (runP k.pane ev).log.length = true := by
  obtain ⟨y, hy, f1, f2, f3, f4, f5, f6⟩ := I.at_
  have exy : y = x := key_eq N.nod hy hx (f1.trans e1.symm) (f2.trans e2.symm)
  subst exy
  rw [hr, hear_five, if_neg (by rw [ho]; simp [f1]), if_neg (by omega), if_pos ⟨f2, f3⟩]
  obtain ⟨I1, hd⟩ := I.done N hx e1 e2 (Nat.le_refl y.dn)
  have st := hearDone_stat (k := k) (d := y.dn)
  unfold Lk.through
  rw [hearPane_stat.2.1]
  have hk : ((k.hearDone y.dn).hearPane (runP y.p ev).log.length (runP y.p ev).line (runP y.p ev).rows).known = some (runP y.p ev).log.length := hearPane_known fun c0 h0 => by
    rw [st.2.1] at h0
    have := (I.known c0 h0).le
    rw [f3]; exact this
  rw [hk, f3]
  have hs : (k.hearDone y.dn).signs.length = 0 := by
    obtain ⟨y2, hy2, g1, g2, g3, g4, g5, g6⟩ := I1.at_
    have ey : y2 = y := key_eq N.nod hy2 hx (g1.trans (st.1.name.trans f1.symm)) (g2.trans (st.1.session.trans f2.symm))
    subst ey
    rw [slen, g5, List.length_drop]
    omega
  rw [hs]
  simp
end
/-! letters that are told -/
theorem lett_len {l : List Nat} (h : l.length ≤ 800000) : (txt (lett l)).length ≤ 900000 := by
  rw [txt_len]
  unfold lett
  simp only [List.length_append, List.length_cons, List.length_nil]
  have h1 := num_len (n := l.length) (by omega)
  have h2 := num_len (n := sumN l) (Nat.lt_trans (sumN_lt l) (by decide))
  omega
theorem fields_letL {fs : List Str} (h : Fields fs) : (txt (lett (bodyOf fs))).length ≤ 900000 := lett_len (Nat.le_trans (fields_body h) (by decide))
section
variable {m B : Nat} {ses : List Ses} {ev : List Gev} {h : Hl} {k : Lk}
theorem Lki.nums (I : Lki ses ev k) {f : Nat} (hf : f < 10000000) : ∀ n ∈ [k.name, k.session, k.pane, f], n < 10000000 := fun n hn => by
  have := I.ok.look
  unfold LookOk at this
  simp at hn
  omega
theorem Lki.letters (I : Lki ses ev k) {l : List Nat} (hl : l ∈ k.letters) : LetH ses (txt l) := by
  obtain ⟨x, hx, e1, e2, e3, e4, e5, e6⟩ := I.at_
  unfold Lk.letters at hl
  by_cases h1 : k.over = true
  · rw [if_pos h1] at hl; exact nomatch hl
  rw [if_neg h1] at hl
  by_cases h2 : k.left = true
  · rw [if_pos h2] at hl
    obtain rfl := List.mem_singleton.mp hl
    have hn := I.nums (f := 0) (by decide)
    refine ⟨fields_letL (lookFs_ok (.inr rfl) rfl hn fld_empty), fun m hm => ?_⟩
    rw [txt_cps, look_back (.inr rfl) rfl hn fld_empty] at hm
    obtain rfl := (Option.some.inj hm).symm
    exact ⟨x, hx, _, 0, _, by rw [e1, e2, e3], fun _ => e6.trans h2, by decide, List.nil_prefix⟩
  · rw [if_neg h2] at hl
    obtain ⟨i, hi, rfl⟩ := List.mem_map.mp hl
    have hi2 := List.mem_range.mp hi
    have hlen := I.ok.len
    have hi3 : i * 1000 < 10000000 := by
      unfold letterN at hi2
      omega
    have hf : k.done + i * 1000 < 10000000 := by
      unfold letterN at hi2
      omega
    have hn := I.nums (f := k.done + i * 1000) hf
    have hz : FldOk (cutS k.signs (some ((i * 1000 : Nat) : Int)) (some ((i * 1000 + 1000 : Nat) : Int))) := cut_fld I.ok.signs
    refine ⟨fields_letL (lookFs_ok (.inl rfl) rfl hn hz), fun m hm => ?_⟩
    rw [txt_cps, look_back (.inl rfl) rfl hn hz] at hm
    obtain rfl := (Option.some.inj hm).symm
    refine ⟨x, hx, _, k.done + i * 1000, _, by rw [e1, e2, e3], fun z => absurd z (by decide +kernel), hz.1, ?_⟩
    rw [cut_mid, e5, List.drop_drop]
    exact List.take_prefix _ _
/-- where no more than a letter's signs wait, it brings all -/
theorem Lki.one (I : Lki ses ev k) (hs : k.signs.length ≤ 1000) (h1 : k.over = false) (h2 : k.left = false) : ∃ l sg, k.letters = [l] ∧ readLook l = some (Str.ofString "typed", [k.name, k.session, k.pane, k.done], sg) ∧ sg.cps.toList = k.signs.cps.toList := by
  have hn := I.nums (f := k.done) (by have := I.ok.len; omega)
  have hz : FldOk (cutS k.signs (some ((0 * 1000 : Nat) : Int)) (some ((0 * 1000 + 1000 : Nat) : Int))) := cut_fld I.ok.signs
  refine ⟨lookL "typed" [k.name, k.session, k.pane, k.done] (cutS k.signs (some ((0 * 1000 : Nat) : Int)) (some ((0 * 1000 + 1000 : Nat) : Int))), _, ?_, look_back (.inl rfl) rfl hn hz, ?_⟩
  · unfold Lk.letters
    rw [if_neg (by rw [h1]; decide), if_neg (by rw [h2]; decide)]
    have : letterN k.signs.length = 1 := by unfold letterN; omega
    rw [this]
    rfl
  · rw [cut_mid]
    show (k.signs.cps.toList.drop 0).take 1000 = _
    rw [List.drop_zero, List.take_of_length_le (by rw [← slen]; exact hs)]
theorem Lki.bye (I : Lki ses ev k) (h1 : k.over = false) (h2 : k.left = true) : ∃ l, k.letters = [l] ∧ readLook l = some (Str.ofString "left", [k.name, k.session, k.pane, 0], Str.ofString "") := by
  have hn := I.nums (f := 0) (by decide)
  refine ⟨_, ?_, look_back (.inr rfl) rfl hn fld_empty⟩
  unfold Lk.letters
  rw [if_neg (by rw [h1]; decide), if_pos h2]
/-- the hall's letter for a look that is there -/
theorem Net.letter (N : Net m B ses ev h) (hB : B ≤ 1000000) {n : Nat} (hn : n ∈ h.names) : ∃ x ∈ ses, ∃ st, x.n = n ∧ sOf n h.seats = some st ∧ st.left = false ∧ x.s = st.session ∧ x.dn = st.done ∧ (txt (h.letterL n)).length ≤ 900000 ∧
    readHall (h.letterL n) = some ([x.n, x.s, x.p, x.dn, (runP x.p ev).log.length], (runP x.p ev).line, (runP x.p ev).rows) := by
  obtain ⟨n4, st, hs, hl⟩ := name_so hn
  obtain ⟨x, hx, e1, e2, e3, e4, e5⟩ := N.seat n st hs
  have hok := N.ok x hx
  have hp := N.pane hok.2.2.2.1
  have el : h.letterL n = hallL [x.n, x.s, x.p, x.dn, (runP x.p ev).log.length] (runP x.p ev).line (runP x.p ev).rows := by
    unfold Hl.letterL
    rw [hs]
    show (match h.panes[st.pane]? with | none => [] | some s => hallL [n, st.session, st.pane, st.done, s.log.length] s.line s.rows) = _
    rw [← e3, hp, ← e2, ← e4, e1]
  have hev : ev.length ≤ B := by have := N.bud; omega
  have hd := N.dnle hx
  have hlog := runP_len (p := x.p) (ev := ev)
  have hm3 := N.m3
  have hnum : ∀ k ∈ [x.n, x.s, x.p, x.dn, (runP x.p ev).log.length], k < 10000000 := fun k hk => by
    simp at hk
    omega
  obtain ⟨r1, r2, r3⟩ := (Past.now (ev := ev) (p := x.p)).ok N.evok
  refine ⟨x, hx, st, e1, hs, hl, e2, e4, ?_, ?_⟩
  · rw [el]
    exact fields_letL (hallFs_ok rfl hnum r3 r1 r2)
  · rw [el]
    exact hall_back rfl hnum r3 r1 r2
theorem Net.lets (N : Net m B ses ev h) (hB : B ≤ 1000000) {n : Nat} (hn : n ∈ h.names) : LetL ses ev n (txt (h.letterL n)) := by
  obtain ⟨x, hx, st, e1, _, _, _, _, hl, hr⟩ := N.letter hB hn
  refine ⟨hl, fun m hm => ?_⟩
  rw [txt_cps, hr] at hm
  obtain rfl := (Option.some.inj hm).symm
  exact ⟨x, hx, e1, _, _, _, _, rfl, Nat.le_refl _, Past.now⟩
end
end Vf
namespace Vf
open PySem PySem.Spec PyProof.Rows L2 Evl GxR
/-! ### a world's letters go their way -/
theorem sOf_mem {α : Type} {n : Nat} {se : List (Nat × α)} {v : α} (h : sOf n se = some v) : (n, v) ∈ se := by
  obtain ⟨i, _, hi⟩ := sOf_get h
  exact List.mem_of_getElem? hi
theorem mem_sOf {α : Type} {n : Nat} {se : List (Nat × α)} {v : α} (nod : (se.map (·.1)).Nodup) (h : (n, v) ∈ se) : sOf n se = some v := by
  obtain ⟨i, hi⟩ := List.getElem?_of_mem h
  exact sOf_at nod hi
theorem sOf_putS {α : Type} {n : Nat} {se : List (Nat × α)} {v : α} (nod : (se.map (·.1)).Nodup) (k : Nat) : sOf k (putS se n v) = if k = n then some v else sOf k se := by
  unfold putS
  cases h : ixOf n se with
  | none => exact sOf_snoc h k
  | some i =>
    obtain ⟨x, hx, hn⟩ := ixo_get h
    exact sOf_set nod (st := x.2) (by rw [hx, ← hn]) k
theorem putS_nod {α : Type} {n : Nat} {se : List (Nat × α)} {v : α} (nod : (se.map (·.1)).Nodup) : ((putS se n v).map (·.1)).Nodup := by
  unfold putS
  cases h : ixOf n se with
  | none =>
    show ((se ++ [(n, v)]).map (·.1)).Nodup
    rw [List.map_append, List.nodup_append]
    refine ⟨nod, by simp, fun a ha b hb => ?_⟩
    rw [List.mem_singleton.mp hb]
    obtain ⟨y, hy, rfl⟩ := List.mem_map.mp ha
    exact ixo_none_mem h y hy
  | some i =>
    obtain ⟨x, hx, hn⟩ := ixo_get h
    have e := set_map_same (f := fun y : Nat × α => y.1) (y := (n, v)) hx hn.symm
    show ((se.set i (n, v)).map (·.1)).Nodup
    rw [e]
    exact nod
theorem putS_in {α : Type} {n : Nat} {se : List (Nat × α)} {v : α} {y : Nat × α} (nod : (se.map (·.1)).Nodup) (h : y ∈ putS se n v) : y = (n, v) ∨ (y ∈ se ∧ ¬ y.1 = n) := by
  have hs : sOf y.1 (putS se n v) = some y.2 := mem_sOf (putS_nod nod) h
  rw [sOf_putS nod] at hs
  by_cases e : y.1 = n
  · rw [if_pos e] at hs
    refine .inl ?_
    rw [← e, Option.some.inj hs]
  · rw [if_neg e] at hs
    exact .inr ⟨sOf_mem hs, e⟩
/-- sessions of seats go up only -/
def SesUp (h h' : Hl) : Prop := ∀ n st, sOf n h.seats = some st → ∃ st', sOf n h'.seats = some st' ∧ st.session ≤ st'.session
theorem SesUp.refl (h : Hl) : SesUp h h := fun n st hs => ⟨st, hs, Nat.le_refl _⟩
theorem SesUp.trans {a b c : Hl} (h : SesUp a b) (k : SesUp b c) : SesUp a c := fun n st hs => by
  obtain ⟨s1, h1, l1⟩ := h n st hs
  obtain ⟨s2, h2, l2⟩ := k n s1 h1
  exact ⟨s2, h2, Nat.le_trans l1 l2⟩
theorem ses_set {h : Hl} {i : Nat} {x : Nat × Sst} {st : Sst} (nod : (h.seats.map (·.1)).Nodup) (hx : h.seats[i]? = some x) (l : x.2.session ≤ st.session) (ps : List Pn) : SesUp h ⟨ps, h.seats.set i (x.1, st)⟩ := fun n s0 hs => by
  have so := sOf_set (n := x.1) (st := x.2) (st' := st) nod hx n
  by_cases e : n = x.1
  · refine ⟨st, so.trans (if_pos e), ?_⟩
    rw [e, sOf_at (n := x.1) (st := x.2) nod hx] at hs
    cases hs
    exact l
  · exact ⟨s0, (so.trans (if_neg e)).trans hs, Nat.le_refl _⟩
theorem hear_up {h : Hl} (O : HOk h) {mm : Option (Str × List Nat × Str)} (L : LetOk mm) : SesUp h (h.hear mm) := by
  match mm, L with
  | none, _ => exact SesUp.refl _
  | some (k, [], z), _ => exact SesUp.refl _
  | some (k, [_], z), _ => exact SesUp.refl _
  | some (k, [_, _], z), _ => exact SesUp.refl _
  | some (k, [_, _, _], z), _ => exact SesUp.refl _
  | some (k, _ :: _ :: _ :: _ :: _ :: _, z), _ => exact SesUp.refl _
  | some (k, [n, s, pn, f], z), L =>
    obtain ⟨l1, l2, l3⟩ := L k _ z rfl
    have hn := l1 n _ rfl
    have O2 := O.seat (s := s) (pn := pn) hn
    have U : SesUp h (h.seat n s pn).1 := by
      unfold Hl.seat
      by_cases e0 : h.panes.length ≤ pn
      · rw [if_pos e0]; exact SesUp.refl _
      rw [if_neg e0]
      cases hix : ixOf n h.seats with
      | none =>
        intro k0 st hs
        by_cases e : k0 = n
        · rw [e, sOf_none hix] at hs; cases hs
        · exact ⟨st, ((sOf_snoc hix k0).trans (if_neg e)).trans hs, Nat.le_refl _⟩
      | some i =>
        obtain ⟨y, hy, hyn⟩ := ixo_get hix
        show SesUp h (match h.seats[i]? with | none => (h, none) | some x => if x.2.session < s then ({ h with seats := h.seats.set i (n, ⟨s, pn, 0, false⟩) }, some i) else if s < x.2.session ∨ x.2.left = true ∨ ¬ pn = x.2.pane then (h, none) else (h, some i) : Hl × Option Nat).1
        rw [hy]
        show SesUp h (if y.2.session < s then ({ h with seats := h.seats.set i (n, ⟨s, pn, 0, false⟩) }, some i) else if s < y.2.session ∨ y.2.left = true ∨ ¬ pn = y.2.pane then (h, none) else (h, some i) : Hl × Option Nat).1
        by_cases e1 : y.2.session < s
        · rw [if_pos e1, ← hyn]
          exact ses_set (st := ⟨s, pn, 0, false⟩) O.nod hy (Nat.le_of_lt e1) _
        · rw [if_neg e1]
          by_cases e2 : s < y.2.session ∨ y.2.left = true ∨ ¬ pn = y.2.pane
          · rw [if_pos e2]; exact SesUp.refl _
          · rw [if_neg e2]; exact SesUp.refl _
    have pr : ∀ {g : Hl} {i c : Nat}, HOk g → SesUp g (g.press n i c) := fun {g i c} Og => by
      unfold Hl.press
      cases e : g.seats[i]? with
      | none => exact SesUp.refl _
      | some x =>
        show SesUp g (match g.panes[x.2.pane]? with | none => g | some s => ⟨g.panes.set x.2.pane (s.press (.int (n : Nat)) (.int (x.2.session : Nat)) c), g.seats.set i (x.1, { x.2 with done := x.2.done + 1 })⟩)
        cases e2 : g.panes[x.2.pane]? with
        | none => exact SesUp.refl _
        | some s => exact ses_set (st := { x.2 with done := x.2.done + 1 }) Og.nod e (Nat.le_refl _) _
    have fo : ∀ (l : List Nat) (g : Hl) (i : Nat), HOk g → (∀ c ∈ l, isK c = true) → SesUp g (l.foldl (fun h c => h.press n i c) g) := fun l => by
      induction l with
      | nil => intro g i _ _; exact SesUp.refl _
      | cons c r ih =>
        intro g i Og hc
        exact (pr Og).trans (ih _ i (Og.press (isK_mem.mp (hc c List.mem_cons_self))) fun d hd => hc d (List.mem_cons_of_mem _ hd))
    show SesUp h (match h.seat n s pn with | (h', none) => h' | (h', some i) => if k = "left" then h'.setLeft i else h'.doSigns n i f z.cps.toList)
    cases e : h.seat n s pn with
    | mk h' o =>
      rw [e] at O2 U
      cases o with
      | none => exact U
      | some i =>
        show SesUp h (if k = "left" then h'.setLeft i else h'.doSigns n i f z.cps.toList)
        by_cases hk : k = "left"
        · rw [if_pos hk]
          refine U.trans ?_
          unfold Hl.setLeft
          cases e : h'.seats[i]? with
          | none => exact SesUp.refl _
          | some x => exact ses_set (st := { x.2 with left := true }) O2.nod e (Nat.le_refl _) _
        · rw [if_neg hk]
          refine U.trans ?_
          unfold Hl.doSigns
          cases e : h'.seats[i]? with
          | none => exact SesUp.refl _
          | some x =>
            show SesUp h' (if x.2.done < f then h' else _)
            by_cases hf : x.2.done < f
            · rw [if_pos hf]; exact SesUp.refl _
            · rw [if_neg hf]
              exact fo _ _ _ O2 fun c hc => l3 c (List.mem_of_mem_drop hc)
structure WInv (m B : Nat) (ses : List Ses) (ev : List Gev) (w : Wd) : Prop where
  net : Net m B ses ev w.hall
  many : w.many = m
  nod : (w.looks.map (·.1)).Nodup
  lk : ∀ n k, sOf n w.looks = some k → n < 4 ∧ k.name = n ∧ Lki ses ev k ∧ ∀ x ∈ ses, x.n = n → x.s ≤ k.session
  sok : SesOk w
  cnt : ∀ x ∈ ses, x.s ≤ (sOf x.n w.sess).getD 0
  road : ∀ l ∈ w.road, LetI ses ev l
/-- what stays of a world whose letters are heard -/
structure WStat (w w' : Wd) : Prop where
  road : w'.road = w.road
  sess : w'.sess = w.sess
  many : w'.many = w.many
  keys : w'.looks.map (·.1) = w.looks.map (·.1)
  at_ : ∀ n k, sOf n w.looks = some k → ∃ k', sOf n w'.looks = some k' ∧ Stat k k'
theorem WStat.refl (w : Wd) : WStat w w := ⟨rfl, rfl, rfl, rfl, fun n k h => ⟨k, h, Stat.refl⟩⟩
theorem WStat.trans {a b c : Wd} (h : WStat a b) (g : WStat b c) : WStat a c := ⟨g.road.trans h.road, g.sess.trans h.sess, g.many.trans h.many, g.keys.trans h.keys, fun n k e => by
  obtain ⟨k1, h1, s1⟩ := h.at_ n k e
  obtain ⟨k2, h2, s2⟩ := g.at_ n k1 h1
  exact ⟨k2, h2, s1.trans s2⟩⟩
theorem sof_keys {α β : Type} {a : List (Nat × α)} {b : List (Nat × β)} (h : a.map (·.1) = b.map (·.1)) (n : Nat) : sOf n a = none ↔ sOf n b = none := by
  rw [ixo_sof, ixo_sof]
  have e1 := ix_isSome (n := n) (xs := a)
  have e2 := ix_isSome (n := n) (xs := b)
  rw [h] at e1
  have e3 : (ixOf n a).isSome = true ↔ (ixOf n b).isSome = true := e1.trans e2.symm
  cases h1 : ixOf n a <;> cases h2 : ixOf n b
  · exact ⟨fun _ => rfl, fun _ => rfl⟩
  · rw [h1, h2] at e3; exact absurd (e3.mpr rfl) (by decide)
  · rw [h1, h2] at e3; exact absurd (e3.mp rfl) (by decide)
  · exact ⟨(fun z => by cases z), (fun z => by cases z)⟩
theorem WStat.back {w w' : Wd} (S : WStat w w') {n : Nat} {k' : Lk} (h : sOf n w'.looks = some k') : ∃ k, sOf n w.looks = some k ∧ Stat k k' := by
  cases e : sOf n w.looks with
  | none => rw [(sof_keys S.keys n).mpr e] at h; cases h
  | some k =>
    obtain ⟨k2, h2, s⟩ := S.at_ n k e
    rw [h] at h2
    cases h2
    exact ⟨k, rfl, s⟩
section
variable {m B : Nat} {ses : List Ses} {ev : List Gev} {w : Wd}
theorem WInv.del (I : WInv m B ses ev w) {l : Option Nat × Str} (L : LetI ses ev l) : DelOk w l := by
  obtain ⟨to, z⟩ := l
  cases to with
  | none => exact ⟨L.1, I.net.hok, LetH.letOk I.net L⟩
  | some n =>
    refine ⟨L.1, fun k hk => ?_⟩
    have := (I.lk n k hk).2.2.1.ok.len
    omega
theorem WInv.toHall (I : WInv m B ses ev w) {z : Str} (L : LetH ses z) : ∃ ses' ev', WInv m B ses' ev' (w.deliver (none, z)) ∧ Le0 ses ev ses' ev' ∧ WStat w (w.deliver (none, z)) ∧ SesUp w.hall (w.deliver (none, z)).hall ∧ (w.deliver (none, z)).looks = w.looks ∧
    (∀ x ∈ ses, ∀ k f sg, readLook z.cps.toList = some (k, [x.n, x.s, x.p, f], sg) → (∀ st, sOf x.n w.hall.seats = some st → st.session ≤ x.s) → x.lf = false → f ≤ x.dn → sg.cps.toList = x.ty.drop f →
      { x with dn := x.ty.length } ∈ ses' ∧ sOf x.n (w.deliver (none, z)).hall.seats = some ⟨x.s, x.p, x.ty.length, false⟩) ∧
    ((∀ k n s p f sg, readLook z.cps.toList = some (k, [n, s, p, f], sg) → k = "left" ∨ ∀ x ∈ ses, x.n = n → x.s = s → x.dn = x.ty.length) → ses' = ses ∧ ev' = ev) := by
  obtain ⟨ses', ev', N, le, full, none_⟩ := I.net.hear L
  refine ⟨ses', ev', ⟨N, I.many, I.nod, fun n k hk => ?_, ⟨I.sok.snod, I.sok.s4⟩, fun x hx => ?_, fun l hl => (I.road l hl).mono0 le⟩, le, ⟨rfl, rfl, rfl, rfl, fun n k h => ⟨k, h, Stat.refl⟩⟩, hear_up I.net.hok (LetH.letOk I.net L), rfl, full, none_⟩
  · obtain ⟨h1, h2, h3, h4⟩ := I.lk n k hk
    refine ⟨h1, h2, h3.mono0 le, fun x hx e => ?_⟩
    obtain ⟨y, hy, d, rfl, _⟩ := le.back hx
    exact h4 y hy e
  · obtain ⟨y, hy, d, rfl, _⟩ := le.back hx
    exact I.cnt y hy
theorem deliver_some {n : Nat} {z : Str} {k : Lk} (h : sOf n w.looks = some k) : w.deliver (some n, z) = { w with looks := putS w.looks n (k.hear (readHall z.cps.toList)) } := by
  show (match sOf n w.looks with | none => w | some l => { w with looks := putS w.looks n (l.hear (readHall z.cps.toList)) }) = _
  rw [h]
theorem deliver_none {n : Nat} {z : Str} (h : sOf n w.looks = none) : w.deliver (some n, z) = w := by
  show (match sOf n w.looks with | none => w | some l => { w with looks := putS w.looks n (l.hear (readHall z.cps.toList)) }) = _
  rw [h]
theorem putS_keys_same {α : Type} {n : Nat} {se : List (Nat × α)} {v v0 : α} (h : sOf n se = some v0) : (putS se n v).map (·.1) = se.map (·.1) := by
  obtain ⟨i, hi, hx⟩ := sOf_get h
  unfold putS
  rw [hi]
  exact set_map_same (f := fun y : Nat × α => y.1) (y := (n, v)) hx rfl
theorem WInv.toLook (I : WInv m B ses ev w) {n : Nat} {z : Str} (L : LetL ses ev n z) : WInv m B ses ev (w.deliver (some n, z)) ∧ WStat w (w.deliver (some n, z)) ∧ (w.deliver (some n, z)).hall = w.hall ∧ (∀ k, ¬ k = n → sOf k (w.deliver (some n, z)).looks = sOf k w.looks) := by
  cases h : sOf n w.looks with
  | none => rw [deliver_none h]; exact ⟨I, WStat.refl w, rfl, fun _ _ => rfl⟩
  | some k =>
    rw [deliver_some h]
    obtain ⟨h1, h2, h3, h4⟩ := I.lk n k h
    obtain ⟨H, S⟩ := h3.hear I.net (z := z) (by rw [h2]; exact L)
    have so := sOf_putS (v := k.hear (readHall z.cps.toList)) (n := n) I.nod
    refine ⟨⟨I.net, I.many, putS_nod I.nod, fun j kj hj => ?_, ⟨I.sok.snod, I.sok.s4⟩, I.cnt, I.road⟩, ⟨rfl, rfl, rfl, putS_keys_same h, fun j kj hj => ?_⟩, rfl, fun j hj => (so j).trans (if_neg hj)⟩
    · rw [show sOf j ({ w with looks := putS w.looks n (k.hear (readHall z.cps.toList)) } : Wd).looks = _ from so j] at hj
      by_cases e : j = n
      · rw [if_pos e] at hj
        cases hj
        subst e
        exact ⟨h1, S.name.trans h2, H, fun x hx ex => by rw [S.session]; exact h4 x hx ex⟩
      · rw [if_neg e] at hj
        exact I.lk j kj hj
    · by_cases e : j = n
      · subst e
        rw [h] at hj
        cases hj
        exact ⟨_, (so j).trans (if_pos rfl), S⟩
      · exact ⟨kj, ((so j).trans (if_neg e)).trans hj, Stat.refl⟩
theorem WInv.deliver (I : WInv m B ses ev w) {l : Option Nat × Str} (L : LetI ses ev l) : ∃ ses' ev', WInv m B ses' ev' (w.deliver l) ∧ Le0 ses ev ses' ev' ∧ WStat w (w.deliver l) ∧ SesUp w.hall (w.deliver l).hall := by
  obtain ⟨to, z⟩ := l
  cases to with
  | none =>
    obtain ⟨ses', ev', h1, h2, h3, h4, _⟩ := I.toHall L
    exact ⟨ses', ev', h1, h2, h3, h4⟩
  | some n =>
    obtain ⟨h1, h2, h3, _⟩ := I.toLook (z := z) L
    exact ⟨ses, ev, h1, Le0.refl _ _, h2, by rw [h3]; exact SesUp.refl _⟩
end
theorem WInv.fold {m B : Nat} : ∀ {ls : List (Option Nat × Str)} {ses : List Ses} {ev : List Gev} {w : Wd}, WInv m B ses ev w → (∀ l ∈ ls, LetI ses ev l) → ∃ ses' ev', WInv m B ses' ev' (ls.foldl Wd.deliver w) ∧ Le0 ses ev ses' ev' ∧ WStat w (ls.foldl Wd.deliver w) ∧ SesUp w.hall (ls.foldl Wd.deliver w).hall
  | [], ses, ev, w, I, _ => ⟨ses, ev, I, Le0.refl _ _, WStat.refl w, SesUp.refl _⟩
  | l :: r, ses, ev, w, I, L => by
    obtain ⟨s1, e1, I1, l1, w1, u1⟩ := I.deliver (L l List.mem_cons_self)
    obtain ⟨s2, e2, I2, l2, w2, u2⟩ := WInv.fold (ls := r) I1 fun x hx => (L x (List.mem_cons_of_mem _ hx)).mono0 l1
    exact ⟨s2, e2, I2, l1.trans l2, w1.trans w2, u1.trans u2⟩
section
variable {m B : Nat} {ses : List Ses} {ev : List Gev} {w : Wd}
theorem WInv.cut (I : WInv m B ses ev w) {road : List (Option Nat × Str)} (h : ∀ l ∈ road, LetI ses ev l) : WInv m B ses ev { w with road := road } := ⟨I.net, I.many, I.nod, I.lk, ⟨I.sok.snod, I.sok.s4⟩, I.cnt, h⟩
theorem WInv.lksOk (I : WInv m B ses ev w) : LksOk w := ⟨I.nod, fun x hx => (I.lk x.1 x.2 (mem_sOf I.nod hx)).1, fun x hx => (I.lk x.1 x.2 (mem_sOf I.nod hx)).2.2.1.ok⟩
theorem WInv.sent (I : WInv m B ses ev w) (hB : B ≤ 1000000) : ∀ l ∈ w.sent, LetI ses ev l := fun l hl => by
  unfold Wd.sent at hl
  rcases List.mem_append.mp hl with hl | hl
  · obtain ⟨n, hn, hl⟩ := List.mem_flatMap.mp hl
    unfold Wd.toHall at hl
    cases e : sOf n w.looks with
    | none => rw [e] at hl; exact nomatch hl
    | some k =>
      rw [e] at hl
      obtain ⟨t, ht, rfl⟩ := List.mem_map.mp hl
      exact (I.lk n k e).2.2.1.letters ht
  · obtain ⟨n, hn, rfl⟩ := List.mem_map.mp hl
    exact I.net.lets hB hn
theorem WInv.send (I : WInv m B ses ev w) (hB : B ≤ 1000000) : WInv m B ses ev w.send := I.cut fun l hl => (List.mem_append.mp hl).elim (I.road l) (I.sent hB l)
theorem WInv.carOk (I : WInv m B ses ev w) (k : Nat) : CarOk w k := fun i x hx => by
  have J : WInv m B ses ev { w with road := w.road.drop k } := I.cut fun l hl => I.road l (List.mem_of_mem_drop hl)
  obtain ⟨s1, e1, I1, l1, _, _⟩ := J.fold (ls := (w.road.take k).take i) fun l hl => I.road l (List.mem_of_mem_take (List.mem_of_mem_take hl))
  exact I1.del ((I.road x (List.mem_of_mem_take (List.mem_of_getElem? hx))).mono0 l1)
theorem WInv.carry (I : WInv m B ses ev w) (k : Nat) : ∃ ses' ev', WInv m B ses' ev' (w.carry k) ∧ Le0 ses ev ses' ev' ∧ WStat { w with road := w.road.drop k } (w.carry k) ∧ SesUp w.hall (w.carry k).hall := by
  have J : WInv m B ses ev { w with road := w.road.drop k } := I.cut fun l hl => I.road l (List.mem_of_mem_drop hl)
  exact J.fold (ls := w.road.take k) fun l hl => I.road l (List.mem_of_mem_take hl)
theorem WInv.sendOk (I : WInv m B ses ev w) (hB : B ≤ 1000000) (hr : w.road.length < 900000) : SendOk w := ⟨I.lksOk, I.net.hok, I.net.hlens hB, hr⟩
theorem WInv.setOk (I : WInv m B ses ev w) : SetOk w := ⟨I.lksOk, I.net.hok, fun x hx => by
  obtain ⟨_, _, h3, _⟩ := I.lk x.1 x.2 (mem_sOf I.nod hx)
  obtain ⟨y, hy, _, _, e, _⟩ := h3.at_
  rw [I.net.hlen, ← e]
  exact (I.net.ok y hy).2.2.2.1⟩
theorem sent_len (O : LksOk w) : w.sent.length ≤ 5000 := by
  unfold Wd.sent
  rw [List.length_append, List.length_map]
  have h1 := toHall_len O (keysOf w.looks)
  have h2 : (keysOf w.looks).length ≤ 4 := keysOf_len
  have h3 := names_len4 (h := w.hall)
  omega
theorem WInv.round (I : WInv m B ses ev w) (hB : B ≤ 1000000) : ∃ ses' ev', WInv m B ses' ev' w.round ∧ Le0 ses ev ses' ev' ∧ WStat { w with road := [] } w.round := by
  obtain ⟨s1, e1, I1, l1, st, _⟩ := (I.send hB).carry w.send.road.length
  rw [List.drop_length] at st
  exact ⟨s1, e1, I1, l1, st⟩
theorem WInv.rouOk (I : WInv m B ses ev w) (hB : B ≤ 1000000) (hr : w.road.length < 800000) : RouOk w := by
  obtain ⟨s1, e1, I1, l1, st⟩ := I.round hB
  refine ⟨I.sendOk hB (by omega), (I.send hB).carOk _, ?_, I1.setOk⟩
  show (w.road ++ w.sent).length < _
  have := sent_len I.lksOk
  rw [List.length_append]
  omega
/-- what is wanted of a world that is to settle -/
def Safe (m B : Nat) (w : Wd) : Prop := (∃ ses ev, WInv m B ses ev w) ∧ w.road.length < 800000
theorem safe_round (hB : B ≤ 1000000) (w : Wd) (h : Safe m B w) : RouOk w ∧ Safe m B w.round := by
  obtain ⟨⟨ses, ev, I⟩, hr⟩ := h
  obtain ⟨s1, e1, I1, l1, st⟩ := I.round hB
  refine ⟨I.rouOk hB hr, ⟨s1, e1, I1⟩, ?_⟩
  rw [st.road]
  exact (by decide : 0 < 800000)
end
end Vf
namespace Vf
open PySem PySem.Spec PyProof.Rows L2 Evl GxR
/-! ### a world settles within two rounds -/
structure Quiet (ses : List Ses) (w : Wd) (n : Nat) (s : Nat) : Prop where
  all : ∃ x ∈ ses, x.n = n ∧ x.s = s ∧ x.dn = x.ty.length
  seat : ∃ st, sOf n w.hall.seats = some st ∧ st.session = s ∧ st.left = false
/-- a letter that brings all that a session typed -/
def FullIn (ls : List (Option Nat × Str)) (x : Ses) : Prop := ∃ z, (none, z) ∈ ls ∧ ∃ k f sg, readLook z.cps.toList = some (k, [x.n, x.s, x.p, f], sg) ∧ f ≤ x.dn ∧ sg.cps.toList = x.ty.drop f
theorem seat_of {m B : Nat} {ses : List Ses} {ev : List Gev} {h : Hl} (N : Net m B ses ev h) {x : Ses} (hx : x ∈ ses) (hl : x.lf = false) (la : ∀ y ∈ ses, y.n = x.n → y.s ≤ x.s) (hs : ∃ st, sOf x.n h.seats = some st ∧ x.s ≤ st.session) : ∃ st, sOf x.n h.seats = some st ∧ st.session = x.s ∧ st.left = false := by
  obtain ⟨st, h1, h2⟩ := hs
  obtain ⟨y, hy, e1, e2, e3, e4, e5⟩ := N.seat _ _ h1
  have h3 := la y hy e1
  have ey : y = x := key_eq N.nod hy hx e1 (by omega)
  subst ey
  refine ⟨st, h1, e2.symm, Bool.eq_false_iff.mpr fun z => ?_⟩
  rw [e5 z] at hl
  cases hl
theorem WInv.fold2 {m B : Nat} : ∀ {ls : List (Option Nat × Str)} {ses : List Ses} {ev : List Gev} {w : Wd}, WInv m B ses ev w → (∀ l ∈ ls, LetI ses ev l) → ∃ ses' ev', WInv m B ses' ev' (ls.foldl Wd.deliver w) ∧ Le0 ses ev ses' ev' ∧ WStat w (ls.foldl Wd.deliver w) ∧ SesUp w.hall (ls.foldl Wd.deliver w).hall ∧
    ∀ x ∈ ses, FullIn ls x → (∀ y ∈ ses, y.n = x.n → y.s ≤ x.s) → x.lf = false → { x with dn := x.ty.length } ∈ ses' ∧ ∃ st, sOf x.n (ls.foldl Wd.deliver w).hall.seats = some st ∧ x.s ≤ st.session
  | [], ses, ev, w, I, _ => ⟨ses, ev, I, Le0.refl _ _, WStat.refl w, SesUp.refl _, fun x _ ⟨z, hz, _⟩ => nomatch hz⟩
  | (to, z0) :: r, ses, ev, w, I, L => by
    have L0 := L _ List.mem_cons_self
    have main : ∃ s1 e1, WInv m B s1 e1 (w.deliver (to, z0)) ∧ Le0 ses ev s1 e1 ∧ WStat w (w.deliver (to, z0)) ∧ SesUp w.hall (w.deliver (to, z0)).hall ∧
        ∀ x ∈ ses, to = none → (∃ k f sg, readLook z0.cps.toList = some (k, [x.n, x.s, x.p, f], sg) ∧ f ≤ x.dn ∧ sg.cps.toList = x.ty.drop f) → (∀ y ∈ ses, y.n = x.n → y.s ≤ x.s) → x.lf = false → { x with dn := x.ty.length } ∈ s1 ∧ ∃ st, sOf x.n (w.deliver (to, z0)).hall.seats = some st ∧ x.s ≤ st.session := by
      cases to with
      | none =>
        obtain ⟨s1, e1, I1, l1, w1, u1, _, full, _⟩ := I.toHall L0
        refine ⟨s1, e1, I1, l1, w1, u1, fun x hx _ ⟨k, f, sg, h1, h2, h3⟩ la hl => ?_⟩
        obtain ⟨g1, g2⟩ := full x hx k f sg h1 (fun st hst => by
          obtain ⟨y, hy, e1, e2, _⟩ := I.net.seat _ _ hst
          rw [← e2]
          exact la y hy e1) hl h2 h3
        exact ⟨g1, _, g2, Nat.le_refl _⟩
      | some n =>
        obtain ⟨I1, w1, h3, _⟩ := I.toLook (z := z0) L0
        exact ⟨ses, ev, I1, Le0.refl _ _, w1, by rw [h3]; exact SesUp.refl _, fun x _ z => by cases z⟩
    obtain ⟨s1, e1, I1, l1, w1, u1, full⟩ := main
    obtain ⟨s2, e2, I2, l2, w2, u2, full2⟩ := WInv.fold2 (ls := r) I1 fun x hx => (L x (List.mem_cons_of_mem _ hx)).mono0 l1
    refine ⟨s2, e2, I2, l1.trans l2, w1.trans w2, u1.trans u2, fun x hx ⟨z, hz, hf⟩ la hl => ?_⟩
    rcases List.mem_cons.mp hz with hz | hz
    · cases hz
      obtain ⟨g1, st, g2, g3⟩ := full x hx rfl hf la hl
      obtain ⟨d, hd, hle⟩ := l2.mem g1
      have hd2 := I2.net.dn _ hd
      have : d = x.ty.length := Nat.le_antisymm hd2 hle
      subst this
      obtain ⟨st', q1, q2⟩ := u2 _ _ g2
      exact ⟨hd, st', q1, Nat.le_trans g3 q2⟩
    · obtain ⟨d, hd, hle⟩ := l1.mem hx
      obtain ⟨k, f, sg, h1, h2, h3⟩ := hf
      exact full2 { x with dn := d } hd ⟨z, hz, k, f, sg, h1, Nat.le_trans h2 hle, h3⟩ (fun y hy e => by
        obtain ⟨y0, hy0, d0, rfl, _⟩ := l1.back hy
        exact la y0 hy0 e) hl
section
variable {m B : Nat} {ses : List Ses} {ev : List Gev} {w : Wd}
theorem WInv.over (I : WInv m B ses ev w) {n : Nat} {k : Lk} (h : sOf n w.looks = some k) : k.over = false := by
  obtain ⟨h1, h2, h3, h4⟩ := I.lk n k h
  refine Bool.eq_false_iff.mpr fun z => ?_
  obtain ⟨y, hy, e1, e2⟩ := h3.over z
  have := h4 y hy (e1.trans h2)
  omega
theorem keysOf_mem {α : Type} {se : List (Nat × α)} {n : Nat} {v : α} (h : sOf n se = some v) (n4 : n < 4) : n ∈ keysOf se := by
  unfold keysOf
  rw [List.mem_filter, List.mem_range]
  refine ⟨n4, ?_⟩
  obtain ⟨i, hi, _⟩ := sOf_get h
  rw [hi]
  rfl
theorem toHall_in {n : Nat} {k : Lk} (h : sOf n w.looks = some k) (n4 : n < 4) {l : List Nat} (hl : l ∈ k.letters) : (none, txt l) ∈ (keysOf w.looks).flatMap w.toHall := by
  refine List.mem_flatMap.mpr ⟨n, keysOf_mem h n4, ?_⟩
  unfold Wd.toHall
  rw [h]
  exact List.mem_map.mpr ⟨l, hl, rfl⟩
theorem WInv.round1 (I : WInv m B ses ev w) (hB : B ≤ 1000000) : ∃ ses' ev', WInv m B ses' ev' w.round ∧ Le0 ses ev ses' ev' ∧ WStat { w with road := [] } w.round ∧ ∀ n k, sOf n w.looks = some k → k.left = false → k.signs.length ≤ 1000 → Quiet ses' w.round n k.session := by
  have J := I.send hB
  have J2 : WInv m B ses ev { w.send with road := w.send.road.drop w.send.road.length } := J.cut fun l hl => J.road l (List.mem_of_mem_drop hl)
  obtain ⟨s1, e1, I1, l1, st, u1, full⟩ := J2.fold2 (ls := w.send.road.take w.send.road.length) fun l hl => J.road l (List.mem_of_mem_take hl)
  refine ⟨s1, e1, I1, l1, ⟨st.road.trans List.drop_length, st.sess, st.many, st.keys, st.at_⟩, fun n k hk hl hs => ?_⟩
  obtain ⟨h1, h2, h3, h4⟩ := I.lk n k hk
  obtain ⟨x, hx, f1, f2, f3, f4, f5, f6⟩ := h3.at_
  obtain ⟨l, sg, hlt, hr, hsg⟩ := h3.one hs (I.over hk) hl
  have la : ∀ y ∈ ses, y.n = x.n → y.s ≤ x.s := fun y hy e => by rw [f2]; exact h4 y hy (e.trans (f1.trans h2))
  have hxl : x.lf = false := f6.trans hl
  obtain ⟨g1, st', g2, g3⟩ := full x hx ⟨txt l, by
      rw [List.take_length]
      exact List.mem_append_right _ (List.mem_append_left _ (toHall_in hk h1 (by rw [hlt]; exact List.mem_singleton.mpr rfl))), Str.ofString "typed", k.done, sg, by rw [txt_cps, hr, f1, f2, f3], f4, by rw [hsg, f5]⟩ la hxl
  obtain ⟨st2, q1, q2, q3⟩ := seat_of (x := { x with dn := x.ty.length }) I1.net g1 hxl (fun y hy e => by
    obtain ⟨y0, hy0, d0, rfl, _⟩ := l1.back hy
    exact la y0 hy0 e) ⟨st', g2, g3⟩
  refine ⟨⟨_, g1, f1.trans h2, f2, rfl⟩, st2, ?_, q2.trans f2, q3⟩
  rw [← h2, ← f1]
  exact q1
/-- nothing new is in a letter -/
def NoNew (ses : List Ses) (z : Str) : Prop := ∀ k n s p f sg, readLook z.cps.toList = some (k, [n, s, p, f], sg) → k = "left" ∨ ∀ x ∈ ses, x.n = n → x.s = s → x.dn = x.ty.length
theorem WInv.foldA : ∀ {ls : List (Option Nat × Str)} {w : Wd}, WInv m B ses ev w → (∀ l ∈ ls, l.1 = none ∧ LetI ses ev l ∧ NoNew ses l.2) → WInv m B ses ev (ls.foldl Wd.deliver w) ∧ WStat w (ls.foldl Wd.deliver w) ∧ (ls.foldl Wd.deliver w).looks = w.looks ∧ SesUp w.hall (ls.foldl Wd.deliver w).hall
  | [], w, I, _ => ⟨I, WStat.refl w, rfl, SesUp.refl _⟩
  | (to, z) :: r, w, I, L => by
    obtain ⟨e, L0, nn⟩ := L _ List.mem_cons_self
    have e : to = none := e
    subst e
    obtain ⟨s1, e1, I1, l1, w1, u1, k1, _, same⟩ := I.toHall L0
    obtain ⟨q1, q2⟩ := same nn
    rw [q1, q2] at I1
    obtain ⟨I2, w2, k2, u2⟩ := WInv.foldA (ls := r) I1 fun x hx => L x (List.mem_cons_of_mem _ hx)
    exact ⟨I2, w1.trans w2, k2.trans k1, u1.trans u2⟩
theorem WInv.foldB {zf : Nat → Str} : ∀ {ns : List Nat} {w : Wd}, WInv m B ses ev w → ns.Nodup → (∀ n ∈ ns, LetL ses ev n (zf n)) → WInv m B ses ev ((ns.map fun n => (some n, zf n)).foldl Wd.deliver w) ∧ WStat w ((ns.map fun n => (some n, zf n)).foldl Wd.deliver w) ∧ ((ns.map fun n => (some n, zf n)).foldl Wd.deliver w).hall = w.hall ∧
      (∀ j, j ∉ ns → sOf j ((ns.map fun n => (some n, zf n)).foldl Wd.deliver w).looks = sOf j w.looks) ∧ ∀ n ∈ ns, ∀ k, sOf n w.looks = some k → sOf n ((ns.map fun n => (some n, zf n)).foldl Wd.deliver w).looks = some (k.hear (readHall (zf n).cps.toList))
  | [], w, I, _, _ => ⟨I, WStat.refl w, rfl, fun _ _ => rfl, fun _ h => nomatch h⟩
  | n :: r, w, I, nd, L => by
    rw [List.nodup_cons] at nd
    obtain ⟨I1, w1, h1, o1⟩ := I.toLook (z := zf n) (L n List.mem_cons_self)
    obtain ⟨I2, w2, h2, o2, f2⟩ := WInv.foldB (ns := r) I1 nd.2 fun x hx => L x (List.mem_cons_of_mem _ hx)
    refine ⟨I2, w1.trans w2, h2.trans h1, fun j hj => ?_, fun j hj k hk => ?_⟩
    · have h3 : ¬ j = n := fun e => hj (by rw [e]; exact List.mem_cons_self)
      exact (o2 j fun h => hj (List.mem_cons_of_mem _ h)).trans (o1 j h3)
    · rcases List.mem_cons.mp hj with rfl | hj
      · refine (o2 j nd.1).trans ?_
        rw [deliver_some hk]
        exact (sOf_putS I.nod j).trans (if_pos rfl)
      · have h3 : ¬ j = n := fun e => nd.1 (by rw [← e]; exact hj)
        exact f2 j hj k ((o1 j h3).trans hk)
theorem Net.ch_ (N : Net m B ses ev w.hall) {p : Nat} (hp : p < m) : w.hall.ch p = (runP p ev).log.length := by
  unfold Hl.ch
  rw [N.pane hp]
theorem names_nodup {h : Hl} : h.names.Nodup := by
  unfold Hl.names
  exact List.Pairwise.filter _ List.nodup_range
theorem names_in {h : Hl} {n : Nat} {st : Sst} (n4 : n < 4) (hs : sOf n h.seats = some st) (hl : st.left = false) : n ∈ h.names := by
  unfold Hl.names
  rw [List.mem_filter, List.mem_range]
  refine ⟨n4, ?_⟩
  rw [hs]
  show (!st.left) = true
  rw [hl]
  rfl
theorem WInv.round2 (I : WInv m B ses ev w) (hB : B ≤ 1000000) (hr : w.road = []) (hq : ∀ n k, sOf n w.looks = some k → k.left = false → Quiet ses w n k.session) : WInv m B ses ev w.round ∧ WStat w w.round ∧ SesUp w.hall w.round.hall ∧ w.round.settled = true := by
  have er : w.round = (w.sent).foldl Wd.deliver { w with road := [] } := by
    show (w.send.road.take w.send.road.length).foldl Wd.deliver { w.send with road := w.send.road.drop w.send.road.length } = _
    rw [List.take_length, List.drop_length]
    show (w.road ++ w.sent).foldl Wd.deliver { w with road := [] } = _
    rw [hr]
    rfl
  have I0 : WInv m B ses ev { w with road := [] } := I.cut fun l hl => nomatch hl
  obtain ⟨IA, wA, kA, uA⟩ := I0.foldA (ls := (keysOf w.looks).flatMap w.toHall) fun l hl => by
    obtain ⟨n, hn, hl⟩ := List.mem_flatMap.mp hl
    unfold Wd.toHall at hl
    cases e : sOf n w.looks with
    | none => rw [e] at hl; exact nomatch hl
    | some k =>
      rw [e] at hl
      obtain ⟨t, ht, rfl⟩ := List.mem_map.mp hl
      obtain ⟨h1, h2, h3, h4⟩ := I.lk n k e
      refine ⟨rfl, h3.letters ht, fun kk n' s' p' f' sg' hrd => ?_⟩
      cases hleft : k.left with
      | true =>
        obtain ⟨l0, hl0, hr0⟩ := h3.bye (I.over e) hleft
        rw [hl0] at ht
        obtain rfl := List.mem_singleton.mp ht
        rw [txt_cps, hr0] at hrd
        injection hrd with hrd
        injection hrd with a1 a2
        exact .inl a1.symm
      | false =>
        obtain ⟨x, hx, e1, e2, e3⟩ := (hq n k e hleft).all
        refine .inr fun y hy f1 f2 => ?_
        -- the letter's head is the look's
        obtain ⟨y2, hy2, kk2, f2', sg2, em, _⟩ := (h3.letters ht).2 _ (by rw [txt_cps] at hrd ⊢; exact hrd)
        have hhead : n' = k.name ∧ s' = k.session := by
          unfold Lk.letters at ht
          rw [if_neg (by rw [I.over e]; decide), if_neg (by rw [hleft]; decide)] at ht
          obtain ⟨i, hi, rfl⟩ := List.mem_map.mp ht
          have hi2 := List.mem_range.mp hi
          have hlen := h3.ok.len
          have hf : k.done + i * 1000 < 10000000 := by
            unfold letterN at hi2
            omega
          rw [txt_cps, look_back (.inl rfl) rfl (h3.nums hf) (cut_fld h3.ok.signs)] at hrd
          injection hrd with hrd
          injection hrd with a1 a2
          injection a2 with a2 a3
          injection a2 with b1 b2
          injection b2 with b2 b3
          exact ⟨b1.symm, b2.symm⟩
        have : y = x := key_eq I.net.nod hy hx (by rw [f1, hhead.1, h2, e1]) (by rw [f2, hhead.2, e2])
        rw [this]
        exact e3
  obtain ⟨IB, wB, hB2, oB, fB⟩ := IA.foldB (zf := fun n => txt (w.hall.letterL n)) (ns := w.hall.names) names_nodup fun n hn => I.net.lets hB hn
  have ef : w.round = (w.hall.names.map fun n => ((some n, txt (w.hall.letterL n)) : Option Nat × Str)).foldl Wd.deliver (((keysOf w.looks).flatMap w.toHall).foldl Wd.deliver { w with road := [] }) := by
    rw [er]
    unfold Wd.sent
    rw [List.foldl_append]
  have ws : WStat { w with road := [] } w.round := by rw [ef]; exact wA.trans wB
  have I2 : WInv m B ses ev w.round := by rw [ef]; exact IB
  refine ⟨I2, ⟨ws.road.trans hr.symm, ws.sess, ws.many, ws.keys, ws.at_⟩, by rw [ef, hB2]; exact uA, ?_⟩
  unfold Wd.settled
  rw [List.all_eq_true]
  intro y hy
  have hy2 : sOf y.1 w.round.looks = some y.2 := mem_sOf I2.nod hy
  obtain ⟨k, hk, sk⟩ := ws.back hy2
  have hk : sOf y.1 w.looks = some k := hk
  cases hl : y.2.left with
  | true => rfl
  | false =>
    have hkl : k.left = false := by rw [← sk.left]; exact hl
    obtain ⟨h1, h2, h3, h4⟩ := I.lk _ k hk
    obtain ⟨⟨x, hx, e1, e2, e3⟩, st, q1, q2, q3⟩ := hq _ k hk hkl
    have hn := names_in h1 q1 q3
    obtain ⟨x', hx', st', g1, g2, g3, g4, g5, g6, g7⟩ := I.net.letter hB hn
    rw [q1] at g2
    cases g2
    have exx : x' = x := key_eq I.net.nod hx' hx (by rw [g1, e1]) (by rw [g4, q2, e2])
    subst exx
    have fin := fB y.1 hn k (by rw [kA]; exact hk)
    rw [← ef, hy2] at fin
    have fin := Option.some.inj fin
    have hth := h3.full I.net (z := txt (w.hall.letterL y.1)) hx (g1.trans h2.symm) e2 e3 (I.over hk) (by rw [txt_cps]; exact g7)
    rw [← fin] at hth
    obtain ⟨x3, hx3, _, _, p3, _⟩ := h3.at_
    have hp : y.2.pane < m := by rw [sk.pane, ← p3]; exact (I.net.ok x3 hx3).2.2.2.1
    rw [I2.net.ch_ hp, sk.pane, hth, Bool.or_true]
theorem WInv.settle (I : WInv m B ses ev w) (hB : B ≤ 1000000) (hs : ∀ n k, sOf n w.looks = some k → k.signs.length ≤ 1000) : ∃ ses' ev', WInv m B ses' ev' w.settle ∧ Le0 ses ev ses' ev' ∧ WStat { w with road := [] } w.settle ∧ w.settle.settled = true ∧ ∀ n k, sOf n w.looks = some k → k.left = false → Quiet ses' w.settle n k.session := by
  obtain ⟨s1, e1, I1, l1, st1, q1⟩ := I.round1 hB
  have step : w.settle = if w.round.settled = true then w.round else w.round.settleN 59 := rfl
  by_cases h1 : w.round.settled = true
  · have e : w.settle = w.round := by rw [step, if_pos h1]
    rw [e]
    exact ⟨s1, e1, I1, l1, st1, h1, fun n k hk hl => q1 n k hk hl (hs n k hk)⟩
  · have q1' : ∀ n k, sOf n w.round.looks = some k → k.left = false → Quiet s1 w.round n k.session := fun n k' hk' hl => by
      obtain ⟨k, hk, sk⟩ := st1.back hk'
      have hk : sOf n w.looks = some k := hk
      rw [sk.session]
      exact q1 n k hk (by rw [← sk.left]; exact hl) (hs n k hk)
    obtain ⟨I2, st2, u2, h2⟩ := I1.round2 hB st1.road q1'
    have step2 : w.round.settleN 59 = if w.round.round.settled = true then w.round.round else w.round.round.settleN 58 := rfl
    have e : w.settle = w.round.round := by rw [step, if_neg h1, step2, if_pos h2]
    rw [e]
    refine ⟨s1, e1, I2, l1, st1.trans st2, h2, fun n k hk hl => ?_⟩
    obtain ⟨⟨x, hx, a1, a2, a3⟩, st, b1, b2, b3⟩ := q1 n k hk hl (hs n k hk)
    obtain ⟨c1, c2, c3, c4⟩ := I.lk n k hk
    obtain ⟨k', hk', sk⟩ := st1.at_ n k hk
    obtain ⟨d1, d2, d3, d4⟩ := I1.lk n k' hk'
    obtain ⟨x', hx', f1, f2, f3, f4, f5, f6⟩ := d3.at_
    have ex : x' = x := key_eq I1.net.nod hx' hx (by rw [f1, d2, a1]) (by rw [f2, sk.session, a2])
    subst ex
    obtain ⟨st', r1, r2⟩ := u2 _ _ b1
    obtain ⟨st2', t1, t2, t3⟩ := seat_of I2.net hx (by rw [f6, sk.left]; exact hl) (fun y hy e => by rw [f2]; exact d4 y hy (e.trans (f1.trans d2))) ⟨st', by rw [a1]; exact r1, by rw [a2, ← b2]; exact r2⟩
    exact ⟨⟨x', hx, a1, a2, a3⟩, st2', by rw [← a1]; exact t1, t2.trans a2, t3⟩
end
end Vf
namespace Vf
open PySem PySem.Spec PyProof.Rows L2 Evl GxR
/-! ### the other steps of a world -/
theorem LetI.sub {ses ses' : List Ses} {ev : List Gev} {l : Option Nat × Str} (k : LetI ses ev l) (h : ∀ x ∈ ses, ∃ y ∈ ses', y.n = x.n ∧ y.s = x.s ∧ y.p = x.p ∧ x.dn ≤ y.dn ∧ (x.lf = true → y.lf = true) ∧ ∃ t, y.ty = x.ty ++ t) : LetI ses' ev l := by
  obtain ⟨to, z⟩ := l
  cases to with
  | none =>
    refine ⟨k.1, fun m hm => ?_⟩
    obtain ⟨x, hx, kk, f, sg, e, e1, e2, e3⟩ := k.2 m hm
    obtain ⟨y, hy, f1, f2, f3, f4, f5, t, f6⟩ := h x hx
    refine ⟨y, hy, kk, f, sg, by rw [e, f1, f2, f3], fun z => f5 (e1 z), e2, ?_⟩
    rw [f6, List.drop_append]
    exact e3.trans (List.prefix_append _ _)
  | some n =>
    refine ⟨k.1, fun m hm => ?_⟩
    obtain ⟨x, hx, hn, d, c, line, rows, e, e1, e2⟩ := k.2 m hm
    obtain ⟨y, hy, f1, f2, f3, f4, f5, t, f6⟩ := h x hx
    exact ⟨y, hy, f1.trans hn, d, c, line, rows, by rw [e, f1, f2, f3], Nat.le_trans e1 f4, by rw [f3]; exact e2⟩
theorem WInv.more {m B B' : Nat} {ses : List Ses} {ev : List Gev} {w : Wd} (I : WInv m B ses ev w) (h : B ≤ B') : WInv m B' ses ev w :=
  ⟨⟨I.net.m1, I.net.m3, I.net.panes, I.net.seat, I.net.s4, I.net.snod, I.net.nod, I.net.new, I.net.ok, I.net.dn, I.net.done, I.net.evok, I.net.evp, Nat.le_trans I.net.bud h⟩, I.many, I.nod, I.lk, I.sok, I.cnt, I.road⟩
theorem WInv.start {m : Nat} (h1 : 1 ≤ m) (h3 : m ≤ 3) : WInv m 0 [] [] (Wd.new m) := by
  refine ⟨⟨h1, h3, ?_, (fun n st h => nomatch h), (fun _ h => nomatch h), List.nodup_nil, List.nodup_nil, (fun _ h => nomatch h), (fun _ h => nomatch h), (fun _ h => nomatch h), (fun _ h => nomatch h), (fun _ h => nomatch h), (fun _ _ _ _ h => nomatch h), Nat.le_refl _⟩, rfl, List.nodup_nil, (fun n k h => nomatch h), ⟨List.nodup_nil, fun _ h => nomatch h⟩, (fun _ h => nomatch h), fun _ h => nomatch h⟩
  show List.replicate m Pn.new = _
  refine List.ext_getElem? fun i => ?_
  rw [List.getElem?_map]
  by_cases e : i < m
  · rw [List.getElem?_replicate_of_lt e, List.getElem?_range e]
    rfl
  · rw [List.getElem?_eq_none (by rw [List.length_replicate]; omega), List.getElem?_eq_none (by rw [List.length_range]; omega)]
    rfl
section
variable {m B : Nat} {ses : List Ses} {ev : List Gev} {w : Wd}
theorem WInv.ty_le (I : WInv m B ses ev w) {x : Ses} (hx : x ∈ ses) : x.ty.length ≤ B := by
  have h1 := I.net.dnle hx
  have h2 := I.net.bud
  have h3 : x.ty.length - x.dn ≤ undone ses := by
    unfold undone
    obtain ⟨j, hj⟩ := List.getElem?_of_mem hx
    have : ∀ (l : List Ses) (j : Nat), l[j]? = some x → x.ty.length - x.dn ≤ (l.map fun x => x.ty.length - x.dn).sum := by
      intro l
      induction l with
      | nil => intro j h; cases h
      | cons a r ih =>
        intro j h
        rw [List.map_cons, List.sum_cons]
        cases j with
        | zero => cases h; omega
        | succ j => have := ih j h; omega
    exact this ses j hj
  have h4 := I.net.dn x hx
  omega
theorem WInv.come (I : WInv m B ses ev w) {n pn wd hg : Nat} (h4 : n < 4) (hp : pn < m) (hs : w.next n ≤ 100000) (hz : SizeOk wd hg) :
    ComeOk w n pn wd hg ∧ WInv m B (ses ++ [⟨n, w.next n, pn, [], 0, false⟩]) ev (w.come n pn wd hg) := by
  have N := I.net
  have hm3 := N.m3
  have fresh : ∀ x ∈ ses, x.n = n → x.s < w.next n := fun x hx e => by
    have := I.cnt x hx
    rw [e] at this
    unfold Wd.next
    omega
  have sub : ∀ x ∈ ses, ∃ y ∈ ses ++ [(⟨n, w.next n, pn, [], 0, false⟩ : Ses)], y.n = x.n ∧ y.s = x.s ∧ y.p = x.p ∧ x.dn ≤ y.dn ∧ (x.lf = true → y.lf = true) ∧ ∃ t, y.ty = x.ty ++ t := fun x hx => ⟨x, List.mem_append_left _ hx, rfl, rfl, rfl, Nat.le_refl _, id, [], by simp⟩
  have hLk : LookOk n (w.next n) pn := ⟨h4, by unfold Wd.next; omega, hs, by omega⟩
  refine ⟨⟨h4, by rw [I.many]; exact hp, by rw [I.many]; exact hm3, hs, hz, I.lksOk, I.sok⟩, ⟨⟨N.m1, N.m3, N.panes, fun k st hk => ?_, N.s4, N.snod, ?_, fun x hx hst => ?_, fun x hx => ?_, fun x hx => ?_, fun x hx => ?_, N.evok, fun p a s c hg => ?_, ?_⟩, I.many, putS_nod I.nod, fun k l hk => ?_, ⟨putS_nod I.sok.snod, fun y hy => ?_⟩, fun x hx => ?_, fun l hl => (I.road l hl).sub sub⟩⟩
  · obtain ⟨x, hx, r⟩ := N.seat k st hk
    exact ⟨x, List.mem_append_left _ hx, r⟩
  · rw [List.map_append, List.nodup_append]
    refine ⟨N.nod, by simp, fun a ha b hb => ?_⟩
    rw [List.mem_singleton.mp hb]
    obtain ⟨x, hx, rfl⟩ := List.mem_map.mp ha
    intro e
    have e1 : x.n = n := congrArg Prod.fst e
    have e2 : x.s = w.next n := congrArg Prod.snd e
    have := fresh x hx e1
    omega
  · rcases List.mem_append.mp hx with hx | hx
    · exact N.new x hx hst
    · rw [List.mem_singleton.mp hx]
  · rcases List.mem_append.mp hx with hx | hx
    · exact N.ok x hx
    · rw [List.mem_singleton.mp hx]
      exact ⟨h4, hLk.2.1, hs, hp, fun c hc => nomatch hc⟩
  · rcases List.mem_append.mp hx with hx | hx
    · exact N.dn x hx
    · rw [List.mem_singleton.mp hx]; exact Nat.le_refl _
  · rcases List.mem_append.mp hx with hx | hx
    · exact N.done x hx
    · rw [List.mem_singleton.mp hx]
      show signsOf n (w.next n) ev = []
      unfold signsOf
      rw [List.filterMap_eq_nil_iff]
      intro g hg
      cases g with
      | beat => rfl
      | press p a s c =>
        obtain ⟨y, hy, e1, e2, e3⟩ := N.evp p a s c hg
        show (if a = n ∧ s = w.next n then some c else none) = none
        refine if_neg fun z => ?_
        have := fresh y hy (e1.trans z.1)
        omega
  · obtain ⟨x, hx, r⟩ := N.evp p a s c hg
    exact ⟨x, List.mem_append_left _ hx, r⟩
  · have := N.bud
    unfold undone at this ⊢
    rw [List.map_append, List.sum_append]
    simpa using this
  · have so := sOf_putS (n := n) (v := Lk.new n (w.next n) pn wd hg) I.nod k
    rw [show sOf k (w.come n pn wd hg).looks = _ from so] at hk
    by_cases e : k = n
    · rw [if_pos e] at hk
      cases hk
      subst e
      refine ⟨h4, rfl, ⟨new_ok hLk hz, ⟨_, List.mem_append_right _ (List.mem_singleton.mpr rfl), rfl, rfl, rfl, Nat.le_refl _, rfl, rfl⟩, (fun c hc => by cases hc), fun z => by cases z⟩, fun x hx ex => ?_⟩
      rcases List.mem_append.mp hx with hx | hx
      · exact Nat.le_of_lt (fresh x hx ex)
      · rw [List.mem_singleton.mp hx]; exact Nat.le_refl _
    · rw [if_neg e] at hk
      obtain ⟨a1, a2, a3, a4⟩ := I.lk k l hk
      refine ⟨a1, a2, ⟨a3.ok, ?_, a3.known, fun ho => ?_⟩, fun x hx ex => ?_⟩
      · obtain ⟨x, hx, r⟩ := a3.at_
        exact ⟨x, List.mem_append_left _ hx, r⟩
      · obtain ⟨y, hy, r⟩ := a3.over ho
        exact ⟨y, List.mem_append_left _ hy, r⟩
      · rcases List.mem_append.mp hx with hx | hx
        · exact a4 x hx ex
        · rw [List.mem_singleton.mp hx] at ex
          exact absurd ex.symm e
  · rcases putS_in I.sok.snod hy with rfl | ⟨hy, _⟩
    · exact h4
    · exact I.sok.s4 y hy
  · have so := sOf_putS (n := n) (v := w.next n) I.sok.snod x.n
    show x.s ≤ (sOf x.n (putS w.sess n (w.next n))).getD 0
    rw [so]
    by_cases e : x.n = n
    · rw [if_pos e]
      rcases List.mem_append.mp hx with hx | hx
      · exact Nat.le_of_lt (fresh x hx e)
      · rw [List.mem_singleton.mp hx]; exact Nat.le_refl _
    · rw [if_neg e]
      rcases List.mem_append.mp hx with hx | hx
      · exact I.cnt x hx
      · rw [List.mem_singleton.mp hx] at e
        exact absurd rfl e
/-- a session, changed in what was typed or whether it left; and its look -/
theorem WInv.upd (I : WInv m B ses ev w) {n j : Nat} {k k' : Lk} {x x' : Ses} {B' : Nat} (hk : sOf n w.looks = some k) (hj : ses[j]? = some x) (e1 : x.n = k.name) (e2 : x.s = k.session) (k1 : x'.n = x.n) (k2 : x'.s = x.s) (k3 : x'.p = x.p) (k4 : x'.dn = x.dn) (k5 : x.lf = true → x'.lf = true)
    (kt : ∃ t, x'.ty = x.ty ++ t ∧ (∀ c ∈ t, isK c = true) ∧ B + t.length ≤ B') (nm : k'.name = n) (ns : k'.session = k.session) (hL : Lki (ses.set j x') ev k') :
    WInv m B' (ses.set j x') ev { w with looks := putS w.looks n k' } := by
  obtain ⟨t, ht, hkt, hB⟩ := kt
  have N := I.net
  have hx := List.mem_of_getElem? hj
  have hx' : x' ∈ ses.set j x' := set_mem_self hj
  obtain ⟨a1, a2, a3, a4⟩ := I.lk n k hk
  have mem : ∀ y ∈ ses, ∃ y' ∈ ses.set j x', y'.n = y.n ∧ y'.s = y.s ∧ y'.p = y.p ∧ y'.dn = y.dn ∧ (y.lf = true → y'.lf = true) ∧ ∃ t, y'.ty = y.ty ++ t := fun y hy => by
    obtain ⟨i, hi⟩ := List.getElem?_of_mem hy
    by_cases e : i = j
    · subst e
      rw [hj] at hi
      cases hi
      exact ⟨x', hx', k1, k2, k3, k4, k5, t, ht⟩
    · exact ⟨y, mem_set_ne hi e, rfl, rfl, rfl, rfl, id, [], by simp⟩
  have back : ∀ y' ∈ ses.set j x', ∃ y ∈ ses, y'.n = y.n ∧ y'.s = y.s ∧ y'.dn = y.dn := fun y' hy => by
    rcases set_mem hy with rfl | ⟨i, hi, hi2⟩
    · exact ⟨x, hx, k1, k2, k4⟩
    · exact ⟨y', List.mem_of_getElem? hi2, rfl, rfl, rfl⟩
  have sub : ∀ y ∈ ses, ∃ y' ∈ ses.set j x', y'.n = y.n ∧ y'.s = y.s ∧ y'.p = y.p ∧ y.dn ≤ y'.dn ∧ (y.lf = true → y'.lf = true) ∧ ∃ t, y'.ty = y.ty ++ t := fun y hy => by
    obtain ⟨y', h1, h2, h3, h4, h5, h6⟩ := mem y hy
    exact ⟨y', h1, h2, h3, h4, by omega, h6⟩
  refine ⟨⟨N.m1, N.m3, N.panes, fun i st hi => ?_, N.s4, N.snod, ?_, fun y hy hst => ?_, fun y hy => ?_, fun y hy => ?_, fun y hy => ?_, N.evok, fun p a s c hg => ?_, ?_⟩, I.many, putS_nod I.nod, fun i l hi => ?_, ⟨I.sok.snod, I.sok.s4⟩, fun y hy => ?_, fun l hl => (I.road l hl).sub sub⟩
  · obtain ⟨y, hy, f1, f2, f3, f4, f5⟩ := N.seat i st hi
    obtain ⟨y', h1, h2, h3, h4, h5, h6, _⟩ := mem y hy
    exact ⟨y', h1, h2.trans f1, h3.trans f2, h4.trans f3, h5.trans f4, fun z => h6 (f5 z)⟩
  · have e := set_map_same (f := Ses.key) (y := x') hj (by unfold Ses.key; rw [k1, k2])
    rw [e]
    exact N.nod
  · obtain ⟨y0, hy0, f1, f2, f3⟩ := back y hy
    rw [f3]
    exact N.new y0 hy0 fun st hs => by rw [← f2]; exact hst st (by rw [f1]; exact hs)
  · rcases set_mem hy with rfl | ⟨i, hi, hi2⟩
    · obtain ⟨g1, g2, g3, g4, g5⟩ := N.ok x hx
      refine ⟨by rw [k1]; exact g1, by rw [k2]; exact g2, by rw [k2]; exact g3, by rw [k3]; exact g4, fun c hc => ?_⟩
      rw [ht] at hc
      rcases List.mem_append.mp hc with hc | hc
      · exact g5 c hc
      · exact hkt c hc
    · exact N.ok y (List.mem_of_getElem? hi2)
  · rcases set_mem hy with rfl | ⟨i, hi, hi2⟩
    · have := N.dn x hx
      rw [k4, ht, List.length_append]
      omega
    · exact N.dn y (List.mem_of_getElem? hi2)
  · rcases set_mem hy with rfl | ⟨i, hi, hi2⟩
    · rw [k1, k2, k4, ht, List.take_append_of_le_length (N.dn x hx)]
      exact N.done x hx
    · exact N.done y (List.mem_of_getElem? hi2)
  · obtain ⟨y, hy, f1, f2, f3⟩ := N.evp p a s c hg
    obtain ⟨y', h1, h2, h3, h4, _⟩ := mem y hy
    exact ⟨y', h1, h2.trans f1, h3.trans f2, h4.trans f3⟩
  · have hb := N.bud
    have hdn := N.dn x hx
    have hs : ∀ (l : List Ses) (j : Nat), l[j]? = some x → ((l.set j x').map fun y => y.ty.length - y.dn).sum = (l.map fun y => y.ty.length - y.dn).sum + t.length := by
      intro l
      induction l with
      | nil => intro j h; cases h
      | cons a r ih =>
        intro j h
        cases j with
        | zero =>
          cases h
          show (x'.ty.length - x'.dn) + _ = (x.ty.length - x.dn) + _ + _
          rw [ht, k4, List.length_append]
          omega
        | succ j =>
          have := ih j h
          rw [List.set_cons_succ, List.map_cons, List.sum_cons, List.map_cons, List.sum_cons]
          omega
    unfold undone at hb ⊢
    rw [hs ses j hj]
    omega
  · have so := sOf_putS (n := n) (v := k') I.nod i
    rw [show sOf i ({ w with looks := putS w.looks n k' } : Wd).looks = _ from so] at hi
    by_cases e : i = n
    · rw [if_pos e] at hi
      cases hi
      subst e
      refine ⟨a1, nm, hL, fun y hy ey => ?_⟩
      obtain ⟨y0, hy0, f1, f2, _⟩ := back y hy
      rw [ns, f2]
      exact a4 y0 hy0 (f1.symm.trans ey)
    · rw [if_neg e] at hi
      obtain ⟨b1, b2, b3, b4⟩ := I.lk i l hi
      refine ⟨b1, b2, ⟨b3.ok, ?_, b3.known, fun ho => ?_⟩, fun y hy ey => ?_⟩
      · obtain ⟨y, hy, r⟩ := b3.at_
        obtain ⟨i2, hi2⟩ := List.getElem?_of_mem hy
        refine ⟨y, mem_set_ne hi2 fun z => ?_, r⟩
        subst z
        rw [hj] at hi2
        cases hi2
        exact e (b2.symm.trans (r.1.symm.trans (e1.trans a2)))
      · obtain ⟨y, hy, f1, f2⟩ := b3.over ho
        obtain ⟨y', h1, h2, h3, _⟩ := mem y hy
        exact ⟨y', h1, h2.trans f1, by rw [h3]; exact f2⟩
      · obtain ⟨y0, hy0, f1, f2, _⟩ := back y hy
        rw [f2]
        exact b4 y0 hy0 (f1.symm.trans ey)
  · obtain ⟨y0, hy0, f1, f2, _⟩ := back y hy
    rw [f1, f2]
    exact I.cnt y0 hy0
theorem WInv.press (I : WInv m B ses ev w) {n : Nat} {k : Lk} {z : Str} (hk : sOf n w.looks = some k) (hl : k.left = false) (hz : ∀ c ∈ z.cps.toList, isK c = true) (hB : B + z.length < 1000000) :
    DoOk w (.press n z) ∧ ∃ j x, ses[j]? = some x ∧ x.n = n ∧ x.s = k.session ∧ x.p = k.pane ∧ WInv m (B + z.length) (ses.set j { x with ty := x.ty ++ z.cps.toList }) ev (w.doS (.press n z)) := by
  obtain ⟨a1, a2, a3, a4⟩ := I.lk n k hk
  obtain ⟨x, hx, e1, e2, e3, e4, e5, e6⟩ := a3.at_
  obtain ⟨j, hj⟩ := List.getElem?_of_mem hx
  have hty := I.ty_le hx
  have hdn := I.net.dn x hx
  have hs : k.signs.length = x.ty.length - k.done := by rw [slen, e5, List.length_drop]
  have hzl : z.length = z.cps.toList.length := slen
  have ed : w.doS (.press n z) = { w with looks := putS w.looks n { k with signs := k.signs ++ z } } := by
    show w.onLook n _ = _
    unfold Wd.onLook
    rw [hk]
  refine ⟨⟨k, hk, hl, I.over hk, hz, by omega⟩, j, x, hj, e1.trans a2, e2, e3, ?_⟩
  rw [ed]
  have hcat : ({ k with signs := k.signs ++ z } : Lk).signs.cps.toList = x.ty.drop k.done ++ z.cps.toList := by
    show (k.signs ++ z).cps.toList = _
    rw [show (k.signs ++ z).cps.toList = k.signs.cps.toList ++ z.cps.toList from Array.toList_append, e5]
  refine I.upd hk hj e1 e2 rfl rfl rfl rfl id ⟨z.cps.toList, rfl, hz, by omega⟩ a2 rfl ⟨⟨a3.ok.look, a3.ok.size, fun c hc => ?_, ?_, a3.ok.rows, a3.ok.rok, a3.ok.line⟩, ⟨_, set_mem_self hj, e1, e2, e3, e4, ?_, e6⟩, a3.known, fun ho => ?_⟩
  · rw [hcat] at hc
    rcases List.mem_append.mp hc with hc | hc
    · exact (I.net.ok x hx).2.2.2.2 c (List.mem_of_mem_drop hc)
    · exact hz c hc
  · show k.done + (k.signs ++ z).length < 1000000
    rw [Str.length_append]
    omega
  · rw [hcat]
    show _ = (x.ty ++ z.cps.toList).drop k.done
    rw [List.drop_append_of_le_length (by omega)]
  · have := I.over hk
    have ho : k.over = true := ho
    rw [this] at ho
    cases ho
theorem WInv.size (I : WInv m B ses ev w) {n wd hg : Nat} {k : Lk} (hk : sOf n w.looks = some k) (hz : SizeOk wd hg) : DoOk w (.size n wd hg) ∧ WInv m B ses ev (w.doS (.size n wd hg)) := by
  obtain ⟨a1, a2, a3, a4⟩ := I.lk n k hk
  obtain ⟨x, hx, e1, e2, e3, e4, e5, e6⟩ := a3.at_
  obtain ⟨j, hj⟩ := List.getElem?_of_mem hx
  have ed : w.doS (.size n wd hg) = { w with looks := putS w.looks n { k with wide := wd, high := hg } } := by
    show w.onLook n _ = _
    unfold Wd.onLook
    rw [hk]
  refine ⟨⟨k, hk, hz⟩, ?_⟩
  rw [ed]
  have := I.upd (x' := x) (k' := { k with wide := wd, high := hg }) (B' := B) hk hj e1 e2 rfl rfl rfl rfl id ⟨[], by simp, (fun c hc => nomatch hc), Nat.le_refl _⟩ a2 rfl (by rw [set_same hj]; exact ⟨a3.ok.size_ hz, ⟨x, hx, e1, e2, e3, e4, e5, e6⟩, a3.known, a3.over⟩)
  rw [set_same hj] at this
  exact this
theorem WInv.leave (I : WInv m B ses ev w) {n : Nat} {k : Lk} (hk : sOf n w.looks = some k) : DoOk w (.leave n) ∧ ∃ j x, ses[j]? = some x ∧ x.n = n ∧ WInv m B (ses.set j { x with lf := true }) ev (w.doS (.leave n)) := by
  obtain ⟨a1, a2, a3, a4⟩ := I.lk n k hk
  obtain ⟨x, hx, e1, e2, e3, e4, e5, e6⟩ := a3.at_
  obtain ⟨j, hj⟩ := List.getElem?_of_mem hx
  have ed : w.doS (.leave n) = { w with looks := putS w.looks n { k with left := true } } := by
    show w.onLook n _ = _
    unfold Wd.onLook
    rw [hk]
  refine ⟨⟨k, hk, trivial⟩, j, x, hj, e1.trans a2, ?_⟩
  rw [ed]
  refine I.upd hk hj e1 e2 rfl rfl rfl rfl (fun _ => rfl) ⟨[], by simp, (fun c hc => nomatch hc), Nat.le_refl _⟩ a2 rfl ⟨a3.ok.left_, ⟨_, set_mem_self hj, e1, e2, e3, e4, e5, rfl⟩, a3.known, fun ho => ?_⟩
  have := I.over hk
  have ho : k.over = true := ho
  rw [this] at ho
  cases ho
theorem sOf_filter {α : Type} {n k : Nat} {se : List (Nat × α)} (nod : (se.map (·.1)).Nodup) : sOf k (se.filter fun x => !decide (x.1 = n)) = if k = n then none else sOf k se := by
  have nf : ((se.filter fun x => !decide (x.1 = n)).map (·.1)).Nodup := List.Pairwise.sublist (List.Sublist.map _ List.filter_sublist) nod
  by_cases e : k = n
  · rw [if_pos e]
    cases h : sOf k (se.filter fun x => !decide (x.1 = n)) with
    | none => rfl
    | some v =>
      have := (List.mem_filter.mp (sOf_mem h)).2
      rw [e] at this
      simp at this
  · rw [if_neg e]
    cases h : sOf k se with
    | some v => exact mem_sOf nf (List.mem_filter.mpr ⟨sOf_mem h, by simp [e]⟩)
    | none =>
      cases h2 : sOf k (se.filter fun x => !decide (x.1 = n)) with
      | none => rfl
      | some v =>
        have := mem_sOf nod (List.mem_filter.mp (sOf_mem h2)).1
        rw [h] at this
        cases this
theorem WInv.gone (I : WInv m B ses ev w) {n : Nat} : WInv m B ses ev (w.gone n) := by
  have so := fun k => sOf_filter (k := k) (n := n) I.nod
  refine ⟨I.net, I.many, List.Pairwise.sublist (List.Sublist.map _ List.filter_sublist) I.nod, fun k l hk => ?_, ⟨I.sok.snod, I.sok.s4⟩, I.cnt, I.road⟩
  rw [show sOf k (w.gone n).looks = _ from so k] at hk
  by_cases e : k = n
  · rw [if_pos e] at hk; cases hk
  · rw [if_neg e] at hk
    exact I.lk k l hk
theorem WInv.beat (I : WInv m B ses ev w) : WInv m (B + 1) ses (ev ++ [.beat]) (w.doS .beat) := by
  have N := I.net
  have sg0 : ∀ n s, signsOf n s (ev ++ [Gev.beat]) = signsOf n s ev := fun n s => by
    unfold signsOf
    rw [List.filterMap_append]
    show _ ++ [] = _
    rw [List.append_nil]
  have pa : ∀ {p c rows line}, Past ev p c rows line → Past (ev ++ [Gev.beat]) p c rows line := fun h => h.mono _
  refine ⟨⟨N.m1, N.m3, ?_, N.seat, N.s4, N.snod, N.nod, N.new, N.ok, N.dn, fun x hx => by rw [sg0]; exact N.done x hx, fun g hg => ?_, fun p n s c hg => ?_, ?_⟩, I.many, I.nod, fun n k hk => ?_, ⟨I.sok.snod, I.sok.s4⟩, I.cnt, fun l hl => ?_⟩
  · show w.hall.panes.map Pn.beat = _
    rw [N.panes, List.map_map]
    refine List.map_congr_left fun p _ => ?_
    show (runP p ev).beat = _
    rw [runP_snoc]
    rfl
  · rcases List.mem_append.mp hg with hg | hg
    · exact N.evok g hg
    · rw [List.mem_singleton.mp hg]; trivial
  · rcases List.mem_append.mp hg with hg | hg
    · exact N.evp p n s c hg
    · cases List.mem_singleton.mp hg
  · rw [List.length_append]
    have := N.bud
    show ev.length + 1 + undone ses ≤ B + 1
    omega
  · obtain ⟨a1, a2, a3, a4⟩ := I.lk n k hk
    exact ⟨a1, a2, ⟨a3.ok, a3.at_, fun c hc => pa (a3.known c hc), a3.over⟩, a4⟩
  · have := I.road l hl
    obtain ⟨to, z⟩ := l
    cases to with
    | none => exact this
    | some n =>
      refine ⟨this.1, fun m hm => ?_⟩
      obtain ⟨x, hx, hn, d, c, line, rows, e, e1, e2⟩ := this.2 m hm
      exact ⟨x, hx, hn, d, c, line, rows, e, e1, pa e2⟩
theorem WInv.lose (I : WInv m B ses ev w) {k : Nat} : WInv m B ses ev (w.lose k) := by
  unfold Wd.lose
  by_cases h : k < w.road.length
  · rw [if_pos h]
    exact I.cut fun l hl => I.road l (List.mem_of_mem_eraseIdx hl)
  · rw [if_neg h]; exact I
end
/-- where only one session has signs that wait, just these are done, in turn -/
theorem quiet_one {m B B' : Nat} {ses ses' : List Ses} {ev L : List Gev} {h h' : Hl} (N : Net m B ses ev h) (N' : Net m B' ses' (ev ++ L) h') (le : Le0 ses ev ses' (ev ++ L)) (pL : pressed L) {x : Ses} {d : Nat} (hx : x ∈ ses) (hq : ∀ y ∈ ses, y ≠ x → y.dn = y.ty.length) (hd : { x with dn := d } ∈ ses') :
    L = ((x.ty.take d).drop x.dn).map fun c => Gev.press x.p x.n x.s c := by
  have key : ∀ y ∈ ses, ∀ d', { y with dn := d' } ∈ ses' → signsOf y.n y.s L = (y.ty.take d').drop y.dn := fun y hy d' hd' => by
    have h1 := N'.done _ hd'
    have h2 := N.done y hy
    have h3 : signsOf y.n y.s (ev ++ L) = signsOf y.n y.s ev ++ signsOf y.n y.s L := by unfold signsOf; exact List.filterMap_append
    have h1 : signsOf y.n y.s (ev ++ L) = y.ty.take d' := h1
    rw [h3, h2] at h1
    rw [← h1, List.drop_append_of_le_length (by rw [List.length_take]; have := N.dn y hy; omega), List.drop_of_length_le (by rw [List.length_take]; omega), List.nil_append]
  have all : ∀ g ∈ L, ∃ c, g = Gev.press x.p x.n x.s c := fun g hg => by
    obtain ⟨p, n, s, c, rfl⟩ := pL g hg
    obtain ⟨y', hy', e1, e2, e3⟩ := N'.evp p n s c (List.mem_append_right _ hg)
    obtain ⟨y, hy, d', rfl, l⟩ := le.back hy'
    have e1 : y.n = n := e1
    have e2 : y.s = s := e2
    have e3 : y.p = p := e3
    by_cases hyx : y = x
    · subst hyx
      exact ⟨c, by rw [e1, e2, e3]⟩
    · exfalso
      have h1 := key y hy d' hy'
      rw [hq y hy hyx, List.drop_of_length_le (by rw [List.length_take]; omega)] at h1
      have h2 : c ∈ signsOf y.n y.s L := by
        unfold signsOf
        exact List.mem_filterMap.mpr ⟨_, hg, if_pos ⟨e1.symm, e2.symm⟩⟩
      rw [h1] at h2
      exact nomatch h2
  rw [← key x hx d hd]
  have : ∀ L : List Gev, (∀ g ∈ L, ∃ c, g = Gev.press x.p x.n x.s c) → L = (signsOf x.n x.s L).map fun c => Gev.press x.p x.n x.s c := by
    intro L
    induction L with
    | nil => intro _; rfl
    | cons g r ih =>
      intro h
      obtain ⟨c, rfl⟩ := h g List.mem_cons_self
      have e : signsOf x.n x.s (Gev.press x.p x.n x.s c :: r) = c :: signsOf x.n x.s r := by
        unfold signsOf
        rw [List.filterMap_cons, show signG x.n x.s (Gev.press x.p x.n x.s c) = some c from if_pos ⟨rfl, rfl⟩]
      rw [e, List.map_cons, ← ih fun g hg => h g (List.mem_cons_of_mem _ hg)]
  exact this L all
end Vf
namespace Vf
open PySem PySem.Spec PyProof.Rows L2 Evl GxR
/-! ### settled: what is told then -/
theorem le0_done {m B : Nat} {ses ses' : List Ses} {ev ev' : List Gev} {h h' : Hl} (N : Net m B ses ev h) (N' : Net m B ses' ev' h') (le : Le0 ses ev ses' ev') (hq : ∀ y ∈ ses, y.dn = y.ty.length) : ses' = ses ∧ ev' = ev := by
  constructor
  · refine List.ext_getElem? fun i => ?_
    cases e : ses[i]? with
    | none => exact List.getElem?_eq_none (by rw [le.len]; exact List.getElem?_eq_none_iff.mp e)
    | some x =>
      obtain ⟨d, hd, l⟩ := le.at_ i x e
      have h1 := N'.dn _ (List.mem_of_getElem? hd)
      have h2 := hq x (List.mem_of_getElem? e)
      have h1 : d ≤ x.ty.length := h1
      have : d = x.dn := by omega
      rw [hd, this]
  · obtain ⟨L, rfl, pL⟩ := le.ev
    cases L with
    | nil => simp
    | cons g r =>
      exfalso
      obtain ⟨p, n, s, c, rfl⟩ := pL _ List.mem_cons_self
      obtain ⟨y', hy', e1, e2, e3⟩ := N'.evp p n s c (List.mem_append_right _ List.mem_cons_self)
      obtain ⟨y, hy, d, rfl, l⟩ := le.back hy'
      have h1 := N'.done _ hy'
      have h2 := N.done y hy
      have h3 : signsOf y.n y.s (ev ++ Gev.press p n s c :: r) = signsOf y.n y.s ev ++ signsOf y.n y.s (Gev.press p n s c :: r) := by unfold signsOf; exact List.filterMap_append
      have h1 : signsOf y.n y.s (ev ++ Gev.press p n s c :: r) = y.ty.take d := h1
      rw [h3, h2, hq y hy, List.take_length] at h1
      have h4 := congrArg List.length h1
      rw [List.length_append, List.length_take] at h4
      have e1 : y.n = n := e1
      have e2 : y.s = s := e2
      have h5 : signsOf y.n y.s (Gev.press p n s c :: r) = c :: signsOf y.n y.s r := by
        unfold signsOf
        rw [List.filterMap_cons, show signG y.n y.s (Gev.press p n s c) = some c from if_pos ⟨e1.symm, e2.symm⟩]
      rw [h5, List.length_cons] at h4
      omega
section
variable {m B : Nat} {ses : List Ses} {ev : List Gev} {w : Wd}
theorem WInv.settle0 (I : WInv m B ses ev w) (hB : B ≤ 1000000) (hs : ∀ n k, sOf n w.looks = some k → k.signs.length ≤ 1000) (hq : ∀ y ∈ ses, y.dn = y.ty.length) : WInv m B ses ev w.settle ∧ WStat { w with road := [] } w.settle ∧ w.settle.settled = true := by
  obtain ⟨s1, e1, I1, l1, st, h1, _⟩ := I.settle hB hs
  obtain ⟨rfl, rfl⟩ := le0_done I.net I1.net l1 hq
  exact ⟨I1, st, h1⟩
/-- one session alone has signs that wait: all are done -/
theorem WInv.settle1 (I : WInv m B ses ev w) (hB : B ≤ 1000000) (hs : ∀ n k, sOf n w.looks = some k → k.signs.length ≤ 1000) {j : Nat} {x : Ses} {k : Lk} (hj : ses[j]? = some x) (hk : sOf x.n w.looks = some k) (hks : k.session = x.s) (hkl : k.left = false) (hq : ∀ y ∈ ses, y ≠ x → y.dn = y.ty.length) :
    WInv m B (ses.set j { x with dn := x.ty.length }) (ev ++ (x.ty.drop x.dn).map fun c => Gev.press x.p x.n x.s c) w.settle ∧ WStat { w with road := [] } w.settle ∧ w.settle.settled = true := by
  obtain ⟨s1, e1, I1, l1, st, h1, q1⟩ := I.settle hB hs
  have hx := List.mem_of_getElem? hj
  obtain ⟨⟨y, hy, a1, a2, a3⟩, _⟩ := q1 _ k hk hkl
  obtain ⟨d, hd, hl⟩ := l1.at_ j x hj
  have ey : y = { x with dn := d } := key_eq I1.net.nod hy (List.mem_of_getElem? hd) a1 (a2.trans hks)
  have hdl : d = x.ty.length := by
    rw [ey] at a3
    exact a3
  subst hdl
  obtain ⟨L, rfl, pL⟩ := l1.ev
  have eL := quiet_one I.net I1.net l1 pL hx hq (List.mem_of_getElem? hd)
  rw [List.take_length] at eL
  have es : s1 = ses.set j { x with dn := x.ty.length } := by
    refine List.ext_getElem? fun i => ?_
    by_cases e : j = i
    · subst e
      rw [hd, List.getElem?_set_self (lt_of_get hj)]
    · rw [List.getElem?_set_ne e]
      cases e2 : ses[i]? with
      | none => exact List.getElem?_eq_none (by rw [l1.len]; exact List.getElem?_eq_none_iff.mp e2)
      | some z =>
        obtain ⟨d', hd', hl'⟩ := l1.at_ i z e2
        have hzx : z ≠ x := by
          rintro rfl
          exact e (key_inj I.net.nod hj e2 rfl rfl)
        have h2 := hq z (List.mem_of_getElem? e2) hzx
        have h3 : d' ≤ z.ty.length := I1.net.dn _ (List.mem_of_getElem? hd')
        have : d' = z.dn := by omega
        rw [hd', this]
  rw [← es, ← eL]
  exact ⟨I1, st, h1⟩
/-- a look of a settled world shows what its pane has -/
theorem WInv.shows (I : WInv m B ses ev w) (h : w.settled = true) {n : Nat} {k : Lk} (hk : sOf n w.looks = some k) (hl : k.left = false) :
    k.known = some (runP k.pane ev).log.length ∧ k.signs.length = 0 ∧ k.picture = picture (runP k.pane ev).rows (runP k.pane ev).line k.wide k.high := by
  unfold Wd.settled at h
  have h2 := List.all_eq_true.mp h _ (sOf_mem hk)
  obtain ⟨a1, a2, a3, a4⟩ := I.lk n k hk
  obtain ⟨x, hx, e1, e2, e3, _⟩ := a3.at_
  have hp : k.pane < m := by rw [← e3]; exact (I.net.ok x hx).2.2.2.1
  have h2 : (k.left || k.through (w.hall.ch k.pane)) = true := h2
  rw [hl, Bool.false_or, I.net.ch_ hp] at h2
  unfold Lk.through at h2
  rw [Bool.and_eq_true_iff] at h2
  have hkn := of_decide_eq_true h2.1
  refine ⟨hkn, of_decide_eq_true h2.2, ?_⟩
  obtain ⟨r1, r2⟩ := (a3.known _ hkn).same
  unfold Lk.picture
  rw [hkn]
  show Vf.picture k.rows k.line k.wide k.high = _
  rw [r1, r2]
end
theorem undone_set {ses : List Ses} {j : Nat} {x : Ses} (nod : (ses.map Ses.key).Nodup) (hj : ses[j]? = some x) (hq : ∀ y ∈ ses, y ≠ x → y.dn = y.ty.length) : ∀ y ∈ ses.set j { x with dn := x.ty.length }, y.dn = y.ty.length := fun y hy => by
  rcases set_mem hy with rfl | ⟨i, hi, hi2⟩
  · rfl
  · refine hq y (List.mem_of_getElem? hi2) fun z => ?_
    subst z
    exact hi (key_inj nod hi2 hj rfl rfl)
/-! steps told one by one -/
def RunOk (w : Wd) (sts : List Stp) : Prop := ∀ i st, sts[i]? = some st → DoOk ((sts.take i).foldl Wd.doS w) st
theorem RunOk.nil {w : Wd} : RunOk w [] := fun i st h => by simp at h
theorem RunOk.cons {w : Wd} {st : Stp} {r : List Stp} (h : DoOk w st) (k : RunOk (w.doS st) r) : RunOk w (st :: r) := fun i s hi => by
  cases i with
  | zero => cases hi; exact h
  | succ i => exact k i s hi
theorem WInv.doSettle {m B : Nat} {ses : List Ses} {ev : List Gev} {w : Wd} (I : WInv m B ses ev w) (hB : B ≤ 1000000) (hr : w.road.length < 800000) : DoOk w .settle := ⟨Safe m B, ⟨⟨ses, ev, I⟩, hr⟩, safe_round hB⟩
def stepsA (q : Addr) (vs : List V) (sts : List Stp) : Prd := fun fp H => fp = [q] ∧ H q = some (.lst vs) ∧ Tups H vs (sts.map Stp.vals)
theorem stepsT (q : Addr) (vs : List V) (sts : List Stp) : Thing (stepsA q vs sts) := by
  refine ⟨fun fp H H' ⟨e, h, t⟩ te k => ⟨e, ?_, t.mono te⟩, fun fp H ⟨e, h, t⟩ b hb => ?_⟩
  · subst e
    rw [k q (by simp)]
    exact h
  · subst e
    rw [List.mem_singleton.mp hb]
    exact ⟨_, h, fun _ z => by cases z⟩
theorem steps_get {As : List Prd} {H0 H : Hp} {i : Nat} {q : Addr} {vs : List V} {sts : List Stp} (h : Sep As H0 H) (e : As[i]? = some (stepsA q vs sts)) : H q = some (.lst vs) ∧ Tups H vs (sts.map Stp.vals) := by
  obtain ⟨fp, n, rfl, h, t⟩ := h.get e
  exact ⟨h, t⟩
theorem steps_new {B : Prd} {H0 G G' : Hp} {q : Addr} {vs : List V} {sts : List Stp} (TB : Thing B) (b : Beh B H0 G) (x : Ex G G') (nq : G' q = none) (t : Tups G' vs (sts.map Stp.vals)) : Sep [stepsA q vs sts, B] H0 (upd G' q (.lst vs)) :=
  Sep.cons (Things.cons TB Things.nil) (Sep.one b) ⟨x.trans (Ex.new nq), [q], (fun a ha => by rw [List.mem_singleton.mp ha]; exact exf x nq), rfl, upd_same, t.mono (TupEx.new nq)⟩
end Vf
namespace Vf
open PySem PySem.Spec PyProof.Rows L2 Evl GxR
/-! ### looks that are there -/
def Live (w : Wd) (n s pn wd hg : Nat) : Prop := ∃ k, sOf n w.looks = some k ∧ k.session = s ∧ k.pane = pn ∧ k.wide = wd ∧ k.high = hg ∧ k.left = false
section
variable {m B : Nat} {ses : List Ses} {ev : List Gev} {w w' : Wd} {n s pn wd hg : Nat}
theorem Live.stat (h : Live w n s pn wd hg) (st : WStat w w') : Live w' n s pn wd hg := by
  obtain ⟨k, h1, h2, h3, h4, h5, h6⟩ := h
  obtain ⟨k', g1, g2⟩ := st.at_ n k h1
  exact ⟨k', g1, g2.session.trans h2, g2.pane.trans h3, g2.wide.trans h4, g2.high.trans h5, g2.left.trans h6⟩
theorem Live.road {r : List (Option Nat × Str)} (h : Live w n s pn wd hg) : Live { w with road := r } n s pn wd hg := h
theorem live_come (nod : (w.looks.map (·.1)).Nodup) : Live (w.come n pn wd hg) n (w.next n) pn wd hg :=
  ⟨Lk.new n (w.next n) pn wd hg, (sOf_putS nod n).trans (if_pos rfl), rfl, rfl, rfl, rfl, rfl⟩
theorem live_come_ne {j a b c d : Nat} (nod : (w.looks.map (·.1)).Nodup) (h : Live w n s pn wd hg) (ne : ¬ n = j) : Live (w.come j a b c) n s pn wd hg := by
  obtain ⟨k, h1, h2⟩ := h
  exact ⟨k, ((sOf_putS nod n).trans (if_neg ne)).trans h1, h2⟩
theorem live_on {j : Nat} {f : Lk → Lk} (nod : (w.looks.map (·.1)).Nodup) (h : Live w n s pn wd hg) (hf : ∀ k : Lk, Stat k (f k)) : Live (w.onLook j f) n s pn wd hg := by
  obtain ⟨k, h1, h2, h3, h4, h5, h6⟩ := h
  unfold Wd.onLook
  cases e : sOf j w.looks with
  | none => exact ⟨k, h1, h2, h3, h4, h5, h6⟩
  | some l =>
    by_cases ne : n = j
    · subst ne
      rw [h1] at e
      cases e
      have g := hf k
      exact ⟨f k, (sOf_putS nod n).trans (if_pos rfl), g.session.trans h2, g.pane.trans h3, g.wide.trans h4, g.high.trans h5, g.left.trans h6⟩
    · exact ⟨k, ((sOf_putS nod n).trans (if_neg ne)).trans h1, h2, h3, h4, h5, h6⟩
theorem live_press {j : Nat} {z : Str} (nod : (w.looks.map (·.1)).Nodup) (h : Live w n s pn wd hg) : Live (w.doS (.press j z)) n s pn wd hg := live_on nod h fun _ => ⟨rfl, rfl, rfl, rfl, rfl, rfl⟩
theorem WInv.sg_le (I : WInv m B ses ev w) {k : Lk} (hk : sOf n w.looks = some k) : k.signs.length ≤ B := by
  obtain ⟨a1, a2, a3, a4⟩ := I.lk n k hk
  obtain ⟨x, hx, e1, e2, e3, e4, e5, e6⟩ := a3.at_
  have := I.ty_le hx
  rw [slen, e5, List.length_drop]
  omega
theorem WInv.pressAt (I : WInv m B ses ev w) (h : Live w n s pn wd hg) {j : Nat} {x : Ses} (hj : ses[j]? = some x) (e1 : x.n = n) (e2 : x.s = s) {z : Str} (hz : ∀ c ∈ z.cps.toList, isK c = true) (hB : B + z.length < 1000000) :
    DoOk w (.press n z) ∧ WInv m (B + z.length) (ses.set j { x with ty := x.ty ++ z.cps.toList }) ev (w.doS (.press n z)) := by
  obtain ⟨k, h1, h2, h3, h4, h5, h6⟩ := h
  obtain ⟨d, j', x', hj', f1, f2, f3, I'⟩ := I.press h1 h6 hz hB
  have ej : j' = j := key_inj I.net.nod hj' hj (f1.trans e1.symm) (f2.trans (h2.trans e2.symm))
  subst ej
  rw [hj] at hj'
  cases hj'
  exact ⟨d, I'⟩
theorem WInv.settleAt (I : WInv m B ses ev w) (hB : B ≤ 1000000) (hs : ∀ n k, sOf n w.looks = some k → k.signs.length ≤ 1000) {j : Nat} {x : Ses} (hj : ses[j]? = some x) (h : Live w x.n x.s pn wd hg) (hq : ∀ y ∈ ses, y ≠ x → y.dn = y.ty.length) :
    WInv m B (ses.set j { x with dn := x.ty.length }) (ev ++ (x.ty.drop x.dn).map fun c => Gev.press x.p x.n x.s c) w.settle ∧ WStat { w with road := [] } w.settle ∧ w.settle.settled = true := by
  obtain ⟨k, h1, h2, h3, h4, h5, h6⟩ := h
  exact I.settle1 hB hs hj h1 h2 h6 hq
theorem WInv.showsAt (I : WInv m B ses ev w) (h : w.settled = true) (hl : Live w n s pn wd hg) : ∃ k, sOf n w.looks = some k ∧ k.name = n ∧ k.session = s ∧ k.known = some (runP pn ev).log.length ∧ k.signs.length = 0 ∧ k.picture = picture (runP pn ev).rows (runP pn ev).line wd hg := by
  obtain ⟨k, h1, h2, h3, h4, h5, h6⟩ := hl
  obtain ⟨a1, a2, _⟩ := I.lk n k h1
  obtain ⟨g1, g2, g3⟩ := I.shows h h1 h6
  rw [h3, h4, h5] at g3
  rw [h3] at g1
  exact ⟨k, h1, a2, h2, g1, g2, g3⟩
end
end Vf
namespace Vf
open PySem PySem.Spec PyProof.Rows L2 Evl GxR
/-- new tuples of steps behind a heap -/
structure TupsNew (G G' : Hp) (vs : List V) (sts : List Stp) : Prop where
  ex : Ex G G'
  tups : Tups G' vs (sts.map Stp.vals)
theorem tn_nil (G : Hp) : TupsNew G G [] [] := ⟨Ex.refl G, trivial⟩
theorem TupsNew.snoc {G G' : Hp} {vs : List V} {sts : List Stp} {t : Addr} {st : Stp} (h : TupsNew G G' vs sts) (n : G' t = none) : TupsNew G (upd G' t (.tup st.vals)) (vs ++ [.ref t]) (sts ++ [st]) := by
  refine ⟨h.ex.trans (Ex.new n), ?_⟩
  rw [List.map_append]
  exact Tups.snoc upd_same (h.tups.mono (TupEx.new n))
theorem TupsNew.snocL {G G' : Hp} {vs : List V} {sts : List Stp} {t : Addr} {st : Stp} {xs : List V} (h : TupsNew G G' vs sts) (n : G' t = none) (e : xs = st.vals) : TupsNew G (upd G' t (.tup xs)) (vs ++ [.ref t]) (sts ++ [st]) := by
  subst e
  exact h.snoc n
theorem TupsNew.listL {B : Prd} {H0 G G' : Hp} {q : Addr} {vs vs' : List V} {sts sts' : List Stp} (h : TupsNew G G' vs sts) (e1 : vs' = vs) (e2 : sts' = sts) (TB : Thing B) (b : Beh B H0 G) (nq : G' q = none) : Sep [stepsA q vs' sts', B] H0 (upd G' q (.lst vs')) := by
  subst e1 e2
  exact steps_new TB b h.ex nq h.tups
theorem TupsNew.ext {G G' G2 : Hp} {vs : List V} {sts : List Stp} (h : TupsNew G G' vs sts) (e : Ex G' G2) : TupsNew G G2 vs sts := ⟨h.ex.trans e, h.tups.mono (TupEx.ex e)⟩
theorem TupsNew.list {B : Prd} {H0 G G' : Hp} {q : Addr} {vs : List V} {sts : List Stp} (h : TupsNew G G' vs sts) (TB : Thing B) (b : Beh B H0 G) (nq : G' q = none) : Sep [stepsA q vs sts, B] H0 (upd G' q (.lst vs)) := steps_new TB b h.ex nq h.tups
end Vf
namespace Vf
open PySem PySem.Spec PyProof.Rows L2 Evl GxR
/-! ### the beginnings of letters -/
def OfL (z : Str) : Prop := ∃ b : List Nat, (∀ c ∈ b, isS c = true) ∧ z.cps.toList <+: lett b
theorem lett_pre (b : List Nat) : ∃ pre, lett b = pre ++ [33] ∧ ((∀ c ∈ b, isS c = true) → 33 ∉ pre) := by
  refine ⟨TL.numL b.length ++ (46 :: (TL.numL (sumN b) ++ (46 :: b))), by unfold lett; simp, fun h k => ?_⟩
  rcases List.mem_append.mp k with k | k
  · have := TL.numL_digits _ _ k
    omega
  · rcases List.mem_cons.mp k with k | k
    · cases k
    · rcases List.mem_append.mp k with k | k
      · have := TL.numL_digits _ _ k
        omega
      · rcases List.mem_cons.mp k with k | k
        · cases k
        · have := h _ k
          rw [sgn_facts.2.1] at this
          cases this
theorem lett_in {b b' : List Nat} (h : ∀ c ∈ b, isS c = true) (p : lett b' <+: lett b) : lett b' = lett b := by
  obtain ⟨pre, e, n⟩ := lett_pre b
  obtain ⟨pre', e', _⟩ := lett_pre b'
  obtain ⟨t, ht⟩ := p
  rw [e, e'] at ht
  rw [e, e']
  rcases List.eq_nil_or_concat t with rfl | ⟨t, x, rfl⟩
  · rw [List.append_nil] at ht; exact ht
  · rw [List.concat_eq_append, ← List.append_assoc] at ht
    have h1 := (List.append_inj' ht rfl).1
    exact absurd (by rw [← h1]; simp) (n h)
theorem unp_some {l : List Nat} {fs : List Str} (h : unpL l = some fs) : ∃ b, (∀ c ∈ b, isS c = true) ∧ l = lett b := by
  unfold unpL at h
  split at h
  · rename_i k
    rw [Bool.and_eq_true] at k
    exact ⟨_, fun c hc => List.all_eq_true.mp k.1 c hc, (of_decide_eq_true k.2).symm⟩
  · cases h
theorem unp_short {l b : List Nat} (hb : ∀ c ∈ b, isS c = true) (p : l <+: lett b) (n : l ≠ lett b) : unpL l = none := by
  cases h : unpL l with
  | none => rfl
  | some fs =>
    obtain ⟨b', _, rfl⟩ := unp_some h
    exact absurd (lett_in hb p) n
theorem readLook_none {l : List Nat} (h : unpL l = none) : readLook l = none := by unfold readLook; rw [h]
theorem readHall_none {l : List Nat} (h : unpL l = none) : readHall l = none := by unfold readHall; rw [h]
theorem readLook_of {l : List Nat} {m : Str × List Nat × Str} (h : readLook l = some m) : OfL (txt l) := by
  cases e : unpL l with
  | none => rw [readLook_none e] at h; cases h
  | some fs =>
    obtain ⟨b, hb, rfl⟩ := unp_some e
    exact ⟨b, hb, by rw [txt_cps]; exact List.prefix_refl _⟩
theorem readHall_of {l : List Nat} {m : List Nat × Str × List Str} (h : readHall l = some m) : OfL (txt l) := by
  cases e : unpL l with
  | none => rw [readHall_none e] at h; cases h
  | some fs =>
    obtain ⟨b, hb, rfl⟩ := unp_some e
    exact ⟨b, hb, by rw [txt_cps]; exact List.prefix_refl _⟩
theorem cut_to {z : Str} {n : Nat} : (cutS z none (some (n : Int))).cps.toList = z.cps.toList.take n := by
  unfold cutS
  rw [HT.sIx_nat, HT.sIx_none]
  have hz : z.length = z.cps.toList.length := by show z.cps.size = _; simp
  show (z.cps.toList.drop 0).take (min n z.length - 0) = _
  rw [List.drop_zero, Nat.sub_zero, hz]
  by_cases h : n ≤ z.cps.toList.length
  · rw [Nat.min_eq_left h]
  · rw [Nat.min_eq_right (by omega), List.take_of_length_le (Nat.le_refl _), List.take_of_length_le (by omega)]
theorem str_ext {a b : Str} (h : a.cps.toList = b.cps.toList) : a = b := by
  have := congrArg List.toArray h
  cases a
  cases b
  simpa using this
theorem cut_either {z : Str} {n : Nat} (h : OfL z) : cutS z none (some (n : Int)) = z ∨ unpL (cutS z none (some (n : Int))).cps.toList = none := by
  obtain ⟨b, hb, p⟩ := h
  by_cases e : z.cps.toList.take n = z.cps.toList
  · exact .inl (str_ext (cut_to.trans e))
  · refine .inr (unp_short hb ?_ ?_)
    · rw [cut_to]
      exact (List.take_prefix _ _).trans p
    · rw [cut_to]
      intro k
      refine e ((List.take_prefix _ _).eq_of_length ?_)
      have h1 := (List.take_prefix n z.cps.toList).length_le
      have h2 := p.length_le
      rw [k] at h1 ⊢
      omega
theorem cut_ofL {z : Str} {n : Nat} (h : OfL z) : OfL (cutS z none (some (n : Int))) := by
  obtain ⟨b, hb, p⟩ := h
  exact ⟨b, hb, by rw [cut_to]; exact (List.take_prefix _ _).trans p⟩
theorem cut_lenle {z : Str} {n : Nat} : (cutS z none (some (n : Int))).length ≤ z.length := by
  rw [slen, slen, cut_to, List.length_take]
  omega
section
variable {ses : List Ses} {ev : List Gev}
theorem LetI.cutL {l : Option Nat × Str} {n : Nat} (L : LetI ses ev l) (o : OfL l.2) : LetI ses ev (l.1, cutS l.2 none (some (n : Int))) := by
  obtain ⟨to, z⟩ := l
  rcases cut_either (n := n) o with e | e
  · rw [show (to, z).2 = z from rfl] at e ⊢
    rw [e]
    exact L
  · cases to with
    | none =>
      have L : LetH ses z := L
      exact ⟨Nat.le_trans cut_lenle L.1, fun m hm => by rw [readLook_none e] at hm; cases hm⟩
    | some k =>
      have L : LetL ses ev k z := L
      exact ⟨Nat.le_trans cut_lenle L.1, fun m hm => by rw [readHall_none e] at hm; cases hm⟩
theorem Lki.ofL {k : Lk} (I : Lki ses ev k) {l : List Nat} (hl : l ∈ k.letters) : OfL (txt l) := by
  unfold Lk.letters at hl
  by_cases h1 : k.over = true
  · rw [if_pos h1] at hl; exact nomatch hl
  rw [if_neg h1] at hl
  by_cases h2 : k.left = true
  · rw [if_pos h2] at hl
    obtain rfl := List.mem_singleton.mp hl
    exact readLook_of (look_back (.inr rfl) rfl (I.nums (f := 0) (by decide)) fld_empty)
  · rw [if_neg h2] at hl
    obtain ⟨i, hi, rfl⟩ := List.mem_map.mp hl
    have hi2 := List.mem_range.mp hi
    have hlen := I.ok.len
    have hf : k.done + i * 1000 < 10000000 := by
      unfold letterN at hi2
      omega
    exact readLook_of (look_back (.inl rfl) rfl (I.nums (f := k.done + i * 1000) hf) (cut_fld I.ok.signs))
theorem Net.ofL {m B : Nat} {h : Hl} (N : Net m B ses ev h) (hB : B ≤ 1000000) {n : Nat} (hn : n ∈ h.names) : OfL (txt (h.letterL n)) := by
  obtain ⟨_, _, _, _, _, _, _, _, _, hr⟩ := N.letter hB hn
  exact readHall_of hr
theorem WInv.sentOf {m B : Nat} {w : Wd} (I : WInv m B ses ev w) (hB : B ≤ 1000000) : ∀ l ∈ w.sent, OfL l.2 := fun l hl => by
  unfold Wd.sent at hl
  rcases List.mem_append.mp hl with hl | hl
  · obtain ⟨n, hn, hl⟩ := List.mem_flatMap.mp hl
    unfold Wd.toHall at hl
    cases e : sOf n w.looks with
    | none => rw [e] at hl; exact nomatch hl
    | some k =>
      rw [e] at hl
      obtain ⟨t, ht, rfl⟩ := List.mem_map.mp hl
      exact (I.lk n k e).2.2.1.ofL ht
  · obtain ⟨n, hn, rfl⟩ := List.mem_map.mp hl
    exact I.net.ofL hB hn
end
end Vf
namespace Vf
open PySem PySem.Spec PyProof.Rows L2 Evl GxR
/-! ### what panes tell, as data -/
theorem goodS {ss : List Str} (hl : ss.length ≤ 16777216) (h : ∀ z ∈ ss, Asc z) : good 1 (.list (ss.map PyData.str)) = true := by
  show (decide ((ss.map PyData.str).length ≤ 16777216) && (ss.map PyData.str).all (good 0)) = true
  rw [List.length_map, decide_eq_true hl, Bool.true_and, List.all_eq_true]
  intro d hd
  obtain ⟨z, hz, rfl⟩ := List.mem_map.mp hd
  exact lay_str (h z hz)
def jobD : Option (Int × Int) → PyData
  | none => .none
  | some (b, n) => .tuple [.int b, .int n]
theorem JobAt.dp {K : PySem.W.Frag} {H : Hp} {jv : V} : ∀ {j : Option (Int × Int)}, JobAt H jv j → Dp K H jv (jobD j)
  | none, h => by rw [show jv = .non from h]; exact .non
  | some (b, n), ⟨a, h, k⟩ => by rw [h]; exact .tup (SqT.of k) (.cons (.int b) (.cons (.int n) .nil))
def TyV (x : List V) : Prop := ∃ (i j : Int) (c : Nat), x = [.int i, .int j, .str (sg c)] ∧ c < 128
def tyD : List V → PyData
  | [.int i, .int j, .str z] => .tuple [.int i, .int j, .str z]
  | [.str a, .str b] => .tuple [.str a, .str b]
  | _ => .none
theorem Tups.dp {K : PySem.W.Frag} {H : Hp} {f : List V → PyData} : ∀ {vs : List V} {xs : List (List V)}, Tups H vs xs → (∀ x ∈ xs, ∀ a, H a = some (.tup x) → Dp K H (.ref a) (f x)) → DpAll K H vs (xs.map f)
  | [], [], _, _ => .nil
  | v :: vs, x :: xs, h, k => by
    obtain ⟨a, h1, h2⟩ := h.1
    rw [h1]
    exact .cons (k x (List.mem_cons_self ..) a h2) (Tups.dp h.2 fun y hy => k y (List.mem_cons_of_mem _ hy))
  | [], _ :: _, h, _ => h.elim
  | _ :: _, [], h, _ => h.elim
theorem dp_typed {K : PySem.W.Frag} {H : Hp} {vs : List V} {xs : List (List V)} (h : Tups H vs xs) (k : ∀ x ∈ xs, TyV x) : DpAll K H vs (xs.map tyD) :=
  h.dp fun x hx a ha => by
    obtain ⟨i, j, c, rfl, _⟩ := k x hx
    exact .tup (SqT.of ha) (.cons (.int i) (.cons (.int j) (.cons (.str _) .nil)))
theorem dp_log {K : PySem.W.Frag} {H : Hp} {vs : List V} {cs : List (Str × Str)} (h : Tups H vs (cs.map chV)) : DpAll K H vs ((cs.map chV).map tyD) :=
  h.dp fun x hx a ha => by
    obtain ⟨c, _, rfl⟩ := List.mem_map.mp hx
    exact .tup (SqT.of ha) (.cons (.str _) (.cons (.str _) .nil))
theorem good_typed {xs : List (List V)} (hl : xs.length ≤ 16777216) (k : ∀ x ∈ xs, TyV x) : good 2 (.list (xs.map tyD)) = true := by
  show (decide ((xs.map tyD).length ≤ 16777216) && (xs.map tyD).all (good 1)) = true
  rw [List.length_map, decide_eq_true hl, Bool.true_and, List.all_eq_true]
  intro e he
  obtain ⟨x, hx, rfl⟩ := List.mem_map.mp he
  obtain ⟨i, j, c, rfl, hc⟩ := k x hx
  show (decide (3 ≤ 16777216) && (true && (true && (PyData.canLay0 (.str (sg c)) && true)))) = true
  rw [lay_str (asc_sg hc)]
  rfl
theorem good_log {cs : List (Str × Str)} (hl : cs.length ≤ 16777216) (k : ∀ c ∈ cs, Asc c.1 ∧ Asc c.2) : good 3 (.list ((cs.map chV).map tyD)) = true := by
  show (decide (((cs.map chV).map tyD).length ≤ 16777216) && ((cs.map chV).map tyD).all (good 2)) = true
  rw [List.length_map, List.length_map, decide_eq_true hl, Bool.true_and, List.all_eq_true]
  intro e he
  obtain ⟨x, hx, rfl⟩ := List.mem_map.mp he
  obtain ⟨c, hc, rfl⟩ := List.mem_map.mp hx
  show (decide (2 ≤ 16777216) && (PyData.canLay0 (.str c.1) && (PyData.canLay0 (.str c.2) && true))) = true
  rw [lay_str (k c hc).1, lay_str (k c hc).2]
  rfl
def paneD (s : Pn) : PyData := .tuple [.list (s.rows.map PyData.str), .str s.line, jobD s.job, .int (s.log.length : Nat)]
theorem good_paneD {s : Pn} (O : POk s) : good 3 (.list [paneD s]) = true := by
  have g1 : good 1 (.list (s.rows.map PyData.str)) = true := goodS (Nat.le_trans O.rows (by decide)) fun z hz => (O.rasc z hz).1
  have gj : good 1 (jobD s.job) = true := by
    cases s.job with
    | none => rfl
    | some x => obtain ⟨b, n⟩ := x; rfl
  show (decide (1 ≤ 16777216) && ((decide (4 ≤ 16777216) && (good 1 (.list (s.rows.map PyData.str)) && (PyData.canLay0 (.str s.line) && (good 1 (jobD s.job) && (true && true))))) && true)) = true
  rw [g1, lay_str O.lasc, gj]
  rfl
theorem good_typed3 {xs : List (List V)} (hl : xs.length ≤ 16777216) (k : ∀ x ∈ xs, TyV x) : good 3 (.list (xs.map tyD)) = true := by
  show (decide ((xs.map tyD).length ≤ 16777216) && (xs.map tyD).all (good 2)) = true
  rw [List.length_map, decide_eq_true hl, Bool.true_and, List.all_eq_true]
  intro e he
  obtain ⟨x, hx, rfl⟩ := List.mem_map.mp he
  obtain ⟨i, j, c, rfl, hc⟩ := k x hx
  show (decide (3 ≤ 16777216) && (true && (true && (PyData.canLay0 (.str (sg c)) && true)))) = true
  rw [lay_str (asc_sg hc)]
  rfl
theorem pcs_ascM {w : Nat} (hw : 1 ≤ w) {z y : Str} (h : Asc z) (hy : y ∈ pcs w z) : Asc y := by
  obtain ⟨l, hl, rfl⟩ := List.mem_map.mp hy
  intro c hc
  have hc2 : c ∈ l := by
    have e : (txt l).cps.toList = l := txt_cps l
    rw [← e]
    exact hc
  exact h c (piece_len hw hl c hc2)
theorem pic_ascM {rows : List Str} {line : Str} {w h : Nat} (hw : 1 ≤ w) (hr : ∀ z ∈ rows, Asc z) (hl : Asc line) : ∀ y ∈ picture rows line w h, Asc y := by
  intro y hy
  obtain ⟨z, hz, hy⟩ := List.mem_flatMap.mp (List.mem_of_mem_drop hy)
  refine pcs_ascM hw ?_ hy
  rcases List.mem_append.mp hz with hz | hz
  · exact hr z hz
  · rw [List.mem_singleton.mp hz]
    intro c hc
    have e : (("> " : Str) ++ line).cps.toList = ("> " : Str).cps.toList ++ line.cps.toList := by
      show (("> " : Str).cps ++ line.cps).toList = _
      simp
    rw [e] at hc
    rcases List.mem_append.mp hc with hc | hc
    · exact (show ∀ c ∈ ("> " : Str).cps.toList, c < 128 by decide +kernel) c hc
    · exact hl c hc
theorem pic_lenM {rows : List Str} {line : Str} {w h : Nat} : (picture rows line w h).length ≤ h := by
  unfold picture
  rw [List.length_drop]
  omega
theorem keys_ofM {α : Type} {se : List (Nat × α)} {ks : List Nat} (h : se.map (·.1) = ks) : keysOf se = (List.range 4).filter fun n => decide (n ∈ ks) := by
  unfold keysOf
  refine List.filter_congr fun n _ => ?_
  rw [← h]
  have e := ix_isSome (n := n) (xs := se)
  cases h1 : (ixOf n se).isSome with
  | true => exact (decide_eq_true (e.mp h1)).symm
  | false => exact (decide_eq_false fun k => by rw [e.mpr k] at h1; cases h1).symm
theorem good_panes {ps : List Pn} (hl : ps.length ≤ 16777216) (h : ∀ s ∈ ps, POk s) : good 3 (.list (ps.map paneD)) = true := by
  show (decide ((ps.map paneD).length ≤ 16777216) && (ps.map paneD).all (good 2)) = true
  rw [List.length_map, decide_eq_true hl, Bool.true_and, List.all_eq_true]
  intro e he
  obtain ⟨s, hs, rfl⟩ := List.mem_map.mp he
  have g := good_paneD (h s hs)
  have g : (decide (1 ≤ 16777216) && (good 2 (paneD s) && true)) = true := g
  rw [Bool.and_eq_true, Bool.and_eq_true] at g
  exact g.2.1
theorem PanesT.dp {K : PySem.W.Frag} {H : Hp} : ∀ {ps : List Pn} {us : List V}, PanesT H us ps → DpAll K H us (ps.map paneD)
  | [], [], _ => .nil
  | [], _ :: _, h => by cases h.1
  | _ :: _, [], h => by cases h.1
  | s :: ps, v :: us, h => by
    obtain ⟨t, r, jv, rfl, ht, hr, hj⟩ := h.2 0 v s rfl rfl
    refine .cons (.tup (SqT.of ht) (.cons (.lst (SqL.of hr) (dp_strs _)) (.cons (.str _) (.cons hj.dp (.cons (.int _) .nil))))) ?_
    exact PanesT.dp ⟨Nat.succ.inj h.1, fun i v x h1 h2 => h.2 (i + 1) v x h1 h2⟩
theorem PanesT.ex {H H' : Hp} {us : List V} {ps : List Pn} (h : PanesT H us ps) (e : Ex H H') : PanesT H' us ps := by
  refine ⟨h.1, fun i v s h1 h2 => ?_⟩
  obtain ⟨t, r, jv, a1, a2, a3, a4⟩ := h.2 i v s h1 h2
  exact ⟨t, r, jv, a1, e _ _ a2, e _ _ a3, a4.ex e⟩
theorem doLine_typed {s : Pn} : s.doLine.typed = s.typed := (congrArg Pn.typed (doLine_typ (s := s) (T := s.typed)) : (typ s s.typed).doLine.typed = (typ s.doLine s.typed).typed)
theorem setLine_typed {s : Pn} {x : Str} : (s.setLine x).typed = s.typed := (congrArg Pn.typed (setLine_typ (s := s) (T := s.typed) (x := x)) : ((typ s s.typed).setLine x).typed = (typ (s.setLine x) s.typed).typed)
theorem press_typedP {s : Pn} {x y : V} {c : Nat} : (s.press x y c).typed = lst 100 (s.typed ++ [[x, y, .str (sg c)]]) := by
  unfold Pn.press
  show (if sg c = ";" then (typ s (lst 100 (s.typed ++ [[x, y, .str (sg c)]]))).doLine else if sg c = "<" then (typ s (lst 100 (s.typed ++ [[x, y, .str (sg c)]]))).setLine (cutS s.line none (some (-1))) else if s.line.length < 30 then (typ s (lst 100 (s.typed ++ [[x, y, .str (sg c)]]))).setLine (s.line ++ sg c) else typ s (lst 100 (s.typed ++ [[x, y, .str (sg c)]]))).typed = _
  split
  · exact doLine_typed
  · split
    · exact setLine_typed
    · split
      · exact setLine_typed
      · rfl
/-- what a pane's list of the typed holds -/
theorem step_typed {p : Nat} {st : Pn} {g : Gev} (h : g.ok) (O : ∀ x ∈ st.typed, TyV x) : ∀ x ∈ (stepP p st g).typed, TyV x := by
  cases g with
  | beat =>
    show ∀ x ∈ st.beat.typed, TyV x
    have e : st.beat.typed = st.typed := by
      unfold Pn.beat
      split <;> rfl
    rw [e]
    exact O
  | press q n s c =>
    show ∀ x ∈ (if q = p then st.press (.int (n : Nat)) (.int (s : Nat)) c else st).typed, TyV x
    split
    · have e : (st.press (.int (n : Nat)) (.int (s : Nat)) c).typed = lst 100 (st.typed ++ [[.int (n : Nat), .int (s : Nat), .str (sg c)]]) := by
        exact press_typedP
      rw [e]
      intro x hx
      rcases List.mem_append.mp (lst_mem hx) with hx | hx
      · exact O x hx
      · rw [List.mem_singleton.mp hx]
        exact ⟨_, _, c, rfl, of_decide_eq_true (List.all_eq_true.mp key_low c (isK_mem.mp h))⟩
    · exact O
theorem run_typed {p : Nat} {ev : List Gev} (h : ∀ g ∈ ev, g.ok) : ∀ x ∈ (runP p ev).typed, TyV x := by
  have : ∀ (ev : List Gev) (st : Pn), (∀ g ∈ ev, g.ok) → (∀ x ∈ st.typed, TyV x) → ∀ x ∈ (ev.foldl (stepP p) st).typed, TyV x := by
    intro ev
    induction ev with
    | nil => intro st _ h; exact h
    | cons g r ih => intro st hg hs; exact ih _ (fun y hy => hg y (List.mem_cons_of_mem _ hy)) (step_typed (hg g List.mem_cons_self) hs)
  exact this ev Pn.new h fun _ h => nomatch h
theorem turn_zero {w : Wd} {k0 : Lk} (h : sOf 0 w.looks = some k0) : ∃ r, w.inTurn = k0 :: r ∧ ∀ s ∈ r, ∃ n, ¬ n = 0 ∧ sOf n w.looks = some s := by
  have i0 : (ixOf 0 w.looks).isSome = true := by
    obtain ⟨i, hi, _⟩ := sOf_get h
    rw [hi]
    rfl
  have e : keysOf w.looks = 0 :: [1, 2, 3].filter fun n => (ixOf n w.looks).isSome := by
    show ([0, 1, 2, 3] : List Nat).filter (fun n => (ixOf n w.looks).isSome) = _
    exact List.filter_cons_of_pos (p := fun n => (ixOf n w.looks).isSome) i0
  refine ⟨([1, 2, 3].filter fun n => (ixOf n w.looks).isSome).map (lkAt w.looks), ?_, fun s hs => ?_⟩
  · unfold Wd.inTurn
    rw [e, List.map_cons]
    congr 1
    unfold lkAt
    rw [h]
    rfl
  · obtain ⟨n, hn, rfl⟩ := List.mem_map.mp hs
    have hm : n ∈ keysOf w.looks := by rw [e]; exact List.mem_cons_of_mem _ hn
    obtain ⟨n4, x, hx⟩ := keys_mem hm
    refine ⟨n, fun z => ?_, ?_⟩
    · have := (List.mem_filter.mp hn).1
      rw [z] at this
      simp at this
    · unfold lkAt
      rw [hx]
      rfl
end Vf
namespace Vf
open PySem PySem.Spec PyProof.Rows L2 Evl GxR
/-! ### own panes that follow the hall's: the mathematics -/
def atP (p : Nat) : Gev → Option (Nat × Nat × Nat)
  | .press q n s c => if q = p then some (n, s, c) else none
  | .beat => none
def typedOf (p : Nat) (ev : List Gev) : List (Nat × Nat × Nat) := ev.filterMap (atP p)
def tv (x : Nat × Nat × Nat) : List V := [.int (x.1 : Nat), .int (x.2.1 : Nat), .str (sg x.2.2)]
def isP : Gev → Bool
  | .press .. => true
  | .beat => false
def pressN (ev : List Gev) : Nat := (ev.filter isP).length
theorem typedOf_app {p : Nat} {a b : List Gev} : typedOf p (a ++ b) = typedOf p a ++ typedOf p b := List.filterMap_append
theorem pressN_app {a b : List Gev} : pressN (a ++ b) = pressN a + pressN b := by unfold pressN; rw [List.filter_append, List.length_append]
theorem typedOf_le {p : Nat} : ∀ ev : List Gev, (typedOf p ev).length ≤ pressN ev
  | [] => Nat.le_refl _
  | .beat :: r => typedOf_le (p := p) r
  | .press q n s c :: r => by
    have ih := typedOf_le (p := p) r
    show ((Gev.press q n s c :: r).filterMap (atP p)).length ≤ (r.filter isP).length + 1
    unfold typedOf at ih
    unfold pressN at ih
    by_cases e : q = p
    · rw [List.filterMap_cons_some (by show (if q = p then _ else _) = some (n, s, c); rw [if_pos e])]
      exact Nat.succ_le_succ ih
    · rw [List.filterMap_cons_none (by show (if q = p then _ else _) = none; rw [if_neg e])]
      exact Nat.le_succ_of_le ih
theorem lst_small {α : Type} {k : Nat} {xs : List α} (h : xs.length ≤ k) : lst k xs = xs := by
  unfold lst
  rw [show xs.length - k = 0 by omega, List.drop_zero]
theorem snoc_ind {α : Type} {P : List α → Prop} (h0 : P []) (hs : ∀ r g, P r → P (r ++ [g])) (l : List α) : P l := by
  rw [← List.reverse_reverse l]
  induction l.reverse with
  | nil => exact h0
  | cons a r ih => rw [List.reverse_cons]; exact hs _ _ ih
theorem run_typedL {p : Nat} : ∀ {ev : List Gev}, pressN ev ≤ 100 → (runP p ev).typed = (typedOf p ev).map tv := by
  intro ev
  refine snoc_ind (P := fun ev => pressN ev ≤ 100 → (runP p ev).typed = (typedOf p ev).map tv) ?_ ?_ ev
  · intro _; rfl
  · intro r g ih h
    rw [pressN_app] at h
    have ih := ih (by omega)
    rw [runP_snoc, typedOf_app, List.map_append, ← ih]
    cases g with
    | beat =>
      show (runP p r).beat.typed = (runP p r).typed ++ []
      rw [List.append_nil]
      unfold Pn.beat
      split <;> rfl
    | press q n s c =>
      show (if q = p then (runP p r).press (.int (n : Nat)) (.int (s : Nat)) c else runP p r).typed = _
      by_cases e : q = p
      · rw [if_pos e, press_typedP]
        have e2 : typedOf p [Gev.press q n s c] = [(n, s, c)] := by
          unfold typedOf
          rw [List.filterMap_cons_some (by show (if q = p then _ else _) = some (n, s, c); rw [if_pos e])]
          rfl
        rw [e2]
        have hl : ((runP p r).typed ++ [tv (n, s, c)]).length ≤ 100 := by
          have h1 := typedOf_le (p := p) r
          have h2 : pressN [Gev.press q n s c] = 1 := rfl
          rw [List.length_append, ih, List.length_map]
          show _ + 1 ≤ 100
          omega
        exact lst_small hl
      · rw [if_neg e]
        have e2 : typedOf p [Gev.press q n s c] = [] := by
          unfold typedOf
          rw [List.filterMap_cons_none (by show (if q = p then _ else _) = none; rw [if_neg e])]
          rfl
        rw [e2]
        exact (List.append_nil _).symm
/-- what is done at a pane -/
def onP (p : Nat) : Gev → Bool
  | .press q _ _ _ => decide (q = p)
  | .beat => true
theorem step_off {p : Nat} {st : Pn} {g : Gev} (h : onP p g = false) : stepP p st g = st := by
  cases g with
  | beat => cases h
  | press q n s c =>
    show (if q = p then _ else st) = st
    rw [if_neg (of_decide_eq_false h)]
theorem fold_on {p : Nat} : ∀ {ev : List Gev} {st : Pn}, (ev.filter (onP p)).foldl (stepP p) st = ev.foldl (stepP p) st
  | [], _ => rfl
  | g :: r, st => by
    cases e : onP p g with
    | true =>
      rw [List.filter_cons_of_pos (by rw [e])]
      exact fold_on (ev := r)
    | false =>
      rw [List.filter_cons_of_neg (by rw [e]; decide)]
      show _ = r.foldl (stepP p) (stepP p st g)
      rw [step_off e]
      exact fold_on (ev := r)
theorem run_on {p : Nat} {a b : List Gev} : runP p (a ++ b.filter (onP p)) = runP p (a ++ b) := by
  unfold runP
  rw [List.foldl_append, List.foldl_append, fold_on]
theorem press_all {p : Nat} : ∀ {L : List Gev}, pressed L → L.filter (onP p) = (typedOf p L).map fun x => Gev.press p x.1 x.2.1 x.2.2
  | [], _ => rfl
  | g :: r, h => by
    have ih := press_all (p := p) (L := r) fun x hx => h x (List.mem_cons_of_mem _ hx)
    obtain ⟨q, n, s, c, rfl⟩ := h g List.mem_cons_self
    by_cases e : q = p
    · subst e
      rw [List.filter_cons_of_pos (by show decide (q = q) = true; exact decide_eq_true rfl), ih]
      unfold typedOf
      rw [List.filterMap_cons_some (by show (if q = q then _ else _) = some (n, s, c); rw [if_pos rfl])]
      rfl
    · rw [List.filter_cons_of_neg (by show ¬ decide (q = p) = true; rw [decide_eq_false e]; decide), ih]
      unfold typedOf
      rw [List.filterMap_cons_none (by show (if q = p then _ else _) = none; rw [if_neg e])]
theorem signsOf_app {n s : Nat} {a b : List Gev} : signsOf n s (a ++ b) = signsOf n s a ++ signsOf n s b := List.filterMap_append
/-- so many of what a pane's new ones are -/
def uptoP (p : Nat) (L : List Gev) (j : Nat) : List Gev := ((typedOf p L).take j).map fun x => Gev.press p x.1 x.2.1 x.2.2
theorem upto_zero {p : Nat} {L : List Gev} : uptoP p L 0 = [] := by unfold uptoP; rw [List.take_zero]; rfl
theorem upto_succ {p : Nat} {L : List Gev} {j : Nat} {x : Nat × Nat × Nat} (h : (typedOf p L)[j]? = some x) : uptoP p L (j + 1) = uptoP p L j ++ [Gev.press p x.1 x.2.1 x.2.2] := by
  unfold uptoP
  rw [List.take_add_one, h, List.map_append]
  rfl
theorem upto_all {p : Nat} {L : List Gev} (h : pressed L) : uptoP p L (typedOf p L).length = L.filter (onP p) := by
  unfold uptoP
  rw [List.take_length, press_all h]
section
variable {m B : Nat} {ses : List Ses} {ev : List Gev} {h : Hl}
theorem Net.atKey (N : Net m B ses ev h) {x : Ses} (hx : x ∈ ses) {q n s c : Nat} (hg : Gev.press q n s c ∈ ev) (e1 : n = x.n) (e2 : s = x.s) : q = x.p := by
  obtain ⟨y, hy, h1, h2, h3⟩ := N.evp q n s c hg
  obtain rfl := key_eq N.nod hy hx (h1.trans e1) (h2.trans e2)
  exact h3.symm
theorem Net.signs_on (N : Net m B ses ev h) {x : Ses} (hx : x ∈ ses) {L : List Gev} (hL : ∀ g ∈ L, g ∈ ev) : signsOf x.n x.s (L.filter (onP x.p)) = signsOf x.n x.s L := by
  induction L with
  | nil => rfl
  | cons g r ih =>
    have ih := ih fun y hy => hL y (List.mem_cons_of_mem _ hy)
    cases e : onP x.p g with
    | true =>
      rw [List.filter_cons_of_pos (by rw [e])]
      unfold signsOf at ih ⊢
      cases k : signG x.n x.s g with
      | none => rw [List.filterMap_cons_none k, List.filterMap_cons_none k, ih]
      | some c => rw [List.filterMap_cons_some k, List.filterMap_cons_some k, ih]
    | false =>
      rw [List.filter_cons_of_neg (by rw [e]; decide), ih]
      unfold signsOf
      have k : signG x.n x.s g = none := by
        cases g with
        | beat => rfl
        | press q n s c =>
          show (if n = x.n ∧ s = x.s then some c else none) = none
          refine if_neg fun z => ?_
          have := N.atKey hx (hL _ List.mem_cons_self) z.1 z.2
          exact of_decide_eq_false e this
      rw [List.filterMap_cons_none k]
/-- the next sign that is done is the next one that was typed -/
theorem Net.next (N : Net m B ses ev h) {ev0 L : List Gev} (he : ev = ev0 ++ L) (pL : pressed L) {p j n s c : Nat} (hj : (typedOf p L)[j]? = some (n, s, c)) : ∃ (i : Nat) (x : Ses), ses[i]? = some x ∧ x.n = n ∧ x.s = s ∧ x.p = p ∧ x.ty[(signsOf n s (ev0 ++ uptoP p L j)).length]? = some c := by
  have hin : ∀ g ∈ L, g ∈ ev := fun g hg => by rw [he]; exact List.mem_append_right _ hg
  have hg : Gev.press p n s c ∈ L := by
    have h1 : Gev.press p n s c ∈ L.filter (onP p) := by
      rw [press_all pL]
      exact List.mem_map.mpr ⟨(n, s, c), List.mem_of_getElem? hj, rfl⟩
    exact (List.mem_filter.mp h1).1
  obtain ⟨x, hx, h1, h2, h3⟩ := N.evp p n s c (hin _ hg)
  obtain ⟨i, hi⟩ := List.getElem?_of_mem hx
  refine ⟨i, x, hi, h1, h2, h3, ?_⟩
  subst h1 h2 h3
  have hd := N.done x hx
  have e1 : signsOf x.n x.s ev = signsOf x.n x.s (ev0 ++ L.filter (onP x.p)) := by
    rw [he, signsOf_app, signsOf_app, N.signs_on hx hin]
  have hlen : j < (typedOf x.p L).length := lt_of_get hj
  have e2 : L.filter (onP x.p) = uptoP x.p L j ++ (Gev.press x.p x.n x.s c :: ((typedOf x.p L).drop (j + 1)).map fun y => Gev.press x.p y.1 y.2.1 y.2.2) := by
    rw [press_all pL]
    unfold uptoP
    have e3 : (typedOf x.p L).drop j = (x.n, x.s, c) :: (typedOf x.p L).drop (j + 1) := by
      rw [List.drop_eq_getElem_cons hlen]
      congr 1
      rw [List.getElem?_eq_getElem hlen] at hj
      exact Option.some.inj hj
    have := congrArg (List.map fun y : Nat × Nat × Nat => Gev.press x.p y.1 y.2.1 y.2.2) (List.take_append_drop j (typedOf x.p L))
    rw [List.map_append, e3, List.map_cons] at this
    exact this.symm
  rw [e1, e2, ← List.append_assoc, signsOf_app] at hd
  have e4 : signsOf x.n x.s (Gev.press x.p x.n x.s c :: ((typedOf x.p L).drop (j + 1)).map fun y => Gev.press x.p y.1 y.2.1 y.2.2) = c :: signsOf x.n x.s (((typedOf x.p L).drop (j + 1)).map fun y => Gev.press x.p y.1 y.2.1 y.2.2) := by
    unfold signsOf
    rw [List.filterMap_cons_some (by show (if x.n = x.n ∧ x.s = x.s then some c else none) = some c; rw [if_pos ⟨rfl, rfl⟩])]
  rw [e4] at hd
  have hget : (x.ty.take x.dn)[(signsOf x.n x.s (ev0 ++ uptoP x.p L j)).length]? = some c := by
    rw [← hd, List.getElem?_append_right (Nat.le_refl _), Nat.sub_self]
    rfl
  have hlt := lt_of_get hget
  rw [List.length_take] at hlt
  rw [List.getElem?_take_of_lt (by omega)] at hget
  exact hget
end
/-! so many are typed at most -/
def tyN (ses : List Ses) : Nat := (ses.map fun x => x.ty.length).sum
theorem sum_ge {α : Type} {f : α → Nat} {x : α} : ∀ {l : List α}, x ∈ l → f x ≤ (l.map f).sum
  | a :: r, h => by
    rw [List.map_cons, List.sum_cons]
    rcases List.mem_cons.mp h with rfl | h
    · omega
    · have := sum_ge (f := f) h
      omega
theorem sum_leL {α : Type} {f g : α → Nat} : ∀ {l : List α}, (∀ x ∈ l, f x ≤ g x) → (l.map f).sum ≤ (l.map g).sum
  | [], _ => Nat.le_refl _
  | a :: r, h => by
    rw [List.map_cons, List.sum_cons, List.map_cons, List.sum_cons]
    have h1 := h a List.mem_cons_self
    have h2 := sum_leL (f := f) (g := g) (l := r) fun x hx => h x (List.mem_cons_of_mem _ hx)
    omega
theorem sum_add {α : Type} {f g : α → Nat} : ∀ {l : List α}, (l.map fun x => f x + g x).sum = (l.map f).sum + (l.map g).sum
  | [] => rfl
  | a :: r => by
    rw [List.map_cons, List.sum_cons, List.map_cons, List.sum_cons, List.map_cons, List.sum_cons, sum_add (l := r)]
    omega
theorem pressN_ses {ses : List Ses} : ∀ {ev : List Gev}, (∀ p n s c, Gev.press p n s c ∈ ev → ∃ x ∈ ses, x.n = n ∧ x.s = s) → pressN ev ≤ (ses.map fun x => (signsOf x.n x.s ev).length).sum
  | [], _ => Nat.zero_le _
  | .beat :: r, h => by
    have ih := pressN_ses (ev := r) fun p n s c hg => h p n s c (List.mem_cons_of_mem _ hg)
    exact ih
  | .press p n s c :: r, h => by
    have ih := pressN_ses (ses := ses) (ev := r) fun p n s c hg => h p n s c (List.mem_cons_of_mem _ hg)
    obtain ⟨x, hx, h1, h2⟩ := h p n s c List.mem_cons_self
    have e : (ses.map fun x => (signsOf x.n x.s (Gev.press p n s c :: r)).length) = ses.map fun x => (signsOf x.n x.s r).length + (if n = x.n ∧ s = x.s then 1 else 0) := by
      refine List.map_congr_left fun y _ => ?_
      unfold signsOf
      by_cases k : n = y.n ∧ s = y.s
      · rw [List.filterMap_cons_some (by show (if n = y.n ∧ s = y.s then some c else none) = some c; rw [if_pos k]), if_pos k]
        rfl
      · rw [List.filterMap_cons_none (by show (if n = y.n ∧ s = y.s then some c else none) = none; rw [if_neg k]), if_neg k]
        rfl
    rw [e, sum_add]
    have h3 : 1 ≤ (ses.map fun x => if n = x.n ∧ s = x.s then 1 else 0).sum := by
      have := sum_ge (f := fun x : Ses => if n = x.n ∧ s = x.s then 1 else 0) hx
      rw [if_pos ⟨h1.symm, h2.symm⟩] at this
      exact this
    show pressN r + 1 ≤ _
    omega
theorem Net.few {m B : Nat} {ses : List Ses} {ev : List Gev} {h : Hl} (N : Net m B ses ev h) : pressN ev ≤ tyN ses := by
  refine Nat.le_trans (pressN_ses (ses := ses) fun p n s c hg => ?_) (sum_leL fun x hx => ?_)
  · obtain ⟨x, hx, h1, h2, _⟩ := N.evp p n s c hg
    exact ⟨x, hx, h1, h2⟩
  · rw [N.done x hx, List.length_take]
    exact Nat.min_le_right _ _
end Vf
namespace Vf
open PySem PySem.Spec PyProof.Rows L2
/-! ### list.count of flat items -/
def rCntF (K : PySem.W.Frag) : V → List V → Hp → VK → Prop := fun x xs H Q => ∃ (a : Addr) (ys : List V) (y : V), x = V.ref a ∧ xs = [y] ∧ SqL K H a ys ∧ flatV y = true ∧ ys.all flatV = true ∧ Q (.int (ys.countP (fun z => eqV z y) : Nat)) H
theorem countF_of {y : V} : ∀ {ys : List V} {its : List Value}, Vals ys its → ys.all flatV = true → its.countP (eqU y) = ys.countP fun z => eqV z y
  | [], _, .nil, _ => rfl
  | z :: ys, _, .cons rz r, f => by
    rw [List.all_cons, Bool.and_eq_true] at f
    rw [List.countP_cons, List.countP_cons, countF_of r f.2, eqU_of rz f.1]
section
variable {X : Cx}
theorem mt_countF : MtR X "list.count" (rCntF X.K) := by
  intro pins s σ H x xs v us Q I rx rxs h
  obtain ⟨a, ys, y, rfl, rfl, hs, fy, fys, q⟩ := h
  cases rx
  cases rxs with
  | cons ry rt =>
    rename_i uy ut
    cases rt
    obtain ⟨its, rv, ⟨⟨cls, dd, data, sl⟩, n, ho, hc, hdn, hd⟩, hlen⟩ := I.list hs
    simp only at hc hd
    subst hc hd
    refine call_meets PySem.F.slot_list_count ⟨_, ho, rfl⟩ PySem.F.entry_list_count (PySem.F.args_list_count_2 _ _)
      (SeqAt.list_countAt a its.toArray n dd sl uy (eqU y)) ⟨ho, fun u' hu' => mem_eqAt ry fy rv fys u' (by simpa using hu'), ?_⟩
    have ec : its.toArray.toList.countP (eqU y) = ys.countP fun z => eqV z y := countF_of rv fys
    refine ⟨.int (ys.countP (fun z => eqV z y) : Nat), H, I.tok _, ⟨s.toks, ?_⟩, q⟩
    show Value.int ((its.toArray.toList.countP (eqU y) : Nat) : Int) s.toks = Value.int ((ys.countP (fun z => eqV z y) : Nat) : Int) s.toks
    rw [ec]
end
end Vf
namespace Vf
open PySem PySem.Spec PyProof.Rows L2 Evl
/-! ### what is told of work handed in, or that it was refused: where only NoLook is raised -/
abbrev sTld : Stmt := topS 68
theorem scTld : FnScope ["_law_work", "e", "_law_kinds", "_law_word"] ["_law_work"] (defScope sTld) := ⟨rfl, rfl, rfl, by decide +kernel, rfl, by decide +kernel, by decide +kernel⟩
structure TTld (K : PySem.W.Frag) (mg : Str → Option Value) (cH cN c1 c2 c3 c4 c5 c6 : Addr) : Prop where
  z_isinstance : mg "isinstance" = none
  z_ValueError : mg "ValueError" = none
  mg_HallError : mg "HallError" = some (.ref cH)
  mg_NoLook : mg "NoLook" = some (.ref cN)
  mg_BadCount : mg "BadCount" = some (.ref c1)
  mg_BadFields : mg "BadFields" = some (.ref c2)
  mg_BadLook : mg "BadLook" = some (.ref c3)
  mg_BadSign : mg "BadSign" = some (.ref c4)
  mg_BadSize : mg "BadSize" = some (.ref c5)
  mg_BadText : mg "BadText" = some (.ref c6)
  ec : ExcC K cN
  xf : XfC K cN
  no_place : PySem.W.findIn K (.ref cN) "place" = some none
  no_row : PySem.W.findIn K (.ref cN) "row" = some none
  hit : PySem.W.exmOne K (.ref cN) (.ref cH) = some true
  k0 : PySem.W.kitOne K (.ref cN) (.ref cN) = some true
  k1 : PySem.W.kitOne K (.ref cN) (.ref c1) = some false
  k2 : PySem.W.kitOne K (.ref cN) (.ref c2) = some false
  k3 : PySem.W.kitOne K (.ref cN) (.ref c3) = some false
  k4 : PySem.W.kitOne K (.ref cN) (.ref c4) = some false
  k5 : PySem.W.kitOne K (.ref cN) (.ref c5) = some false
  k6 : PySem.W.kitOne K (.ref cN) (.ref c6) = some false
  kv : PySem.W.kitOne K (.ref cN) (.type "ValueError") = some true
/-- the way of a refusal -/
def E14 (cN : Addr) (Q : VK) : XK := fun cls d H' => cls = .ref cN ∧ d = none ∧ ∀ t H2, Ex H' H2 → H' t = none → H2 t = some (.tup [.str (Str.ofString "NoLook"), .int 0]) → Q (.ref t) H2
def TT14 (cN : Addr) : (XK → Hp → VK → Prop) → Hp → VK → Prop := fun tl H Q => tl (E14 cN Q) H Q
theorem neBadSign : ¬ Str.ofString "NoLook" = Str.ofString "BadSign" := by decide +kernel
theorem neBadText : ¬ Str.ofString "NoLook" = Str.ofString "BadText" := by decide +kernel
def sTldSuite : List Stmt := match defBody sTld with
  | [.Try _ [.ExceptHandler _ _ b _] _ _ _] => b
  | _ => []
def ts14 (cN : Addr) (a : Addr) (cls : Value) (d : Option Addr) : TS := fun D σ H => cls = .ref cN ∧ d = none ∧ σ.length = 4 ∧ σ[1]? = some (some (.ref a)) ∧ ∀ t H2, Ex H H2 → H t = none → H2 t = some (.tup [.str (Str.ofString "NoLook"), .int 0]) → D.rt (.ref t) H2
theorem told_gives14 {X : Cx} {cH cN c1 c2 c3 c4 c5 c6 g : Addr} {cdg : Value} {q : Str} (T : TTld X.K X.mg cH cN c1 c2 c3 c4 c5 c6) : LamX.GivesTo X ["_law_work", "e", "_law_kinds", "_law_word"] "_law_told" (defScope sTld) g cdg (defBody sTld) "_law_work" q (TT14 cN) := by
  intro f c' s H Q tl act hc h
  have EC := T.ec
  have XF := T.xf
  refine ⟨_, pss_one (ps_try_as (X := (cxOf CX0 X.prog X.w X.K X.mg X.base ["_law_work", "e", "_law_kinds", "_law_word"] "_law_told" (defScope sTld) g cdg X.A X.stack s H E0).nox) (i := 1) (c := .ref cH)
      (tb := fun W D σ H => ∃ Ech : XK, (∀ cls d (σ' : L2.St) H', Ech cls d H' → σ'.length = 4 → W cls d σ' H') ∧ σ[0]? = some (some (.ref f)) ∧ H c' = some (LamX.CodeO c' q) ∧ tl Ech H D.rt) (ts := ts14 cN)
      rfl rfl scTld.nd rfl rfl ⟨rfl, by decide, .inl T.mg_HallError⟩ LamX.takes0 (fun W pn xe tk _ => ?_) (fun a oe cls d pn hz hf => ?_)), ?_⟩
  · refine ⟨fun pins s' σ H' D I h' => ?_⟩
    obtain ⟨Ech, hW, h1, h2, h3⟩ := h'
    have tk' : Takes _ (fun cls d (σ : L2.St) H => σ.length = 4 → W cls d σ H) := fun u s' ⟨a, B, sI, pins, σ, H, cls, d, e, I, nb, up, sky, na, os, ag, w⟩ => tk u s' ⟨a, B, sI, pins, σ, H, cls, d, e, I, nb, up, sky, na, os, ag, w I.len⟩
    exact (pss_one (ps_ret (act _ pn xe Ech _ _ tk' hW))).run pins s' σ H' D I ⟨h1, h2, h3⟩
  · refine ⟨fun pins s' σ Hs D I h => ?_⟩
    obtain ⟨rfl, rfl, hl, h1, h⟩ := h
    obtain ⟨t, ht, hq⟩ : ∃ t, PSs ((cxOf CX0 X.prog X.w X.K X.mg X.base ["_law_work", "e", "_law_kinds", "_law_word"] "_law_told" (defScope sTld) g cdg X.A X.stack s H E0).nox.suite a ((a, oe) :: pn)) sTldSuite t ∧ t D σ Hs := by
      refine ⟨_, (pss_cons (ps_set (i := 2) scTld.nd rfl (Or.inl rfl) (pe_lst (pa_cons (pe_callB (call_isE EC hz hf) (by rfl) T.z_isinstance boot_isinstance (pa_cons (pv 1) (pa_cons (pgR T.mg_BadCount) pa_nil))) (pa_cons (pe_callB (call_isE EC hz hf) (by rfl) T.z_isinstance boot_isinstance (pa_cons (pv 1) (pa_cons (pgR T.mg_BadFields) pa_nil))) (pa_cons (pe_callB (call_isE EC hz hf) (by rfl) T.z_isinstance boot_isinstance (pa_cons (pv 1) (pa_cons (pgR T.mg_BadLook) pa_nil))) (pa_cons (pe_callB (call_isE EC hz hf) (by rfl) T.z_isinstance boot_isinstance (pa_cons (pv 1) (pa_cons (pgR T.mg_BadSign) pa_nil))) pa_nil))))))
      (pss_cons (ps_set (i := 2) scTld.nd rfl (Or.inl rfl) (pe_op op_cat (pv 2) (pe_lst (pa_cons (pe_callB (call_isE EC hz hf) (by rfl) T.z_isinstance boot_isinstance (pa_cons (pv 1) (pa_cons (pgR T.mg_BadSize) pa_nil))) (pa_cons (pe_callB (call_isE EC hz hf) (by rfl) T.z_isinstance boot_isinstance (pa_cons (pv 1) (pa_cons (pgR T.mg_BadText) pa_nil))) (pa_cons (pe_callB (call_isE EC hz hf) (by rfl) T.z_isinstance boot_isinstance (pa_cons (pv 1) (pa_cons (pgR T.mg_NoLook) pa_nil))) pa_nil))))))
      (pss_cons (ps_if (PW.pt (pw_or (pt_cmpR op_ne (pe_bm PySem.F.plainAttrs_list PySem.F.slot_list_count PySem.F.type_list_count mt_countF (pv 2) (pa_cons pe_bl pa_nil)) pe_int (nomark _)) (pw_or1 (pt_not (pt_val (pe_callB (call_isE EC hz hf) (by rfl) T.z_isinstance boot_isinstance (pa_cons (pv 1) (pa_cons (pe_bltn (v := .ty "ValueError") (by rfl) T.z_ValueError (by rfl) rfl) pa_nil)))))))) (pss_one (ps_ret (pe_tup (pa_cons pe_str (pa_cons pe_int pa_nil))))) pss_nil)
      (pss_cons (ps_set (i := 3) scTld.nd rfl (Or.inl rfl) (pe_ix ix_list (pe_lst (pa_cons pe_str (pa_cons pe_str (pa_cons pe_str (pa_cons pe_str (pa_cons pe_str (pa_cons pe_str (pa_cons pe_str pa_nil)))))))) (pe_bm PySem.F.plainAttrs_list PySem.F.slot_list_index PySem.F.type_list_index mt_index (pv 2) (pa_cons pe_bl pa_nil)) (fun _ _ => rfl)))
      (pss_cons (ps_if (pt_cmpR op_eq (pv 3) pe_str (nomark _)) (pss_one (ps_ret (pe_tup (pa_cons (pv 3) (pa_cons (pe_xf XF T.no_place hz hf (pv 1)) pa_nil))))) pss_nil)
      (pss_one (ps_ret (pe_tup (pa_cons (pv 3) (pa_cons (pe_ifExp (pt_cmpR op_eq (pv 3) pe_str (nomark _)) (pe_xf XF T.no_row hz hf (pv 1)) pe_int) pa_nil)))))))))), ?_⟩
      match σ, hl, h1 with
      | [w0, w1, w2, w3], _, h1 =>
      have h1 : w1 = some (.ref a) := Option.some.inj h1
      subst h1
      refine ⟨_, rfl, .ref c1, .ref c1, false, rfl, fun _ r => r, T.k1, _, rfl, .ref c2, .ref c2, false, rfl, fun _ r => r, T.k2, _, rfl, .ref c3, .ref c3, false, rfl, fun _ r => r, T.k3, _, rfl, .ref c4, .ref c4, false, rfl, fun _ r => r, T.k4, (by show 4 ≤ sizeLine; decide), fun q1 nq1 => ?_⟩
      have e1 := Ex.new (o := .lst [.bl false, .bl false, .bl false, .bl false]) nq1
      have h1 : upd Hs q1 (.lst [.bl false, .bl false, .bl false, .bl false]) q1 = some (.lst [.bl false, .bl false, .bl false, .bl false]) := upd_same
      refine ⟨_, rfl, _, rfl, .ref c5, .ref c5, false, rfl, fun _ r => r, T.k5, _, rfl, .ref c6, .ref c6, false, rfl, fun _ r => r, T.k6, _, rfl, .ref cN, .ref cN, true, rfl, fun _ r => r, T.k0, (by show 3 ≤ sizeLine; decide), fun q2 nq2 => ?_⟩
      have e2 := Ex.new (o := .lst [.bl false, .bl false, .bl true]) nq2
      replace h1 := e2 _ _ h1
      refine ⟨q1, q2, _, _, rfl, rfl, h1, upd_same, (by show 7 ≤ sizeLine; decide), fun q3 nq3 => ?_⟩
      have e3 := Ex.new (o := .lst [.bl false, .bl false, .bl false, .bl false, .bl false, .bl false, .bl true]) nq3
      have hx := (e1.trans e2).trans e3
      have h3 : upd (upd (upd Hs q1 (.lst [.bl false, .bl false, .bl false, .bl false])) q2 (.lst [.bl false, .bl false, .bl true])) q3 (.lst [.bl false, .bl false, .bl false, .bl false, .bl false, .bl false, .bl true]) q3 = some (.lst [.bl false, .bl false, .bl false, .bl false, .bl false, .bl false, .bl true]) := upd_same
      refine ⟨_, rfl, .inl ⟨rfl, _, SqL.of h3⟩, q3, _, .bl true, rfl, rfl, SqL.of h3, rfl, rfl, ?_⟩
      refine ⟨rfl, _, rfl, iteF ?_⟩
      refine ⟨_, rfl, .ty "ValueError", .type "ValueError", true, rfl, fun _ r => r, T.kv, true, rfl, iteF ?_⟩
      refine ⟨(by show 7 ≤ sizeLine; decide), fun q4 nq4 => ?_⟩
      have e4 := Ex.new (o := .lst [.str (Str.ofString "BadCount"), .str (Str.ofString "BadFields"), .str (Str.ofString "BadLook"), .str (Str.ofString "BadSign"), .str (Str.ofString "BadSize"), .str (Str.ofString "BadText"), .str (Str.ofString "NoLook")]) nq4
      refine ⟨_, rfl, .inl ⟨rfl, _, SqL.of (e4 _ _ h3)⟩, q3, _, .bl true, 6, .bl true, rfl, rfl, SqL.of (e4 _ _ h3), rfl, rfl, rfl, rfl, (fun m z hm hz => ?_), q4, _, (6 : Int), .str (Str.ofString "NoLook"), rfl, rfl, SqL.of upd_same, atI_nat (j := 6) rfl, ?_⟩
      · match m, hm with
        | 0, _ => cases hz; rfl
        | 1, _ => cases hz; rfl
        | 2, _ => cases hz; rfl
        | 3, _ => cases hz; rfl
        | 4, _ => cases hz; rfl
        | 5, _ => cases hz; rfl
      refine ⟨_, rfl, rfl, _, rfl, ?_⟩
      rw [decide_eq_false (show ¬ V.str (Str.ofString "NoLook") = V.str (Str.ofString "BadSign") from fun z => neBadSign (by injection z))]
      refine iteF ?_
      refine ⟨_, rfl, _, rfl, rfl, _, rfl, ?_⟩
      rw [decide_eq_false (show ¬ V.str (Str.ofString "NoLook") = V.str (Str.ofString "BadText") from fun z => neBadText (by injection z))]
      refine iteF ?_
      refine ⟨(by show 2 ≤ sizeLine; decide), fun t nt => ?_⟩
      refine h t _ ((hx.trans e4).trans (Ex.new nt)) ?_ upd_same
      cases e : Hs t with
      | none => rfl
      | some o => rw [(hx.trans e4) _ _ e] at nt; cases nt
    exact ht.run pins s' σ Hs D I hq
  · exact ⟨E14 cN Q, fun cls d σ' H' ⟨e1, e2, e3⟩ hl => ⟨true, by rw [e1]; exact T.hit, fun _ a ha => ⟨e1, e2, by rw [List.length_set]; exact hl, List.getElem?_set_self (by omega), e3⟩, fun z => by cases z⟩, rfl, hc, h⟩
end Vf
namespace Vf
open PySem PySem.Spec PyProof.Rows L2 Evl
/-! ### press, where it may be refused -/
abbrev sKPx : Stmt := inClass (topS 60) 1
theorem scKPx : FnScope ["self", "signs", "place"] ["self", "signs"] (defScope sKPx) := ⟨rfl, rfl, rfl, by decide +kernel, rfl, by decide +kernel, by decide +kernel⟩
/-- of the class NoLook, that it may be raised -/
structure TNoL (K : PySem.W.Frag) (mg : Str → Option Value) (cN : Addr) : Prop where
  xP : PySem.W.excIn K cN [.type "ValueError", .type "Exception", .type "BaseException", .type "object"] "ValueError.__new__" = true
  gP : mg "NoLook" = some (.ref cN)
  kP : PySem.W.keepIn K (.ref cN) = true
  bP : PySem.W.subIn K (.ref cN) (.type "BaseException") = some true
  tP : PySem.W.typeIn K (.ref cN) = some (.type "type")
def spKPx (C cN : Addr) : Sp := fun vs H Q E => ∃ (H0 : Hp) (p : Addr) (s : Lk) (z : Str), vs = [.ref p, .str z] ∧ Beh (lookA C p s) H0 H ∧ (∀ c ∈ z.cps.toList, isK c = true) ∧ s.signs.length + z.length < 1000000 ∧
  (s.left = false → s.over = false → ∀ H', Beh (lookA C p { s with signs := s.signs ++ z }) H0 H' → Q .non H') ∧ (s.left = true ∨ s.over = true → E (.ref cN) none H)
section
variable {P : Program} {w : World} {K : PySem.W.Frag} {mg : Str → Option Value} {base : Heap}
theorem ok_kpx {f cL cN : Addr} {fd : FuncData} (F : Fun K "press" "Look.press" sKPx f fd) (T : ClsN K cL LKK) (TN : TNoL K mg cN) (C : CWrp P w K mg base) : FnOk P w K mg base (L2.CX P w) 2 f fd ["self", "signs"] (spKPx cL cN) := by
  refine F.okX scKPx (fun vs H Q E h => ?_) (fun cdv A outer s H vs Q E hr h => ?_)
  · obtain ⟨H0, p, s, z, rfl, _⟩ := h
    rfl
  · obtain ⟨H0, p, st, z, rfl, B, h3, h4, q, e⟩ := h
    refine ⟨_, (pss_cons (ps_if (PW.pt (pw_or (pt_val (pe_fld (pv 0) rfl)) (pw_or1 (pt_val (pe_fld (pv 0) rfl))))) (pss_one (ps_raise rfl (takes_of rfl rfl rfl rfl) (pmk_own PySem.F.excBase_ValueError TN.xP TN.gP TN.kP (raises_own TN.bP TN.tP) rfl))) pss_nil)
      (pss_cons (ps_set (i := 2) scKPx.nd rfl (Or.inl rfl) (pcall C.wrong_place (hr.mono (by first | decide | omega)) (pa_cons (pv 1) pa_nil)))
      (pss_cons (ps_if (pt_cmpR op_notN (pv 2) pe_non (nomark _)) pss_never pss_nil)
      (pss_one (ps_fldaug (pv 0) (pv 1) in_addS))))), ?_⟩
    obtain ⟨dx, r, L⟩ := look_at B
    refine ⟨_, rfl, p, cL, dx, _, _, rfl, L.at_, T.cl, T.no.get (k := "_left") (i := 10) (by decide +kernel), zf_get (k := "_left") (i := 10) (by decide +kernel) rfl, st.left, rfl, ite2 (fun e1 => ?_) (fun hl => ?_)⟩
    · exact e (.inl e1)
    have hl : st.left = false := Bool.eq_false_iff.mpr hl
    refine ⟨_, rfl, p, cL, dx, _, _, rfl, L.at_, T.cl, T.no.get (k := "_over") (i := 11) (by decide +kernel), zf_get (k := "_over") (i := 11) (by decide +kernel) rfl, st.over, rfl, ite2 (fun e2 => ?_) (fun ho => ?_)⟩
    · exact e (.inr e2)
    have ho : st.over = false := Bool.eq_false_iff.mpr ho
    refine ⟨_, rfl, z, rfl, fun H1 e1 => ?_⟩
    rw [wrong_none h3]
    refine ⟨_, rfl, rfl, _, rfl, iteF ?_⟩
    have B1 := B.ex (lookT _ _ _) e1
    obtain ⟨dx1, r1, L1⟩ := look_at B1
    refine ⟨_, rfl, p, cL, dx1, _, _, rfl, L1.at_, T.cl, T.no.get (k := "_signs") (i := 6) (by decide +kernel), zf_get (k := "_signs") (i := 6) (by decide +kernel) rfl, _, rfl, _, _, rfl, rfl, Nat.le_trans (Nat.le_of_lt h4) (by decide), ?_⟩
    refine ⟨dx1, _, L1.at_, zf_short (by decide), ?_⟩
    rw [zf_put (k := "_signs") (i := 6) (by decide +kernel) (by show 6 < 12; decide)]
    exact q hl ho _ (look_mk ⟨ex_set L1.x L1.np, upd_same, by rw [upd_ne L1.pr.symm]; exact L1.rows, L1.np, L1.nr, L1.pr⟩)
end
end Vf
namespace Vf
open PySem PySem.Spec PyProof.Rows L2 Evl
/-! ### a method that may raise, called -/
structure MCalX (P : Program) (w : World) (K : PySem.W.Frag) (mg : Str → Option Value) (base : Heap) (C : Addr) (m : Str) (k : Nat) (ps : List Str) (sp : Sp) : Prop where
  ex : ∃ (f : Addr) (fd : FuncData), FnOk P w K mg base (L2.CX P w) k f fd ps sp ∧ Meth K C m f ∧ Binds K fd ps []
section
variable {X : Cx} {x m : Str} {k : Nat} {ps : List Str} {sp : Sp} {C : Addr} {E : XK} {o e : Expr} {es : List Expr} {ta : TE} {t : TA} {p apos pos : Pos}
theorem pmethX {pl : Sem Bool} (ho : PE X o ta) (c : Cls X.K C) (M : MCalX X.prog X.w X.K X.mg X.base C m k ps sp) (hr : Room k X.A) (hx : Passes (L2.CX X.prog X.w) X E) (ha : PA X (e :: es) t)
    (hst : starEach (e :: es) X.env = (false, eval e X.env) :: starEach es X.env := by rfl) (hpl : (backTo pos (starEach es X.env)).any (·.1) = false := by rfl)
    (ht : eval (.Call (.Attribute o m apos) (e :: es) [] pos) X.env = (do
      let ov ← eval o X.env
      standAt apos.atName
      let (f, first) ← holding [ov] (getMethod ov m pl)
      callWith pos f first (backTo pos (starEach (e :: es) X.env)) (backToKw pos (keywordEach [] X.env))) := by rfl) :
    PE X (.Call (.Attribute o m apos) (e :: es) [] pos) (tMeth C m sp [] E ta t) := by
  obtain ⟨f, fd, F, hm, hb⟩ := M.ex
  exact pe_meth (pl := pl) ho c hm F hr hb .nil hx ha hst hpl ht
end
/-- what a def lets out, its callees may let out -/
theorem passE {X : Cx} {E : XK} (tk : Takes X (fun cls d _ H => E cls d H)) : Passes (L2.CX X.prog X.w) X E := passes_call tk fun _ _ _ _ h => h
end Vf
namespace Vf
open PySem PySem.Spec PyProof.Rows L2 Evl
/-! ### behind a lambda's making: tables change, the rest stays -/
def PlainO (o : HO) : Prop := (∀ ps, o ≠ .tbl ps) ∧ ∀ φ, o ≠ .ext φ
def Plain (A : Prd) : Prop := ∀ fp H, A fp H → ∀ a ∈ fp, ∃ o, H a = some o ∧ PlainO o
def Plains (As : List Prd) : Prop := ∀ A ∈ As, Plain A
theorem Plains.nil : Plains [] := fun _ h => nomatch h
theorem Plains.cons {A : Prd} {As : List Prd} (h : Plain A) (k : Plains As) : Plains (A :: As) := fun B hB => by
  rcases List.mem_cons.mp hB with rfl | hB
  · exact h
  · exact k B hB
theorem sat_plain : ∀ {As : List Prd} {fps : List (List Addr)} {H : Hp}, Plains As → Sat As fps H → ∀ f ∈ fps, ∀ a ∈ f, ∃ o, H a = some o ∧ PlainO o
  | [], [], H, _, _, f, hf, _, _ => nomatch hf
  | A :: As, f0 :: fps, H, T, h, f, hf, a, ha => by
    rcases List.mem_cons.mp hf with rfl | hf
    · exact T A List.mem_cons_self _ _ h.1 a ha
    · exact sat_plain (As := As) (fun B hB => T B (List.mem_cons_of_mem _ hB)) h.2.2 f hf a ha
  | [], _ :: _, _, _, h, _, _, _, _ => h.elim
  | _ :: _, [], _, _, h, _, _, _, _ => h.elim
theorem pack_plain {As : List Prd} (P : Plains As) : Plain (packA As) := fun fp H ⟨fps, h, e⟩ a ha => by
  subst e
  obtain ⟨f, hf, ha⟩ := List.mem_flatten.mp ha
  exact sat_plain P h f hf a ha
theorem cell_plain {a : Addr} {o : HO} (h : PlainO o) : Plain (cellA a o) := fun fp H ⟨e, h1, _⟩ b hb => by
  subst e
  rw [List.mem_singleton.mp hb]
  exact ⟨o, h1, h⟩
theorem ex_plain {α : Type} {F : α → Prd} (T : ∀ x, Plain (F x)) : Plain (exA F) := fun fp H ⟨x, h⟩ => T x _ _ h
theorem look_plain (C p : Addr) (s : Lk) : Plain (lookA C p s) := ex_plain fun d => pack_plain (Plains.cons (cell_plain ⟨fun _ z => (by cases z), fun _ z => (by cases z)⟩) (Plains.cons (cell_plain ⟨fun _ z => (by cases z), fun _ z => (by cases z)⟩) Plains.nil))
theorem pan_plain (C p : Addr) (s : Pn) : Plain (panA C p s) := fun fp H ⟨dx, r, t, u, e, h⟩ a ha => by
  subst e
  obtain ⟨⟨jv, ts, us, a1, a2, a3, _⟩, a7, _⟩ := h
  rcases List.mem_cons.mp ha with rfl | ha
  · exact ⟨_, a1, (fun _ z => by cases z), fun _ z => by cases z⟩
  · rcases List.mem_cons.mp ha with rfl | ha
    · exact ⟨_, a7, (fun _ z => by cases z), fun _ z => by cases z⟩
    · rcases List.mem_cons.mp ha with rfl | ha
      · exact ⟨_, a2, (fun _ z => by cases z), fun _ z => by cases z⟩
      · rw [List.mem_singleton.mp ha]
        exact ⟨_, a3, (fun _ z => by cases z), fun _ z => by cases z⟩
theorem hall_plain (C : HCl) (p : Addr) (h : Hl) : Plain (hallA C p h) := fun fp H ⟨c, _, x⟩ => by
  refine pack_plain (Plains.cons (pack_plain fun A hA => ?_) (Plains.cons (cell_plain ⟨fun _ z => (by cases z), fun _ z => (by cases z)⟩) (Plains.cons (pack_plain (Plains.cons (cell_plain ⟨fun _ z => (by cases z), fun _ z => (by cases z)⟩) (Plains.cons (pack_plain fun A hA => ?_) Plains.nil))) (Plains.cons (cell_plain ⟨fun _ z => (by cases z), fun _ z => (by cases z)⟩) Plains.nil)))) _ _ x
  · obtain ⟨y, _, rfl⟩ := List.mem_map.mp hA
    exact cell_plain ⟨fun _ z => (by cases z), fun _ z => (by cases z)⟩
  · obtain ⟨y, _, rfl⟩ := List.mem_map.mp hA
    exact pan_plain _ _ _
theorem road_plain (rd : Addr) (road : List (Option Nat × Str)) : Plain (roadA rd road) := fun fp H ⟨e, vs, h, t⟩ b hb => by
  subst e
  rw [List.mem_singleton.mp hb]
  exact ⟨_, h, (fun _ z => by cases z), fun _ z => by cases z⟩
theorem lks_plain (C : WCl) (lks : List (Nat × Lk × Addr)) : Plains (lks.map (lkP C)) := fun A hA => by
  obtain ⟨x, _, rfl⟩ := List.mem_map.mp hA
  exact look_plain _ _ _
theorem world_plain (C : WCl) (p : Addr) (w : Wd) : Plain (worldA C p w) := fun fp H ⟨c, _, x⟩ =>
  pack_plain (Plains.cons (pack_plain (lks_plain C _)) (Plains.cons (road_plain _ _) (Plains.cons (cell_plain ⟨fun _ z => (by cases z), fun _ z => (by cases z)⟩) (Plains.cons (cell_plain ⟨fun _ z => (by cases z), fun _ z => (by cases z)⟩) (Plains.cons (hall_plain _ _ _) (Plains.cons (cell_plain ⟨fun _ z => (by cases z), fun _ z => (by cases z)⟩) Plains.nil)))))) _ _ x
theorem codeO_ext {c : Addr} {q : Str} {o : HO} (h : o = LamX.CodeO c q) (p : PlainO o) : False := p.2 _ h
/-- things go through a lambda's making: their base is another one, in which the tables are known too -/
theorem Sep.away {As : List Prd} {T : List (Addr × Str)} {H0 H H1 : Hp} (TA : Things As) (PA : Plains As) (S : Sep As H0 H) (t0 : LamX.Tabs T H0) (e : LamX.ExtN H H1) (t1 : LamX.Tabs T H1) : ∃ H0', LamX.ExtN H0 H0' ∧ LamX.Tabs T H0' ∧ Sep As H0' H1 := by
  obtain ⟨x, fps, s, n⟩ := S
  have pl := sat_plain PA s
  have same : ∀ f ∈ fps, ∀ a ∈ f, H1 a = H a := fun f hf a ha => by
    obtain ⟨o, ho, hp⟩ := pl f hf a ha
    rw [ho]
    exact e _ _ ho hp.1
  have off : ∀ b o, H0 b = some o → b ∉ fps.flatten := fun b o hb k => by
    obtain ⟨f, hf, ha⟩ := List.mem_flatten.mp k
    rw [n f hf b ha] at hb
    cases hb
  refine ⟨outOf H1 fps.flatten, fun b o hb hn => ?_, fun p hp => ?_, outOf_ex, fps, sat_stay TA s (fun a xs ha => e _ _ ha fun _ z => by cases z) same, fun f hf a ha => outOf_in (List.mem_flatten.mpr ⟨f, hf, ha⟩)⟩
  · rw [outOf_out (off b o hb)]
    exact e _ _ (x _ _ hb) hn
  · obtain ⟨ps0, h0, _⟩ := t0 p hp
    obtain ⟨ps, h1, h2, h3⟩ := t1 p hp
    refine ⟨ps, by rw [outOf_out (off _ _ h0)]; exact h1, h2, fun pos cv hc => ?_⟩
    obtain ⟨c, e1, e2⟩ := h3 pos cv hc
    refine ⟨c, e1, ?_⟩
    rw [outOf_out fun k => ?_]
    · exact e2
    · obtain ⟨f, hf, ha⟩ := List.mem_flatten.mp k
      obtain ⟨o, ho, hp⟩ := pl f hf c ha
      have h := same f hf c ha
      rw [e2, ho] at h
      exact codeO_ext (Option.some.inj h).symm hp
theorem Beh.away {A : Prd} {T : List (Addr × Str)} {H0 H H1 : Hp} (TA : Thing A) (PA : Plain A) (S : Beh A H0 H) (t0 : LamX.Tabs T H0) (e : LamX.ExtN H H1) (t1 : LamX.Tabs T H1) : ∃ H0', LamX.ExtN H0 H0' ∧ LamX.Tabs T H0' ∧ Beh A H0' H1 := by
  obtain ⟨H0', e1, t2, S2⟩ := (Sep.one S).away (Things.cons TA Things.nil) (Plains.cons PA Plains.nil) t0 e t1
  obtain ⟨x, fps, s, n⟩ := S2
  match fps, s with
  | [f], s => exact ⟨H0', e1, t2, x, f, n f List.mem_cons_self, s.1⟩
end Vf
namespace Vf
open PySem PySem.Spec PyProof.Rows L2 Evl
/-! ### objects lent to a callee, known to the last bit -/
def ObjX (a : Addr) (o : Obj) : HO := .ext fun h => h.get? a = some o
abbrev Objs := List (Addr × Obj)
def Lent (ls : Objs) (H : Hp) : Prop := ∀ p ∈ ls, H p.1 = some (ObjX p.1 p.2)
def lend (ls : Objs) (H : Hp) : Hp := fun a => match ls.lookup a with
  | some o => some (ObjX a o)
  | none => H a
def unlend (ls : Objs) (H : Hp) : Hp := fun a => match ls.lookup a with
  | some _ => none
  | none => H a
theorem Lent.ex {ls : Objs} {H H' : Hp} (h : Lent ls H) (e : Ex H H') : Lent ls H' := fun p hp => e _ _ (h p hp)
section
variable {ls : Objs} {H H' : Hp} {a : Addr} {o : HO}
theorem lend_in {u : Obj} (h : ls.lookup a = some u) : lend ls H a = some (ObjX a u) := by unfold lend; rw [h]
theorem lend_out (h : ls.lookup a = none) : lend ls H a = H a := by unfold lend; rw [h]
theorem unlend_in {u : Obj} (h : ls.lookup a = some u) : unlend ls H a = none := by unfold unlend; rw [h]
theorem unlend_out (h : ls.lookup a = none) : unlend ls H a = H a := by unfold unlend; rw [h]
theorem look_mem {x : Addr} {u : Obj} : ∀ {ls : Objs}, ls.lookup x = some u → (x, u) ∈ ls
  | (y, v) :: r, h => by
    rw [List.lookup_cons] at h
    by_cases e : (x == y) = true
    · rw [e] at h
      cases h
      have e : x = y := by simpa using e
      rw [e]
      exact List.mem_cons_self
    · rw [Bool.eq_false_iff.mpr e] at h
      exact List.mem_cons_of_mem _ (look_mem h)
  | [], h => by cases h
theorem look_some {x : Addr} {u : Obj} : ∀ {ls : Objs}, (x, u) ∈ ls → ∃ v, ls.lookup x = some v
  | (y, v) :: r, h => by
    rw [List.lookup_cons]
    by_cases e : (x == y) = true
    · rw [e]
      exact ⟨v, rfl⟩
    · rw [Bool.eq_false_iff.mpr e]
      rcases List.mem_cons.mp h with h | h
      · cases h
        exact absurd (by simp) e
      · exact look_some h
  | [], h => nomatch h
theorem Lent.look {u : Obj} (h : Lent ls H) (e : ls.lookup a = some u) : H a = some (ObjX a u) := h _ (look_mem e)
theorem lend_lent (hf : ∀ p ∈ ls, ls.lookup p.1 = some p.2) : Lent ls (lend ls H) := fun p hp => lend_in (hf p hp)
theorem unlend_ex (e : Ex (lend ls H) H') (n : ∀ p ∈ ls, H p.1 = none) : Ex H (unlend ls H') := fun b u hb => by
  cases h : ls.lookup b with
  | none =>
    rw [unlend_out h]
    exact e _ _ ((lend_out h).trans hb)
  | some v =>
    have := n _ (look_mem h)
    rw [hb] at this
    cases this
theorem lend_ex (e : Ex (unlend ls H) H') (L : Lent ls H) : Ex H (lend ls H') := fun b u hb => by
  cases h : ls.lookup b with
  | none =>
    rw [lend_out h]
    exact e _ _ ((unlend_out h).trans hb)
  | some v =>
    rw [lend_in h, ← hb]
    exact (L.look h).symm
theorem objX_ne {o : HO} {a : Addr} (e : H a = some o) (n : ∀ φ, o ≠ .ext φ) (l : Lent ls H) : ls.lookup a = none := by
  cases h : ls.lookup a with
  | none => rfl
  | some v =>
    have := l.look h
    rw [e] at this
    exact absurd (Option.some.inj this) (n _)
end
section
variable {P : Program} {w : World} {ls : Objs} {H H' : Hp} {h h' : Heap}
/-- what isn't lent any more stays right -/
theorem hok_unlend (x : L2.HOk P w H h) (L : Lent ls H) : L2.HOk P w (unlend ls H) h := fun b u hb => by
  cases e : ls.lookup b with
  | some v => rw [unlend_in e] at hb; cases hb
  | none =>
    rw [unlend_out e] at hb
    refine (x b u hb).stay (fun _ _ _ z => z) (fun c hc => ?_) fun c xs hc => ?_
    · rw [unlend_out (objX_ne hc (fun _ z => by cases z) L)]
      exact hc
    · rw [unlend_out (objX_ne hc (fun _ z => by cases z) L)]
      exact hc
theorem objX_ok {a : Addr} {u : Obj} (e : h.get? a = some u) : ObjOk P w H h a (ObjX a u) := ⟨e, ⟨_, e⟩, fun h1 h2 z k => k _ z⟩
/-- lent, what stands in the heap -/
theorem hok_lend (x : L2.HOk P w H h) (g : ∀ p ∈ ls, h.get? p.1 = some p.2) (n : ∀ p ∈ ls, H p.1 = none) : L2.HOk P w (lend ls H) h := fun b u hb => by
  have off : ∀ c o, H c = some o → ls.lookup c = none := fun c o hc => by
    cases e : ls.lookup c with
    | none => rfl
    | some v =>
      have := n _ (look_mem e)
      rw [hc] at this
      cases this
  cases e : ls.lookup b with
  | some v =>
    rw [lend_in e] at hb
    cases hb
    exact objX_ok (g _ (look_mem e))
  | none =>
    rw [lend_out e] at hb
    exact (x b u hb).stay (fun _ _ _ z => z) (fun c hc => (lend_out (off c _ hc)).trans hc) fun c xs hc => (lend_out (off c _ hc)).trans hc
/-- lent in the heap ahead, kept behind: so lent again -/
theorem un_lend {fs : List Addr} (u : Un fs [] (unlend ls H) H' h h') (L : Lent ls H) : Un fs [] H (lend ls H') h h' := by
  have off : ∀ c o, H c = some o → (∀ φ, o ≠ .ext φ) → ls.lookup c = none := fun c o hc n => objX_ne hc n L
  have none_ : ∀ c, H c = none → ls.lookup c = none := fun c hc => by
    cases e : ls.lookup c with
    | none => rfl
    | some v => rw [L.look e] at hc; cases hc
  refine ⟨fun b o z n => u.keep b o z ((unlend_out (none_ b n)).trans n), fun b o z n => u.slot b o z ((unlend_out (none_ b n)).trans n), fun b o z n x => ?_, u.there, fun b xs z => ?_, fun b o v z => ?_, fun b ps z => ?_⟩
  · rw [lend_out (none_ b n)]
    exact u.free b o z ((unlend_out (none_ b n)).trans n) x
  · have e := off b _ z (fun _ z => by cases z)
    rw [lend_out e]
    exact u.tups b xs ((unlend_out e).trans z)
  · have e := off b _ z (fun _ z => by cases z)
    rw [lend_out e]
    exact u.frzs b o v ((unlend_out e).trans z)
  · have e := off b _ z (fun _ z => by cases z)
    rw [lend_out e]
    exact u.tbls b ps ((unlend_out e).trans z)
/-- lent for a call, taken back behind it -/
theorem un_back {fs : List Addr} (u : Un fs [] (lend ls H) H' h h') (n : ∀ p ∈ ls, H p.1 = none) (g : ∀ p ∈ ls, h.get? p.1 = some p.2) (g' : ∀ p ∈ ls, h'.get? p.1 = some p.2) : Un fs [] H (unlend ls H') h h' := by
  have off : ∀ c o, H c = some o → ls.lookup c = none := fun c o hc => by
    cases e : ls.lookup c with
    | none => rfl
    | some v =>
      have := n _ (look_mem e)
      rw [hc] at this
      cases this
  have same : ∀ b o v, h.get? b = some o → ls.lookup b = some v → h'.get? b = some o := fun b o v z e => by
    have h1 := g _ (look_mem e)
    have h2 := g' _ (look_mem e)
    simp only at h1 h2
    rw [h1] at z
    cases z
    exact h2
  refine ⟨fun b o z n1 f x => ?_, fun b o z n1 f x => ?_, fun b o z n1 x => ?_, u.there, fun b xs z => ?_, fun b o v z => ?_, fun b ps z => ?_⟩
  · cases e : ls.lookup b with
    | some v => exact same b o v z e
    | none => exact u.keep b o z ((lend_out e).trans n1) f x
  · cases e : ls.lookup b with
    | some v => exact ⟨o.slots, same b o v z e⟩
    | none => exact u.slot b o z ((lend_out e).trans n1) f x
  · cases e : ls.lookup b with
    | some v => exact unlend_in e
    | none =>
      rw [unlend_out e]
      exact u.free b o z ((lend_out e).trans n1) x
  · have e := off b _ z
    rw [unlend_out e]
    exact u.tups b xs ((lend_out e).trans z)
  · have e := off b _ z
    rw [unlend_out e]
    exact u.frzs b o v ((lend_out e).trans z)
  · have e := off b _ z
    rw [unlend_out e]
    exact u.tbls b ps ((lend_out e).trans z)
end
end Vf
namespace Vf
open PySem PySem.Spec PyProof.Rows L2 Evl
/-! ### a function known to the last bit, called without arguments -/
def CallV (P : Program) (w : World) (K : PySem.W.Frag) (mg : Str → Option Value) (base : Heap) (f : Addr) (k : Nat) (pre : Hp → Prop) (W : Hp → VK → XK → Prop) : Prop :=
  (∀ H, pre H → ∃ o fd, H f = some (ObjX f o) ∧ o.cls = .type "function" ∧ o.data = .func fd) ∧ ∀ (A : Around) (outer : List Env) (s : Shared) (H : Hp) (Q : VK) (E : XK), Room k A → Env0 P w K mg base A outer s H → pre H → W H Q E → codeAny (model P w) A (.call (.ref f) ⟨[], []⟩) (CR (L2.CX P w) outer P w H s Q E) s
/-- what is known of a lambda that was made in X, of its code object and of the cells that it reads -/
structure LamAt (X : Cx) (σ : L2.St) (scope : Scope) (params : Arguments) (body : Expr) (f c' : Addr) (pm ctv : Value) (ls lc : Objs) : Prop where
  obj : ls.lookup f = some (PySem.W.kla_obj "<lambda>" (X.env.qual ++ "<lambda>") params body scope (cloFrom X.env.cells scope.names []) pm c' ctv)
  cells : ∀ x c, (cloFrom X.env.cells scope.names []).lookup x = some c → ∃ ox v, lc.lookup c = some ox ∧ ox.data = .cell v
  vals : ∀ (i : Nat) (x : Str) (v : V), X.N[i]? = some x → σ[i]? = some (some v) → scope.names.lookup x = some .free → ∃ c ox u, (cloFrom X.env.cells scope.names []).lookup x = some c ∧ lc.lookup c = some ox ∧ ox.data = .cell (some u) ∧ RelV v u
  sub : ∀ p ∈ lc, ls.lookup p.1 = some p.2
  len : σ.length = X.N.length
section
variable {X : Cx} {scope : Scope}
theorem clo_cells (L : LamX.LamS X.env.scope scope) (ok : X.Ok) {x : Str} {c : Addr} (e : (cloFrom X.env.cells scope.names []).lookup x = some c) : X.env.cells.lookup x = some c := by
  rcases cloFrom_mem (PySem.mem_of_lookup e) with z | ⟨z1, z2⟩
  · nomatch z
  · obtain ⟨c1, e1⟩ := L.has ok _ z1 rfl
    have e1 : X.env.cells.lookup x = some c1 := e1
    have : c = c1 := by rw [z2, e1] <;> rfl
    rw [this]
    exact e1
theorem env_unlend {P : Program} {w : World} {K : PySem.W.Frag} {mg : Str → Option Value} {base : Heap} {A : Around} {outer : List Env} {s : Shared} {H : Hp} {lc : Objs} (e : Env0 P w K mg base A outer s H) (L : Lent lc H) : Env0 P w K mg base A outer s (unlend lc H) := by
  have no : ∀ b, H b = none → unlend lc H b = none := fun b hb => by
    cases q : lc.lookup b with
    | none => rw [unlend_out q]; exact hb
    | some v => exact unlend_in q
  exact { frames := e.frames, mod := e.mod, bs := fun b o q => ⟨(e.bs b o q).1, no b (e.bs b o q).2⟩, bsz := e.bsz, funs := e.funs, frf := fun b q => no b (e.frf b q), hok := hok_unlend e.hok L, bare := e.bare }
/-- the lambda's body is entered: its captured names are read from cells that were lent -/
theorem lam_enter {A : Around} {outer : List Env} {s : Shared} {σ : L2.St} {H : Hp} {E : XK} {params : Arguments} {body : Expr} {f c' : Addr} {pm ctv : Value} {ls lc : Objs} {h1 : Heap} {tk : Nat} (ok : X.Ok) (L : LamX.LamS X.env.scope scope) (M : LamAt X σ scope params body f c' pm ctv ls lc)
    (e0 : Env0 X.prog X.w X.K X.mg X.base A outer s H) (hA : A.handled = none) (lnt : Lent lc H) (ns : h1.Ns s.heap.objs.size fun y => ([] : List (Str × Value)).reverse.lookup y) (old : ∀ b o, s.heap.get? b = some o → h1.get? b = some o) :
    Inv (LamX.lamCx X A outer s (unlend lc H) E scope f c') [] σ (unlend lc H) { s with heap := h1, toks := tk } := by
  have e1 := env_unlend e0 lnt
  have cellAt : ∀ {c : Addr} {ox : Obj} {v : Option Value}, lc.lookup c = some ox → ox.data = .cell v → h1.IsCell c v := fun {c ox v} q d => ⟨ox, old _ _ (e0.hok c _ (lnt.look q)).1, d⟩
  have free_ : ∀ {y : Str}, scope.names.lookup y = some .free → ∃ c, (cloFrom X.env.cells scope.names []).lookup y = some c := fun {y} q => mem_lookup (cloFrom_has (cells := X.env.cells) (acc := []) (PySem.mem_of_lookup q))
  have nil_ : ∀ b : Addr, b ∉ (LamX.lamCx X A outer s (unlend lc H) E scope f c').ex := fun b z => nomatch (show b ∈ ([] : List Addr) from z)
  have ok1 : (LamX.lamCx X A outer s (unlend lc H) E scope f c').Ok :=
    { mod := e1.mod
      kind := L.kind
      glob := rfl
      blt := rfl
      above := Nat.le_refl _
      inj := fun y z c q1 q2 => ok.inj y z c (clo_cells L ok q1) (clo_cells L ok q2)
      has := fun y q => q.elim (fun q => absurd rfl (L.own _ (PySem.mem_of_lookup (show scope.names.lookup y = some .cell from q))).2) fun q => free_ q
      cab := fun y c z _ => by have z : false = true := z; cases z
      hd := fun _ => hA
      frames := Around.frames_deeper e1.frames
      stk := .inr ⟨rfl, rfl⟩
      exf := fun b z => absurd z (nil_ b)
      bs := e1.bs
      bsz := e1.bsz
      noex := fun b _ _ => nil_ b
      exfs := fun b z => absurd z (nil_ b)
      funs := e1.funs
      frf := e1.frf }
  exact
    { ok := ok1
      os := rfl
      bare := e1.bare
      base := Un.kept old
      loc := ⟨_, ns, fun i y v q1 q2 q3 => by
        have q3 : Vis scope y := q3
        rcases q3 with q | q | q
        · exact absurd rfl (L.own _ (PySem.mem_of_lookup q)).1
        · exact absurd rfl (L.own _ (PySem.mem_of_lookup q)).2
        · obtain ⟨c, ox, u, g1, g2, g3, g4⟩ := M.vals i y v q1 q2 q
          exact ⟨u, g4, .inr ⟨.inr q, c, g1, cellAt g2 g3⟩⟩⟩
      cell := fun y c q => by
        obtain ⟨ox, v, g1, g2⟩ := M.cells y c q
        exact ⟨v, cellAt g1 g2⟩
      free := e1.hok.fresh (Nat.le_refl _)
      freeC := fun y c q => by
        obtain ⟨ox, v, g1, g2⟩ := M.cells y c q
        exact unlend_in g1
      pin := fun q hq => nomatch (show q ∈ ([] : List (Addr × Obj)) ++ [] from hq)
      hok := e1.hok.kept old
      len := M.len }
/-- behind a call that let an exception out, what was lent is there as before -/
theorem cx_lend {P : Program} {w : World} {outer : List Env} {s s' : Shared} {H : Hp} {E : XK} {e : Value} {lc : Objs} (lnt : Lent lc H) (ok : L2.HOk P w H s.heap) (frf : ∀ b ∈ frs outer, H b = none) (h : L2.CX P w outer (unlend lc H) s (fun cls d H' => E cls d (lend lc H')) e s') : L2.CX P w outer H s E e s' := by
  obtain ⟨a, B, H', cls, d, rfl, fl, okB, ub, na, os, ag, q⟩ := h
  have none_ : ∀ c, H c = none → lc.lookup c = none := fun c hc => by
    cases e : lc.lookup c with
    | none => rfl
    | some v => rw [lnt.look e] at hc; cases hc
  have off : ∀ c o, H c = some o → (∀ φ, o ≠ .ext φ) → lc.lookup c = none := fun c o hc n => objX_ne hc n lnt
  have atB : ∀ c ox, lc.lookup c = some ox → B.get? c = some ox := fun c ox q => by
    have h1 := lnt.look q
    exact ub.keep c ox (ok c _ h1).1 (unlend_in q) fun z => by
      rw [frf c z] at h1
      cases h1
  have noB : lc.lookup a = none := by
    cases q : lc.lookup a with
    | none => rfl
    | some ox =>
      have h1 := atB a ox q
      have h2 : B.get? a = none := fl.2.1
      rw [h1] at h2
      cases h2
  refine ⟨a, B, lend lc H', cls, d, rfl, fl, fun b u hb => ?_, ⟨fun b o z n f => ub.keep b o z ((unlend_out (none_ b n)).trans n) f, ub.slot, fun b o z n => ?_, ub.there, fun b xs z => ?_, fun b o v z => ?_, fun b ps z => ?_⟩, by rw [lend_out noB]; exact na, os, ag, q⟩
  · cases q : lc.lookup b with
    | some ox =>
      rw [lend_in q] at hb
      cases hb
      exact objX_ok (atB b ox q)
    | none =>
      rw [lend_out q] at hb
      have off2 : ∀ c o, H' c = some o → (∀ φ, o ≠ .ext φ) → lend lc H' c = some o := fun c o hc n => by
        cases q2 : lc.lookup c with
        | none => rw [lend_out q2]; exact hc
        | some ox =>
          have h1 : H' c = none := ub.free c ox (ok c _ (lnt.look q2)).1 (unlend_in q2)
          rw [h1] at hc
          cases hc
      exact (okB b u hb).stay (fun _ _ _ z => z) (fun c hc => off2 c _ hc (fun _ z => by cases z)) fun c xs hc => off2 c _ hc (fun _ z => by cases z)
  · rw [lend_out (none_ b n)]
    exact ub.free b o z ((unlend_out (none_ b n)).trans n)
  · have e := off b _ z (fun _ z => by cases z)
    rw [lend_out e]
    exact ub.tups b xs ((unlend_out e).trans z)
  · have e := off b _ z (fun _ z => by cases z)
    rw [lend_out e]
    exact ub.frzs b o v ((unlend_out e).trans z)
  · have e := off b _ z (fun _ z => by cases z)
    rw [lend_out e]
    exact ub.tbls b ps ((unlend_out e).trans z)
theorem callV_lam {σ : L2.St} {params : Arguments} {body : Expr} {f c' : Addr} {pm ctv : Value} {ls lc : Objs} {k : Nat} {t : XK → TE} (ok : X.Ok) (L : LamX.LamS X.env.scope scope) (M : LamAt X σ scope params body f c' pm ctv ls lc)
    (hb : ∀ (q : Str) (cl : List (Str × Addr)) (pm cv ctv : Value), bindArgs (PySem.W.kla_fn "<lambda>" q params body scope cl pm cv ctv) ⟨[], []⟩ = pure [])
    (hbody : ∀ (A : Around) (outer : List Env) (s : Shared) (H : Hp) (E : XK) (f c' : Addr), Room k (A.deeper (LamX.lamEnv X scope s.heap.objs.size f c')) → PE (LamX.lamCx X A outer s H E scope f c') body (t E)) :
    CallV X.prog X.w X.K X.mg X.base f (k + 1) (fun H => Lent ls H ∧ H c' = some (LamX.CodeO c' (X.env.qual ++ "<lambda>"))) (fun H Q E => t (fun cls d H' => E cls d (lend lc H')) σ (unlend lc H) fun v H' => Q v (lend lc H')) := by
  refine ⟨fun H z => ⟨_, _, z.1.look M.obj, rfl, rfl⟩, fun A outer s H Q E hr e0 ⟨lnt, hcd⟩ h => ?_⟩
  have lnt2 : Lent lc H := fun p hp => lnt p (look_mem (M.sub p hp))
  have hfo := (e0.hok f _ (lnt.look M.obj)).1
  obtain ⟨⟨oc, vs, tq, hco, k2, k3⟩, _, _⟩ := e0.hok c' _ hcd
  have inner : codeAny (model X.prog X.w) A (.call (.ref f) ⟨[], []⟩) (CR (L2.CX X.prog X.w) outer X.prog X.w (unlend lc H) s (fun v H' => Q v (lend lc H')) (fun cls d H' => E cls d (lend lc H'))) s := by
    refine PySem.W.kla_callFunE hr.depth hfo rfl L.co L.gen rfl ⟨c', oc, vs, tq, rfl, hco, k2, k3⟩ ?_
    rw [hb]
    have lim : s.heap.NoLimit := e0.mod.nolimit.keeps fun b o q => (e0.bs b o q).1
    refine wpAny_pure (wpAny_newFunctionEnv (fun y hy => (L.own y hy).2) (fun y hy => nomatch hy) (fun h1 ns sb => ⟨lim.fresh _ sb, ?_⟩) L.kind)
    have J := lam_enter (E := fun cls d H' => E cls d (lend lc H')) (tk := s.toks + ([] : List (Str × Value)).length) ok L M e0 hr.hd lnt2 ns fun b o q => sb.extBut b o (Nat.ne_of_lt (Heap.lt_size q)) (Heap.get?_push_of_some _ q)
    exact PySem.W.kla_codeExpr (wpAny_mono ((hbody A outer s (unlend lc H) _ f c' (hr.deeper _)).run [] _ σ (unlend lc H) _ J h) (fun v s' ⟨v1, H1, J1, r1, q1⟩ => ⟨v1, H1, J1.os, J1.bare, J1.base, J1.hok, r1, q1⟩) fun e s' hq => hq)
  refine codeAny_mono inner fun r s' hq => ?_
  cases r with
  | error e => exact cx_lend lnt2 e0.hok e0.frf hq
  | ok fl =>
    cases fl with
    | next => exact hq
    | brk => exact hq
    | cont => exact hq
    | ret u =>
      obtain ⟨v, H1, os, bare, un, okh, rv, q⟩ := hq
      refine ⟨v, lend lc H1, os, bare, un_lend un lnt2, ?_, rv, q⟩
      refine hok_lend okh (fun p hp => ?_) fun p hp => ?_
      · have q1 : lc.lookup p.1 = some p.2 := by
          obtain ⟨v2, hv2⟩ := look_some hp
          have h1 := M.sub _ (look_mem hv2)
          have h2 := M.sub p hp
          simp only at h1
          rw [h2] at h1
          rw [hv2, Option.some.inj h1]
        have h1 := lnt2.look q1
        exact un.keep p.1 p.2 (e0.hok _ _ h1).1 (unlend_in q1) (fun z => by rw [e0.frf _ z] at h1; cases h1) (by simp)
      · obtain ⟨v2, hv2⟩ := look_some hp
        have h1 := lnt2.look hv2
        exact un.free p.1 v2 (e0.hok _ _ h1).1 (unlend_in hv2) (by simp)
end
end Vf
namespace Vf
open PySem PySem.Spec PyProof.Rows L2 Evl
/-! ### a lambda is made: it stands behind all that there was -/
section
variable {X : Cx} {pins : List (Addr × Obj)} {σ : L2.St} {H : Hp} {s : Shared}
theorem lam_new {T : List (Addr × Str)} {c P : Addr} {params : Arguments} {body : Expr} {scope : Scope} {pos : Pos} {E Q : Value → Shared → Prop} (I : Inv X pins σ H s) (TB : LamX.TabB X.base X.mg c P) (isC : X.env.code = .ref c) (mem : (P, X.env.qual ++ "<lambda>") ∈ T)
    (one : ∀ p ∈ T, p.1 = P → p.2 = X.env.qual ++ "<lambda>") (tabs : LamX.Tabs T H) (plain : defaultsOf params X.env = ([], [])) (fr : ∀ y ∈ scope.names, y.2 = .free → ∃ c, X.env.cells.lookup y.1 = some c)
    (next : ∀ (f c' : Addr) (pm ctv : Value) (H1 : Hp) (s' : Shared), Inv X pins σ H1 s' → LamX.ExtN H H1 → LamX.Tabs T H1 → s.heap.objs.size ≤ f → s'.heap.get? f = some (PySem.W.kla_obj "<lambda>" (X.env.qual ++ "<lambda>") params body scope (cloFrom X.env.cells scope.names []) pm c' ctv) → H1 f = none → H1 c' = some (LamX.CodeO c' (X.env.qual ++ "<lambda>")) → Q (.ref f) s') :
    wpAny (model X.prog X.w) X.A (eval (.Lambda params body scope pos) X.env) Q E s := by
  obtain ⟨ps, gP, tri, codes⟩ := tabs _ mem
  have stP : s.heap.get? P = some { cls := .none, data := .fields ps } := I.hok P _ gP
  have blt : s.heap.BuiltinsAt X.mg P := TB.bm.keeps I.bk
  refine PySem.W.kla_eval plain ?_
  rcases found : codeAmong pos ps.toList with _ | cv
  · refine PySem.W.kla_makeFunction (mg := X.mg) (c := c) (P := P) (ps := ps) (closure_ok fr) I.ok.glob (I.mod.glob.keeps I.bk) isC (TB.code.keeps I.bk) stP tri found TB.gP blt fun c' ctv h2 tk keep le lt hrec tab2 => ?_
    obtain ⟨_, oc, vs, t, z, k1, k2, k3⟩ := hrec
    cases z
    have newC : H c' = none := I.hok.fresh le
    have ge : s.heap.objs.size ≤ h2.objs.size := Nat.le_trans le (Nat.le_of_lt lt)
    have J := LamX.inv_table (q := X.env.qual ++ "<lambda>") (t' := tk) (more := #[rawInt pos.line, rawInt pos.col, .ref c']) (h' := h2.push (PySem.W.kla_obj "<lambda>" (X.env.qual ++ "<lambda>") params body scope (cloFrom X.env.cells scope.names []) ((X.mg "__name__").getD .none) c' ctv)) I gP
      (fun b o nb e => Heap.get?_push_of_some _ (keep b o nb e)) (Heap.get?_push_of_some _ tab2) le ⟨oc, vs, t, Heap.get?_push_of_some _ k1, k2, k3⟩
    have grown : LamX.ExtN H (upd (upd H P (.tbl (ps ++ #[rawInt pos.line, rawInt pos.col, .ref c']))) c' (LamX.CodeO c' (X.env.qual ++ "<lambda>"))) := fun b o e no => by
      rw [upd_ne (ne_of_none e newC), upd_ne (fun z => no ps (Option.some.inj (by rw [← e, z, gP])))]
      exact e
    have nPc : P ≠ c' := ne_of_none gP newC
    have asList : (ps ++ #[rawInt pos.line, rawInt pos.col, .ref c']).toList = ps.toList ++ [rawInt pos.line, rawInt pos.col, .ref c'] := by simp
    refine next h2.objs.size c' ((X.mg "__name__").getD .none) ctv _ _ J grown (fun p hp => ?_) ge (Heap.get?_push_size _ rfl) ?_ upd_same
    · by_cases eb : p.1 = P
      · rw [one p hp eb, eb]
        refine ⟨_, (upd_ne nPc).trans upd_same, by rw [asList]; exact PySem.TriplesOk_snoc _ _ _ _ tri, fun p2 cv2 hcv => ?_⟩
        rw [asList] at hcv
        rcases LamX.among_app _ tri hcv with z | z
        · obtain ⟨c0, z1, z2⟩ := codes p2 cv2 z
          exact ⟨c0, z1, grown _ _ z2 LamX.codeO_ne⟩
        · exact ⟨c', z, upd_same⟩
      · obtain ⟨ps2, a1, a2, a3⟩ := tabs p hp
        refine ⟨ps2, ((upd_ne (ne_of_none a1 newC)).trans (upd_ne eb)).trans a1, a2, fun p2 cv2 hcv => ?_⟩
        obtain ⟨c0, z1, z2⟩ := a3 p2 cv2 hcv
        exact ⟨c0, z1, grown _ _ z2 LamX.codeO_ne⟩
    · rw [upd_ne (Nat.ne_of_gt lt), upd_ne (Nat.ne_of_gt (Nat.lt_of_lt_of_le (Heap.lt_size stP) ge))]
      exact I.hok.fresh ge
  · obtain ⟨c', rfl, hco⟩ := codes pos cv found
    refine PySem.W.kla_makeFunctionHit (mg := X.mg) (c := c) (P := P) (ps := ps) (closure_ok fr) I.ok.glob (I.mod.glob.keeps I.bk) isC (TB.code.keeps I.bk) stP tri found blt fun ctv h2 tk keep ge => ?_
    have J : Inv X pins σ H { s with heap := h2.push (PySem.W.kla_obj "<lambda>" (X.env.qual ++ "<lambda>") params body scope (cloFrom X.env.cells scope.names []) ((X.mg "__name__").getD .none) c' ctv), toks := tk } := I.kept fun b o e => Heap.get?_push_of_some _ (keep b o e)
    exact next h2.objs.size c' ((X.mg "__name__").getD .none) ctv H _ J (LamX.ExtN.refl H) tabs ge (Heap.get?_push_size _ rfl) (I.hok.fresh ge) hco
/-- what of a heap's objects is lent for the cells that a lambda reads -/
def cellsOf (h : Heap) (clo : List (Str × Addr)) : Objs := clo.filterMap fun y => (h.get? y.2).map fun o => (y.2, o)
theorem cells_at {h : Heap} {clo : List (Str × Addr)} : ∀ p ∈ cellsOf h clo, h.get? p.1 = some p.2 := fun p hp => by
  obtain ⟨y, _, e⟩ := List.mem_filterMap.mp hp
  cases q : h.get? y.2 with
  | none => rw [q] at e; cases e
  | some o =>
    rw [q] at e
    cases e
    exact q
theorem cells_key {h : Heap} {clo : List (Str × Addr)} : ∀ p ∈ cellsOf h clo, ∃ y ∈ clo, y.2 = p.1 := fun p hp => by
  obtain ⟨y, hy, e⟩ := List.mem_filterMap.mp hp
  cases q : h.get? y.2 with
  | none => rw [q] at e; cases e
  | some o =>
    rw [q] at e
    cases e
    exact ⟨y, hy, rfl⟩
theorem cells_look {h : Heap} {clo : List (Str × Addr)} {x : Str} {c : Addr} {o : Obj} (e : clo.lookup x = some c) (g : h.get? c = some o) : (cellsOf h clo).lookup c = some o := by
  have hm : (c, o) ∈ cellsOf h clo := List.mem_filterMap.mpr ⟨(x, c), PySem.mem_of_lookup e, by rw [show h.get? (x, c).2 = some o from g]; rfl⟩
  obtain ⟨v, hv⟩ := look_some hm
  have := cells_at _ (look_mem hv)
  simp only at this
  rw [g] at this
  rw [hv, Option.some.inj this]
end
end Vf
namespace Vf
open PySem PySem.Spec PyProof.Rows L2 Evl
/-! ### told of a function that is known to the last bit -/
section
variable {P : Program} {w : World} {K : PySem.W.Frag} {mg : Str → Option Value} {base : Heap}
theorem told_suite {A : Around} {outer : List Env} {s : Shared} {H : Hp} {E : XK} {cH cN c1 c2 c3 c4 c5 c6 g : Addr} {cdg : Value} (T : TTld K mg cH cN c1 c2 c3 c4 c5 c6) {a : Addr} {oe : Obj} {pn : List (Addr × Obj)} {D : Ends} {σ : L2.St} {Hs : Hp} (hz : Zc (.ref cN) none oe) (hf : ∃ vs, oe.data = .fields vs) (hl : σ.length = 4) (h1 : σ[1]? = some (some (.ref a)))
    (h : ∀ t H2, Ex Hs H2 → Hs t = none → H2 t = some (.tup [.str (Str.ofString "NoLook"), .int 0]) → D.rt (.ref t) H2) :
    ∃ t, PSs ((cxOf CX0 P w K mg base ["_law_work", "e", "_law_kinds", "_law_word"] "_law_told" (defScope sTld) g cdg A outer s H E).nox.suite a ((a, oe) :: pn)) sTldSuite t ∧ t D σ Hs := by
  have EC := T.ec
  have XF := T.xf
  refine ⟨_, (pss_cons (ps_set (i := 2) scTld.nd rfl (Or.inl rfl) (pe_lst (pa_cons (pe_callB (call_isE EC hz hf) (by rfl) T.z_isinstance boot_isinstance (pa_cons (pv 1) (pa_cons (pgR T.mg_BadCount) pa_nil))) (pa_cons (pe_callB (call_isE EC hz hf) (by rfl) T.z_isinstance boot_isinstance (pa_cons (pv 1) (pa_cons (pgR T.mg_BadFields) pa_nil))) (pa_cons (pe_callB (call_isE EC hz hf) (by rfl) T.z_isinstance boot_isinstance (pa_cons (pv 1) (pa_cons (pgR T.mg_BadLook) pa_nil))) (pa_cons (pe_callB (call_isE EC hz hf) (by rfl) T.z_isinstance boot_isinstance (pa_cons (pv 1) (pa_cons (pgR T.mg_BadSign) pa_nil))) pa_nil))))))
      (pss_cons (ps_set (i := 2) scTld.nd rfl (Or.inl rfl) (pe_op op_cat (pv 2) (pe_lst (pa_cons (pe_callB (call_isE EC hz hf) (by rfl) T.z_isinstance boot_isinstance (pa_cons (pv 1) (pa_cons (pgR T.mg_BadSize) pa_nil))) (pa_cons (pe_callB (call_isE EC hz hf) (by rfl) T.z_isinstance boot_isinstance (pa_cons (pv 1) (pa_cons (pgR T.mg_BadText) pa_nil))) (pa_cons (pe_callB (call_isE EC hz hf) (by rfl) T.z_isinstance boot_isinstance (pa_cons (pv 1) (pa_cons (pgR T.mg_NoLook) pa_nil))) pa_nil))))))
      (pss_cons (ps_if (PW.pt (pw_or (pt_cmpR op_ne (pe_bm PySem.F.plainAttrs_list PySem.F.slot_list_count PySem.F.type_list_count mt_countF (pv 2) (pa_cons pe_bl pa_nil)) pe_int (nomark _)) (pw_or1 (pt_not (pt_val (pe_callB (call_isE EC hz hf) (by rfl) T.z_isinstance boot_isinstance (pa_cons (pv 1) (pa_cons (pe_bltn (v := .ty "ValueError") (by rfl) T.z_ValueError (by rfl) rfl) pa_nil)))))))) (pss_one (ps_ret (pe_tup (pa_cons pe_str (pa_cons pe_int pa_nil))))) pss_nil)
      (pss_cons (ps_set (i := 3) scTld.nd rfl (Or.inl rfl) (pe_ix ix_list (pe_lst (pa_cons pe_str (pa_cons pe_str (pa_cons pe_str (pa_cons pe_str (pa_cons pe_str (pa_cons pe_str (pa_cons pe_str pa_nil)))))))) (pe_bm PySem.F.plainAttrs_list PySem.F.slot_list_index PySem.F.type_list_index mt_index (pv 2) (pa_cons pe_bl pa_nil)) (fun _ _ => rfl)))
      (pss_cons (ps_if (pt_cmpR op_eq (pv 3) pe_str (nomark _)) (pss_one (ps_ret (pe_tup (pa_cons (pv 3) (pa_cons (pe_xf XF T.no_place hz hf (pv 1)) pa_nil))))) pss_nil)
      (pss_one (ps_ret (pe_tup (pa_cons (pv 3) (pa_cons (pe_ifExp (pt_cmpR op_eq (pv 3) pe_str (nomark _)) (pe_xf XF T.no_row hz hf (pv 1)) pe_int) pa_nil)))))))))), ?_⟩
  match σ, hl, h1 with
  | [w0, w1, w2, w3], _, h1 =>
  have h1 : w1 = some (.ref a) := Option.some.inj h1
  subst h1
  refine ⟨_, rfl, .ref c1, .ref c1, false, rfl, fun _ r => r, T.k1, _, rfl, .ref c2, .ref c2, false, rfl, fun _ r => r, T.k2, _, rfl, .ref c3, .ref c3, false, rfl, fun _ r => r, T.k3, _, rfl, .ref c4, .ref c4, false, rfl, fun _ r => r, T.k4, (by show 4 ≤ sizeLine; decide), fun q1 nq1 => ?_⟩
  have e1 := Ex.new (o := .lst [.bl false, .bl false, .bl false, .bl false]) nq1
  have h1 : upd Hs q1 (.lst [.bl false, .bl false, .bl false, .bl false]) q1 = some (.lst [.bl false, .bl false, .bl false, .bl false]) := upd_same
  refine ⟨_, rfl, _, rfl, .ref c5, .ref c5, false, rfl, fun _ r => r, T.k5, _, rfl, .ref c6, .ref c6, false, rfl, fun _ r => r, T.k6, _, rfl, .ref cN, .ref cN, true, rfl, fun _ r => r, T.k0, (by show 3 ≤ sizeLine; decide), fun q2 nq2 => ?_⟩
  have e2 := Ex.new (o := .lst [.bl false, .bl false, .bl true]) nq2
  replace h1 := e2 _ _ h1
  refine ⟨q1, q2, _, _, rfl, rfl, h1, upd_same, (by show 7 ≤ sizeLine; decide), fun q3 nq3 => ?_⟩
  have e3 := Ex.new (o := .lst [.bl false, .bl false, .bl false, .bl false, .bl false, .bl false, .bl true]) nq3
  have hx := (e1.trans e2).trans e3
  have h3 : upd (upd (upd Hs q1 (.lst [.bl false, .bl false, .bl false, .bl false])) q2 (.lst [.bl false, .bl false, .bl true])) q3 (.lst [.bl false, .bl false, .bl false, .bl false, .bl false, .bl false, .bl true]) q3 = some (.lst [.bl false, .bl false, .bl false, .bl false, .bl false, .bl false, .bl true]) := upd_same
  refine ⟨_, rfl, .inl ⟨rfl, _, SqL.of h3⟩, q3, _, .bl true, rfl, rfl, SqL.of h3, rfl, rfl, ?_⟩
  refine ⟨rfl, _, rfl, iteF ?_⟩
  refine ⟨_, rfl, .ty "ValueError", .type "ValueError", true, rfl, fun _ r => r, T.kv, true, rfl, iteF ?_⟩
  refine ⟨(by show 7 ≤ sizeLine; decide), fun q4 nq4 => ?_⟩
  have e4 := Ex.new (o := .lst [.str (Str.ofString "BadCount"), .str (Str.ofString "BadFields"), .str (Str.ofString "BadLook"), .str (Str.ofString "BadSign"), .str (Str.ofString "BadSize"), .str (Str.ofString "BadText"), .str (Str.ofString "NoLook")]) nq4
  refine ⟨_, rfl, .inl ⟨rfl, _, SqL.of (e4 _ _ h3)⟩, q3, _, .bl true, 6, .bl true, rfl, rfl, SqL.of (e4 _ _ h3), rfl, rfl, rfl, rfl, (fun m z hm hz => ?_), q4, _, (6 : Int), .str (Str.ofString "NoLook"), rfl, rfl, SqL.of upd_same, atI_nat (j := 6) rfl, ?_⟩
  · match m, hm with
    | 0, _ => cases hz; rfl
    | 1, _ => cases hz; rfl
    | 2, _ => cases hz; rfl
    | 3, _ => cases hz; rfl
    | 4, _ => cases hz; rfl
    | 5, _ => cases hz; rfl
  refine ⟨_, rfl, rfl, _, rfl, ?_⟩
  rw [decide_eq_false (show ¬ V.str (Str.ofString "NoLook") = V.str (Str.ofString "BadSign") from fun z => neBadSign (by injection z))]
  refine iteF ?_
  refine ⟨_, rfl, _, rfl, rfl, _, rfl, ?_⟩
  rw [decide_eq_false (show ¬ V.str (Str.ofString "NoLook") = V.str (Str.ofString "BadText") from fun z => neBadText (by injection z))]
  refine iteF ?_
  refine ⟨(by show 2 ≤ sizeLine; decide), fun t nt => ?_⟩
  refine h t _ ((hx.trans e4).trans (Ex.new nt)) ?_ upd_same
  cases e : Hs t with
  | none => rfl
  | some o => rw [(hx.trans e4) _ _ e] at nt; cases nt

/-- f() of a name that holds such a function -/
theorem pe_callV {X : Cx} {i k : Nat} {f : Addr} {pre : Hp → Prop} {W : Hp → VK → XK → Prop} {E : XK} {a : Str} {p1 p2 : Pos} (C : CallV X.prog X.w X.K X.mg X.base f k pre W) (hr : Room k X.A) (hx : Passes (L2.CX X.prog X.w) X E) (hN : X.N[i]? = some a) (hv : Vis X.env.scope a) (hd : (a == ("__debug__" : Str)) = false := by decide) (hcd : (a == ("__classdict__" : Str)) = false := by decide) :
    PE X (.Call (.Name a p1) [] [] p2) (fun σ H Q => σ[i]? = some (some (.ref f)) ∧ pre H ∧ W H Q E) := by
  refine ⟨fun pins s σ H Q I ⟨z1, z2, z3⟩ => ?_⟩
  refine wpAny_Call_Name_kw (thn ((pe_var (pos := p1) (i := i) hN hv hd hcd).run pins s σ H (fun v H1 => v = .ref f ∧ H1 = H) I ⟨.ref f, z1, rfl, rfl⟩) fun u s1 ⟨v, H1, I1, r1, e1, e2⟩ => ?_)
  subst e1 e2
  obtain rfl : u = Value.ref f := r1
  obtain ⟨known, run⟩ := C
  obtain ⟨o, fd, ho, hc, hdt⟩ := known _ z2
  have at_ := (I1.hok f _ ho).1
  obtain ⟨oc, od, odt, osl⟩ := o
  simp only at hc hdt
  subst hc hdt
  refine PySem.W.callWith_F0 ⟨_, _, _, _, at_⟩ (wpAny_call (codeAny_mono (run X.A X.stack s1 H1 Q E hr I1.env0 z2 z3) fun r s2 hq => ?_))
  cases r with
  | error e => exact hx pins σ H1 s1 e s2 I1 hq
  | ok fl =>
    cases fl with
    | ret u => exact I1.after hq
    | next => exact hq.elim
    | brk => exact hq.elim
    | cont => exact hq.elim
def spTldV (P : Program) (w : World) (K : PySem.W.Frag) (mg : Str → Option Value) (base : Heap) (cN : Addr) (k : Nat) : Sp := fun vs H Q _ => ∃ (g : Addr) (pre : Hp → Prop) (W : Hp → VK → XK → Prop), vs = [.ref g] ∧ CallV P w K mg base g k pre W ∧ pre H ∧ W H Q (E14 cN Q)
theorem ok_toldV {k : Nat} {f cH cN c1 c2 c3 c4 c5 c6 : Addr} {fd : FuncData} (F : Fun K "_law_told" "_law_told" sTld f fd) (T : TTld K mg cH cN c1 c2 c3 c4 c5 c6) : FnOk P w K mg base CX0 (k + 1) f fd ["_law_work"] (spTldV P w K mg base cN k) := by
  refine F.ok scTld (fun vs H Q E h => ?_) (fun cdv A outer s H vs Q E hr h => ?_)
  · obtain ⟨g, pre, W, rfl, _⟩ := h
    rfl
  · obtain ⟨g, pre, W, rfl, C, lnt, h⟩ := h
    refine ⟨_, pss_one (ps_try_as (X := (cxOf CX0 P w K mg base ["_law_work", "e", "_law_kinds", "_law_word"] "_law_told" (defScope sTld) f cdv A outer s H E).nox) (i := 1) (c := .ref cH)
        (tb := fun Wx D σ H => ∃ Ech : XK, (∀ cls d (σ' : L2.St) H', Ech cls d H' → σ'.length = 4 → Wx cls d σ' H') ∧ σ[0]? = some (some (.ref g)) ∧ pre H ∧ W H D.rt Ech) (ts := ts14 cN)
        rfl rfl scTld.nd rfl rfl ⟨rfl, by decide, .inl T.mg_HallError⟩ LamX.takes0 (fun Wx pn xe tk _ => ?_) (fun a oe cls d pn hz hf => ?_)), ?_⟩
    · refine ⟨fun pins s' σ H' D I h' => ?_⟩
      obtain ⟨Ech, hW, g1, g2, g3⟩ := h'
      have tk' : Takes _ (fun cls d (σ : L2.St) H => σ.length = 4 → Wx cls d σ H) := fun u s' ⟨a, B, sI, pins, σ, H, cls, d, e, I, nb, up, sky, na, os, ag, w⟩ => tk u s' ⟨a, B, sI, pins, σ, H, cls, d, e, I, nb, up, sky, na, os, ag, w I.len⟩
      exact (pss_one (ps_ret (pe_callV (i := 0) C hr (passes_call tk' hW) rfl (Or.inl rfl)))).run pins s' σ H' D I ⟨g1, g2, g3⟩
    · refine ⟨fun pins s' σ Hs D I h => ?_⟩
      obtain ⟨rfl, rfl, hl, h1, h⟩ := h
      obtain ⟨t, ht, hq⟩ := told_suite (A := A) (outer := outer) (s := s) (H := H) (E := E) (g := f) (cdg := cdv) (pn := pn) T hz hf hl h1 h
      exact ht.run pins s' σ Hs D I hq
    · exact ⟨E14 cN Q, fun cls d σ' H' ⟨e1, e2, e3⟩ hl => ⟨true, by rw [e1]; exact T.hit, fun _ a ha => ⟨e1, e2, by rw [List.length_set]; exact hl, List.getElem?_set_self (by omega), e3⟩, fun z => by cases z⟩, rfl, lnt, h⟩
end
end Vf
namespace Vf
open PySem PySem.Spec PyProof.Rows L2 Evl
/-! ### all of these are refused -/
abbrev sAll : Stmt := topS 69
theorem scAll : FnScope ["_law_works", "_law_due", "_law_work"] ["_law_works", "_law_due"] (defScope sAll) := ⟨rfl, rfl, rfl, by decide +kernel, rfl, by decide +kernel, by decide +kernel⟩
def nlV : List V := [.str (Str.ofString "NoLook"), .int 0]
def nlD : PyData := .tuple [.str (Str.ofString "NoLook"), .int 0]
theorem nl_good : good 4 nlD = true := by decide +kernel
/-- f() is refused, whatever else there is -/
structure RefF (P : Program) (w : World) (K : PySem.W.Frag) (mg : Str → Option Value) (base : Heap) (cN : Addr) (k : Nat) (H : Hp) (g : Addr) : Prop where
  ex : ∃ (pre : Hp → Prop) (W : Hp → VK → XK → Prop), CallV P w K mg base g k pre W ∧ pre H ∧ (∀ H H', Ex H H' → pre H → pre H') ∧ ∀ (H' : Hp) (Q : VK) (E : XK), Ex H H' → (∀ H'', Ex H' H'' → E (.ref cN) none H'') → W H' Q E
def spAllV (P : Program) (w : World) (K : PySem.W.Frag) (mg : Str → Option Value) (base : Heap) (cN : Addr) (k : Nat) : Sp := fun vs H Q _ => ∃ (L D : Addr) (gs : List Addr), vs = [.ref L, .ref D] ∧ H L = some (.lst (gs.map V.ref)) ∧ H D = some (.tup nlV) ∧ (∀ g ∈ gs, RefF P w K mg base cN k H g) ∧ ∀ H', Ex H H' → Q (.bl true) H'
section
variable {P : Program} {w : World} {K : PySem.W.Frag} {mg : Str → Option Value} {base : Heap}
structure CAll (P : Program) (w : World) (K : PySem.W.Frag) (mg : Str → Option Value) (base : Heap) (cN : Addr) (k : Nat) : Prop where
  law_told : Cal P w K mg base "_law_told" (k + 1) ["_law_work"] (spTldV P w K mg base cN k)
  law_alike : Cal P w K mg base "_law_alike" 5 ["_law_found", "_law_due"] (spAli K 4)
theorem ok_all {k : Nat} {f cN : Addr} {fd : FuncData} (hk : 4 ≤ k) (F : Fun K "_law_all" "_law_all" sAll f fd) (C : CAll P w K mg base cN k) : FnOk P w K mg base CX0 (k + 2) f fd ["_law_works", "_law_due"] (spAllV P w K mg base cN k) := by
  refine F.ok scAll (fun vs H Q E h => ?_) (fun cdv A outer s H vs Q E hr h => ?_)
  · obtain ⟨L, D, gs, rfl, _⟩ := h
    rfl
  · obtain ⟨L, D, gs, rfl, hL, hD, hg, q⟩ := h
    refine ⟨_, (pss_one (ps_ret (pe_cmpR (op_eqD hr.units) (pe_lc (own := [("_law_work", 2)]) (g := gName 2) rfl scAll.nd (pi_list (pv 0)) (blkOk_by (own := [("_law_work", 2)]) (N := ["_law_works", "_law_due", "_law_work"]) (sc := defScope sAll) (by decide +kernel)) (fun _ _ _ _ _ => pg_name (i := 2) scAll.nd rfl (Or.inl rfl)) (fun _ _ _ _ _ => pts_one (pt_not (pt_val (pcall C.law_alike (hr.mono (by first | decide | omega)) (pa_cons (pcall C.law_told (hr.mono (by first | decide | omega)) (pa_cons (pv 2) pa_nil)) (pa_cons (pv 1) pa_nil)))))) (fun _ _ _ _ _ => (pv 2))) (pe_lst pa_nil) (nomark _)))), ?_⟩
    refine ⟨_, rfl, L, rfl, ⟨_, SqL.of hL⟩, fun R nR => ?_⟩
    refine lc_it (walk_list (K := K) (a := L) (xs := gs.map V.ref)) (fun i H' => Ex H H' ∧ H' R = some (.lst [])) ⟨Ex.new nR, upd_same⟩ (fun i H' _ h => SqL.of (h.1 _ _ hL)) ?_ ?_
    · rintro i v Ho H2 hi ⟨e, hR⟩ ⟨rfl, hx⟩
      rw [List.getElem?_map] at hx
      obtain ⟨g, hgi, rfl⟩ := Option.map_eq_some_iff.mp hx
      obtain ⟨pre, W, CV, lnt, st, hW⟩ := (hg g (List.mem_of_getElem? hgi)).ex
      refine ⟨rfl, _, rfl, g, pre, W, rfl, CV, st _ _ e lnt, hW _ _ _ e fun H3 e3 => ⟨rfl, rfl, fun t H4 x4 nt ht => ?_⟩⟩
      have e4 := (e.trans e3).trans x4
      refine ⟨_, rfl, _, _, nlD, rfl, .tup (SqT.of ht) (.cons (.str _) (.cons (.int _) .nil)), .tup (SqT.of (e4 _ _ hD)) (.cons (.str _) (.cons (.int _) .nil)), nl_good, by decide, true, rfl, iteF ⟨e4, (e3.trans x4) _ _ hR⟩⟩
    · rintro H2 ⟨e, hR⟩
      refine ⟨Nat.zero_le _, fun R2 nR2 => ?_⟩
      have e2 := Ex.new (o := .lst []) nR2
      refine ⟨.list [], .list [], .lst (SqL.of (e2 _ _ hR)) .nil, .lst (SqL.of upd_same) .nil, by decide +kernel, by decide +kernel, ?_⟩
      rw [SeqAt.eqv_refl _ (by decide +kernel)]
      exact q _ (e.trans e2)
end
end Vf
namespace Vf
open PySem PySem.Spec PyProof.Rows L2 Evl
/-! ### a def called, to which some objects are lent -/
section
variable {X : Cx} {pins : List (Addr × Obj)} {σ : L2.St} {H : Hp} {s : Shared}
theorem run_lent {k : Nat} {g : Addr} {fd : FuncData} {ps : List Str} {sp : Sp} {us : List Value} {vs : List V} {Q : VK} {ls : Objs} (F : FnOk X.prog X.w X.K X.mg X.base CX0 k g fd ps sp) (room : Room k X.A) (bind : Binds X.K fd ps []) (I : Inv X pins σ H s) (r : Vals vs us)
    (at_ : ∀ p ∈ ls, s.heap.get? p.1 = some p.2 ∧ H p.1 = none ∧ X.base.get? p.1 = none ∧ p.1 ∉ frs X.stack) (uniq : ∀ p ∈ ls, ls.lookup p.1 = some p.2)
    (h : sp vs (lend ls H) (fun v H2 => Lent ls H2 ∧ Q v (unlend ls H2)) E0) : wpAny (model X.prog X.w) X.A (call (.ref g) us) (EP X pins σ Q) X.xe s := by
  have e0 := I.env0
  have off : ∀ b, (∀ p ∈ ls, p.1 ≠ b) → lend ls H b = H b := fun b hb => by
    cases q : ls.lookup b with
    | none => exact lend_out q
    | some v => exact absurd rfl (hb _ (look_mem q))
  have e1 : Env0 X.prog X.w X.K X.mg X.base X.A X.stack s (lend ls H) :=
    { frames := e0.frames
      mod := e0.mod
      bs := fun b o q => ⟨(e0.bs b o q).1, by
        rw [off b fun p hp z => by
          have := (at_ p hp).2.2.1
          rw [z, q] at this
          cases this]
        exact (e0.bs b o q).2⟩
      bsz := e0.bsz
      funs := e0.funs
      frf := fun b q => by
        rw [off b fun p hp z => (at_ p hp).2.2.2 (z ▸ q)]
        exact e0.frf b q
      hok := hok_lend e0.hok (fun p hp => (at_ p hp).1) fun p hp => (at_ p hp).2.1
      bare := e0.bare }
  have hl : us.length = ps.length := by rw [← r.length]; exact F.len _ _ _ _ h
  refine wpAny_call (codeAny_mono (F.run X.A X.stack s (lend ls H) ⟨us, []⟩ us vs _ E0 room e1 (by have b := bind s us I.kIn (by simpa using hl); simpa using b) r h) fun q s' hq => ?_)
  cases q with
  | error e => exact (show False from hq).elim
  | ok fl =>
    cases fl with
    | next => exact hq.elim
    | brk => exact hq.elim
    | cont => exact hq.elim
    | ret u =>
      obtain ⟨v, H2, os, bare, un, hok, rv, lnt, hq⟩ := hq
      exact I.after ⟨v, unlend ls H2, os, bare, un_back un (fun p hp => (at_ p hp).2.1) (fun p hp => (at_ p hp).1) (fun p hp => (hok p.1 _ (lnt p hp)).1), hok_unlend hok lnt, rv, hq⟩
theorem frs_stack {x : Addr} (hst : X.stack = X.env :: X.outer) (hfr : X.env.frame = some X.env.locals) : x ∈ frs X.stack ↔ x = X.env.locals ∨ x ∈ X.fs := by
  rw [hst]
  unfold frs
  rw [List.filterMap_cons, hfr]
  exact List.mem_cons
/-- g([lambda: body], e2), where the lambda's call is refused -/
def tAll1 (T : List (Addr × Str)) (cN : Addr) (tb : XK → TE) (ta : TA) : TE := fun σ H Q => LamX.Tabs T H ∧ ∀ H1, LamX.ExtN H H1 → LamX.Tabs T H1 →
  (∀ (H' : Hp) (Q' : VK) (E' : XK), Ex H1 H' → (∀ H'', Ex H' H'' → E' (.ref cN) none H'') → tb E' σ H' Q') ∧
    ∀ (L f : Addr), H1 L = none → ta σ (upd H1 L (.lst [.ref f])) fun vs H3 => ∃ D, vs = [.ref D] ∧ H3 D = some (.tup nlV) ∧ Ex (upd H1 L (.lst [.ref f])) H3 ∧ ∀ H4, Ex H3 H4 → Q (.bl true) H4
theorem pe_all1 {T : List (Addr × Str)} {c P cN : Addr} {k : Nat} {params : Arguments} {body e2 : Expr} {scope : Scope} {tb : XK → TE} {ta : TA} {p lpos lp pos : Pos} (G : Cal X.prog X.w X.K X.mg X.base "_law_all" (k + 3) ["_law_works", "_law_due"] (spAllV X.prog X.w X.K X.mg X.base cN (k + 1)))
    (TB : LamX.TabB X.base X.mg c P) (isC : X.env.code = .ref c) (mem : (P, X.env.qual ++ "<lambda>") ∈ T) (one : ∀ p ∈ T, p.1 = P → p.2 = X.env.qual ++ "<lambda>") (room : Room (k + 3) X.A) (L : LamX.LamS X.env.scope scope)
    (hbody : ∀ (A : Around) (outer : List Env) (s : Shared) (H : Hp) (E : XK) (f c' : Addr), Room k (A.deeper (LamX.lamEnv X scope s.heap.objs.size f c')) → PE (LamX.lamCx X A outer s H E scope f c') body (tb E))
    (ha : PA X [e2] ta) (hg : Gl X "_law_all" := by rfl) (plain : defaultsOf params X.env = ([], []) := by rfl)
    (hbind : ∀ (q : Str) (cl : List (Str × Addr)) (pm cv ctv : Value), bindArgs (PySem.W.kla_fn "<lambda>" q params body scope cl pm cv ctv) ⟨[], []⟩ = pure [] := by intros; rfl)
    (hst : X.stack = X.env :: X.outer := by rfl) (hfr : X.env.frame = some X.env.locals := by rfl) (hfn : X.fn = fun _ => true := by rfl)
    (hpl : (backTo pos (starEach [e2] X.env)).any (·.1) = false := by rfl) :
    PE X (.Call (.Name "_law_all" p) [.List [.Lambda params body scope lpos] lp, e2] [] pos) (tAll1 T cN tb ta) := by
  refine ⟨fun pins s σ H Q I ⟨tabs, h⟩ => ?_⟩
  obtain ⟨g, fd, F, hm, hk, hb⟩ := G.ex
  refine wpAny_Call_Name_kw (ld_glob I hg hm ?_ (by decide))
  refine PySem.W.callWith_K (h₀ := X.base) I.ok.mod.kin hk ?_ (by rfl) hpl
  show wpAny _ _ (spliced ((false, eval (.List [.Lambda params body scope lpos] lp) X.env) :: backTo pos (starEach [e2] X.env))) _ _ s
  refine Calls.spliced_cons (wpAny_List_spliced ?_)
  show wpAny _ _ (spliced ((false, eval (.Lambda params body scope lpos) X.env) :: backTo lp (starEach [] X.env))) _ _ s
  refine Calls.spliced_cons (lam_new I TB isC mem one tabs plain (L.has I.ok) fun f c' pm ctv H1 s1 I1 eN t1 ge hf hfn1 hco => ?_)
  refine Calls.spliced_nil ⟨(by show 1 ≤ sizeLine; decide), ?_⟩
  obtain ⟨hbody1, h2⟩ := h H1 eN t1
  -- the lambda is pinned
  have nf : f ≠ X.env.locals ∧ f ∉ X.fs := ⟨fun z => Nat.lt_irrefl _ (Nat.lt_of_lt_of_le (z ▸ I.lt) ge), I.nofs ge⟩
  have Ip : Inv X ((f, _) :: pins) σ H1 s1 := I1.pins_of (pins' := (f, _) :: pins) fun q hq => by
    rcases List.mem_cons.mp hq with rfl | hq
    · exact ⟨hf, hfn1, nf.1, nf.2, fun v z => by cases z⟩
    · exact I1.pin q (List.mem_append_right _ hq)
  have lf : H1 s1.heap.objs.size = none := I1.hok.fresh (Nat.le_refl _)
  have I2 := Ip.laid (a := s1.heap.objs.size) (o := .lst [.ref f]) (h' := s1.heap.push { cls := .type "list", data := .seq #[.ref f] }) (t' := s1.toks) (fun b u e => Heap.get?_push_of_some _ e) (Nat.le_refl _) ⟨(by show 1 ≤ sizeLine; decide), [.ref f], 0, .cons rfl .nil, Heap.get?_push_size _ rfl⟩
  refine thn (ha.run pos ((f, _) :: pins) _ σ _ _ I2 (h2 s1.heap.objs.size f lf)) fun us s3 ⟨vs, H3, I3, r3, D, ev, hD, e3, q⟩ => ⟨I3.kIn, ?_⟩
  subst ev
  have I3w : Inv X pins σ H3 s3 := I3.pins_of fun q hq => I3.pin q (List.mem_append_right _ (List.mem_cons_of_mem _ hq))
  obtain ⟨pf1, pf2, pf3, pf4, _⟩ := I3.pin (f, _) (List.mem_append_right _ List.mem_cons_self)
  have pf1 : s3.heap.get? f = some (PySem.W.kla_obj "<lambda>" (X.env.qual ++ "<lambda>") params body scope (cloFrom X.env.cells scope.names []) pm c' ctv) := pf1
  have pf2 : H3 f = none := pf2
  -- the cells that it reads
  let clo := cloFrom X.env.cells scope.names []
  let lc := cellsOf s3.heap clo
  have cellC : ∀ x c, clo.lookup x = some c → X.env.cells.lookup x = some c := fun x c e => clo_cells L I.ok e
  have cellK : ∀ p ∈ lc, ∃ x, X.env.cells.lookup x = some p.1 := fun p hp => by
    obtain ⟨y, hy, e⟩ := cells_key p hp
    obtain ⟨c, hc⟩ := mem_lookup hy
    rcases cloFrom_mem hy with z | ⟨z1, z2⟩
    · nomatch z
    · obtain ⟨c1, e1⟩ := L.has I.ok _ z1 rfl
      have e1 : X.env.cells.lookup y.1 = some c1 := e1
      have : y.2 = c1 := by rw [z2, e1] <;> rfl
      exact ⟨y.1, by rw [e1, ← this, e]⟩
  have cellO : ∀ x c, X.env.cells.lookup x = some c → ∃ o v, s3.heap.get? c = some o ∧ o.data = .cell v := fun x c e => by
    obtain ⟨v, o, k1, k2⟩ := I3.cell x c e
    exact ⟨o, v, k1, k2⟩
  let ls : Objs := (f, PySem.W.kla_obj "<lambda>" (X.env.qual ++ "<lambda>") params body scope (cloFrom X.env.cells scope.names []) pm c' ctv) :: lc
  have lookf : ls.lookup f = some (PySem.W.kla_obj "<lambda>" (X.env.qual ++ "<lambda>") params body scope (cloFrom X.env.cells scope.names []) pm c' ctv) := by
    show List.lookup f ((f, _) :: lc) = _
    rw [List.lookup_cons, beq_self_eq_true]
  have ne_f : ∀ p ∈ lc, p.1 ≠ f := fun p hp z => by
    obtain ⟨x, hx⟩ := cellK p hp
    obtain ⟨o, v, k1, k2⟩ := cellO x p.1 hx
    rw [z, pf1] at k1
    cases k1
    cases k2
  have lc_look : ∀ p ∈ lc, lc.lookup p.1 = some p.2 := fun p hp => by
    obtain ⟨v, hv⟩ := look_some hp
    have h1 := cells_at _ (look_mem hv)
    have h2 := cells_at p hp
    simp only at h1
    rw [h2] at h1
    rw [hv, Option.some.inj h1]
  have sub : ∀ p ∈ lc, ls.lookup p.1 = some p.2 := fun p hp => by
    show List.lookup p.1 ((f, _) :: lc) = _
    rw [List.lookup_cons, beq_eq_false_iff_ne.mpr (ne_f p hp)]
    exact lc_look p hp
  have M : LamAt X σ scope params body f c' pm ctv ls lc :=
    { obj := lookf
      cells := fun x c e => by
        obtain ⟨o, v, k1, k2⟩ := cellO x c (cellC x c e)
        exact ⟨o, v, cells_look e k1, k2⟩
      vals := fun i x v k1 k2 k3 => by
        obtain ⟨m, _, hl⟩ := I3.loc
        obtain ⟨c, hc⟩ := mem_lookup (cloFrom_has (cells := X.env.cells) (acc := []) (PySem.mem_of_lookup k3))
        have kx : X.env.scope.names.lookup x = some .cell ∨ X.env.scope.names.lookup x = some .free := L.free _ (PySem.mem_of_lookup k3) rfl
        obtain ⟨u, ru, q1⟩ := hl i x v k1 k2 (kx.elim (fun z => .inr (.inl z)) fun z => .inr (.inr z))
        rcases q1 with ⟨z, _⟩ | ⟨_, c2, z2, o, z3, z4⟩
        · have z : X.env.scope.names.lookup x = some .local := z
          rcases kx with y | y <;> rw [y] at z <;> cases z
        · have := cellC x c hc
          rw [z2] at this
          obtain rfl := Option.some.inj this
          exact ⟨c2, o, u, hc, cells_look hc z3, z4, ru⟩
      sub := sub
      len := I3.len }
  have CV := callV_lam I.ok L M hbind hbody
  have hn : ∀ p ∈ ls, H3 p.1 = none := fun p hp => by
    rcases List.mem_cons.mp hp with rfl | hp
    · exact pf2
    · obtain ⟨x, hx⟩ := cellK p hp
      exact I3.freeC x _ hx
  have above : ∀ p ∈ ls, X.s_0.heap.objs.size ≤ p.1 := fun p hp => by
    rcases List.mem_cons.mp hp with rfl | hp
    · exact Nat.le_trans I.sz ge
    · obtain ⟨x, hx⟩ := cellK p hp
      exact I.ok.cab x _ (by rw [hfn]) hx
  have at_ : ∀ p ∈ ls, s3.heap.get? p.1 = some p.2 ∧ H3 p.1 = none ∧ X.base.get? p.1 = none ∧ p.1 ∉ frs X.stack := fun p hp => by
    refine ⟨?_, hn p hp, ?_, fun z => ?_⟩
    · rcases List.mem_cons.mp hp with rfl | hp
      · exact pf1
      · exact cells_at p hp
    · cases q : X.base.get? p.1 with
      | none => rfl
      | some o => exact absurd (Nat.lt_of_lt_of_le (Nat.lt_of_lt_of_le (Heap.lt_size q) I.ok.bsz) (above p hp)) (Nat.lt_irrefl _)
    · rcases (frs_stack hst hfr).mp z with z | z
      · rcases List.mem_cons.mp hp with rfl | hp
        · exact nf.1 z
        · obtain ⟨x, hx⟩ := cellK p hp
          exact I.cne x _ hx z
      · obtain ⟨_, o, e, _⟩ := I.ok.funs.mem z
        exact Nat.lt_irrefl _ (Nat.lt_of_lt_of_le (Heap.lt_size e) (above p hp))
  have uniq : ∀ p ∈ ls, ls.lookup p.1 = some p.2 := fun p hp => by
    rcases List.mem_cons.mp hp with rfl | hp
    · exact lookf
    · exact sub p hp
  have lentH : Lent ls (lend ls H3) := lend_lent uniq
  have exL : Ex H3 (lend ls H3) := fun b o e => by
    cases z : ls.lookup b with
    | none => rw [lend_out z]; exact e
    | some v =>
      have := hn _ (look_mem z)
      rw [e] at this
      cases this
  have x1 : Ex H1 H3 := (Ex.new lf).trans e3
  refine run_lent (ls := ls) (vs := [.ref s1.heap.objs.size, .ref D]) F room hb I3w (.cons (show L2.RelV (V.ref s1.heap.objs.size) (Value.ref s1.heap.objs.size) from rfl) r3) at_ uniq ⟨s1.heap.objs.size, D, [f], rfl, exL _ _ (e3 _ _ upd_same), exL _ _ hD, fun g2 hg2 => ?_, fun H4 e4 => ⟨lentH.ex e4, q _ (unlend_ex e4 hn)⟩⟩
  rw [List.mem_singleton.mp hg2]
  refine ⟨_, _, CV, ⟨lentH, exL _ _ (x1 _ _ hco)⟩, fun Ha Hb e ⟨z1, z2⟩ => ⟨z1.ex e, e _ _ z2⟩, fun H' Q' E' e hE => ?_⟩
  have lentL : Lent lc H' := fun p hp => (lentH.ex e) p (List.mem_cons_of_mem _ hp)
  refine hbody1 _ _ _ (fun b o hb2 => ?_) fun H'' e'' => hE _ (lend_ex e'' lentL)
  have h3 := e _ _ (exL _ _ (x1 _ _ hb2))
  rw [unlend_out]
  · exact h3
  · cases z : lc.lookup b with
    | none => rfl
    | some v =>
      have h4 := hn _ (List.mem_cons_of_mem _ (look_mem z))
      have h5 := x1 _ _ hb2
      simp only at h4
      rw [h5] at h4
      cases h4
end
end Vf
namespace Vf
open PySem PySem.Spec PyProof.Rows L2 Evl GxR
/-! ### sessions of one name, each of which goes on: the mathematics -/
section
variable {m B : Nat} {ses : List Ses} {ev : List Gev} {h : Hl}
theorem undone_app (a b : List Ses) : undone (a ++ b) = undone a + undone b := by
  unfold undone
  rw [List.map_append, List.sum_append]
theorem Net.more (N : Net m B ses ev h) {n s p : Nat} {z : List Nat} (fresh : ∀ x ∈ ses, x.n = n → x.s < s) (h4 : n < 4) (s1 : 1 ≤ s) (s2 : s ≤ 100000) (hp : p < m) (hz : ∀ c ∈ z, isK c = true) : Net m (B + z.length) (ses ++ [⟨n, s, p, z, 0, false⟩]) ev h := by
  refine ⟨N.m1, N.m3, N.panes, fun k st hk => ?_, N.s4, N.snod, ?_, fun x hx hst => ?_, fun x hx => ?_, fun x hx => ?_, fun x hx => ?_, N.evok, fun p a s c hg => ?_, ?_⟩
  · obtain ⟨x, hx, r⟩ := N.seat k st hk
    exact ⟨x, List.mem_append_left _ hx, r⟩
  · rw [List.map_append, List.nodup_append]
    refine ⟨N.nod, by simp, fun a ha b hb => ?_⟩
    rw [List.mem_singleton.mp hb]
    obtain ⟨x, hx, rfl⟩ := List.mem_map.mp ha
    intro e
    have := fresh x hx (congrArg Prod.fst e)
    have e2 : x.s = s := congrArg Prod.snd e
    omega
  · rcases List.mem_append.mp hx with hx | hx
    · exact N.new x hx hst
    · rw [List.mem_singleton.mp hx]
  · rcases List.mem_append.mp hx with hx | hx
    · exact N.ok x hx
    · rw [List.mem_singleton.mp hx]
      exact ⟨h4, s1, s2, hp, hz⟩
  · rcases List.mem_append.mp hx with hx | hx
    · exact N.dn x hx
    · rw [List.mem_singleton.mp hx]; exact Nat.zero_le _
  · rcases List.mem_append.mp hx with hx | hx
    · exact N.done x hx
    · rw [List.mem_singleton.mp hx]
      show signsOf n s ev = []
      unfold signsOf
      rw [List.filterMap_eq_nil_iff]
      intro g hg
      cases g with
      | beat => rfl
      | press q a b c =>
        obtain ⟨y, hy, e1, e2, e3⟩ := N.evp q a b c hg
        show (if a = n ∧ b = s then some c else none) = none
        refine if_neg fun z => ?_
        have := fresh y hy (e1.trans z.1)
        omega
  · obtain ⟨x, hx, r⟩ := N.evp p a s c hg
    exact ⟨x, List.mem_append_left _ hx, r⟩
  · rw [undone_app]
    have := N.bud
    show ev.length + (undone ses + (z.length - 0 + 0)) ≤ _
    omega
/-- a session's signs are done, the others stay as they are -/
theorem Net.run2 {i j : Nat} : ∀ {l : List Nat} {ses : List Ses} {ev : List Gev} {h : Hl} {x : Ses}, Net m B ses ev h → ses[j]? = some x → h.seats[i]? = some (x.n, ⟨x.s, x.p, x.dn, false⟩) → l <+: x.ty.drop x.dn →
    ∃ ses' ev', Net m B ses' ev' (l.foldl (fun h c => h.press x.n i c) h) ∧ Le0 ses ev ses' ev' ∧ ses'[j]? = some { x with dn := x.dn + l.length } ∧ (l.foldl (fun h c => h.press x.n i c) h).seats[i]? = some (x.n, ⟨x.s, x.p, x.dn + l.length, false⟩) ∧ (∀ k, k ≠ j → ses'[k]? = ses[k]?)
  | [], ses, ev, h, x, N, hj, hi, _ => ⟨ses, ev, N, Le0.refl _ _, hj, hi, fun _ _ => rfl⟩
  | c :: l, ses, ev, h, x, N, hj, hi, hl => by
    obtain ⟨t, ht⟩ := hl
    have hc : x.ty[x.dn]? = some c := by
      have : (x.ty.drop x.dn)[0]? = some c := by rw [← ht]; rfl
      rw [List.getElem?_drop] at this
      exact this
    obtain ⟨N1, h1, le1⟩ := N.press hj hi hc
    have hj1 : (ses.set j { x with dn := x.dn + 1 })[j]? = some { x with dn := x.dn + 1 } := List.getElem?_set_self (lt_of_get hj)
    have hd : l <+: x.ty.drop (x.dn + 1) := by
      refine ⟨t, ?_⟩
      have h3 : (x.ty.drop x.dn).drop 1 = x.ty.drop (x.dn + 1) := by rw [List.drop_drop]
      rw [← h3, ← ht]
      rfl
    obtain ⟨ses', ev', N2, le2, hj2, hi2, oth⟩ := Net.run2 (l := l) (x := { x with dn := x.dn + 1 }) N1 hj1 h1 hd
    refine ⟨ses', ev', N2, le1.trans le2, ?_, ?_, fun k hk => (oth k hk).trans (List.getElem?_set_ne fun e => hk e.symm)⟩
    · rw [hj2, List.length_cons]
      show some ({ x with dn := x.dn + 1 + l.length } : Ses) = _
      rw [show x.dn + 1 + l.length = x.dn + (l.length + 1) by omega]
    · rw [List.length_cons, show x.dn + (l.length + 1) = x.dn + 1 + l.length by omega]
      exact hi2
theorem seat_old {n s p i : Nat} {h h' : Hl} {o : Option Nat} (e : h.seat n s p = (h', o)) (ho : o = some i) : ∀ st, sOf n h.seats = some st → st.session ≤ s := fun st hst => by
  rcases Nat.lt_or_ge s st.session with lt | ge
  · exfalso
    obtain ⟨k, hk, hx⟩ := sOf_get hst
    unfold Hl.seat at e
    split at e
    · cases e; cases ho
    · rw [hk] at e
      simp only [hx] at e
      rw [if_neg (by omega), if_pos (.inl lt)] at e
      cases e; cases ho
  · exact ge
theorem Net.hear12 (N : Net m B ses ev h) {j : Nat} {x : Ses} (hj : ses[j]? = some x) (nolf : x.lf = false) {k : Str} {f : Nat} {sg z : Str} (hr : readLook z.cps.toList = some (k, [x.n, x.s, x.p, f], sg)) (hk : ¬ k = "left") (pre : sg.cps.toList <+: x.ty.drop f) :
    (∃ st, sOf x.n h.seats = some st ∧ x.s < st.session ∧ h.hear (readLook z.cps.toList) = h) ∨
      ((∀ st, sOf x.n h.seats = some st → st.session ≤ x.s) ∧ ∃ ses' ev' d, Net m B ses' ev' (h.hear (readLook z.cps.toList)) ∧ Le0 ses ev ses' ev' ∧ (∀ i, i ≠ j → ses'[i]? = ses[i]?) ∧ ses'[j]? = some { x with dn := d } ∧ sOf x.n (h.hear (readLook z.cps.toList)).seats = some ⟨x.s, x.p, d, false⟩ ∧ (f ≤ x.dn → sg.cps.toList = x.ty.drop f → d = x.ty.length)) := by
  have hx := List.mem_of_getElem? hj
  obtain ⟨h', o, hs, N', ho, hn⟩ := N.sit hx
  have eh : h.hear (readLook z.cps.toList) = sat h' k x.n f sg.cps.toList o := by
    rw [hr]
    show (match h.seat x.n x.s x.p with | (h', none) => h' | (h', some i) => if k = "left" then h'.setLeft i else h'.doSigns x.n i f sg.cps.toList) = _
    rw [hs]
    cases o <;> rfl
  rw [eh]
  cases o with
  | none =>
    obtain ⟨rfl, hc⟩ := hn rfl
    rcases hc with ⟨st, h1, h2⟩ | hc
    · exact .inl ⟨st, h1, h2, rfl⟩
    · rw [nolf] at hc; cases hc
  | some i =>
    have hi := ho i rfl
    refine .inr ⟨seat_old hs rfl, ?_⟩
    have es : sat h' k x.n f sg.cps.toList (some i) = h'.doSigns x.n i f sg.cps.toList := if_neg hk
    rw [es]
    have ed : h'.doSigns x.n i f sg.cps.toList = if x.dn < f then h' else (sg.cps.toList.drop (x.dn - f)).foldl (fun h c => h.press x.n i c) h' := by unfold Hl.doSigns; rw [hi]
    rw [ed]
    by_cases hf : x.dn < f
    · rw [if_pos hf]
      exact ⟨ses, ev, x.dn, N', Le0.refl _ _, fun _ _ => rfl, hj, sOf_at N'.snod hi, fun hle => by omega⟩
    · rw [if_neg hf]
      have hpre : sg.cps.toList.drop (x.dn - f) <+: x.ty.drop x.dn := by
        have := pre_drop pre (x.dn - f)
        rw [List.drop_drop, show f + (x.dn - f) = x.dn by omega] at this
        exact this
      obtain ⟨ses', ev', N2, le2, hj2, hi2, oth⟩ := N'.run2 hj hi hpre
      refine ⟨ses', ev', _, N2, le2, oth, hj2, sOf_at N2.snod hi2, fun hle hsg => ?_⟩
      have := N.dn x hx
      rw [hsg, List.length_drop, List.length_drop]
      omega
end
/-! ### one name's sessions, all of one pane -/
structure I12 (n B : Nat) (ses : List Ses) (ev : List Gev) (h : Hl) (lks : List Lk) : Prop where
  net : Net 1 B ses ev h
  prs : pressed ev
  all : ∀ x ∈ ses, x.n = n ∧ x.p = 0 ∧ x.lf = false ∧ x.ty.length ≤ 10
  asc : ∀ (i j : Nat) (x y : Ses), ses[i]? = some x → ses[j]? = some y → i < j → x.s < y.s
  len : lks.length = ses.length
  lk : ∀ (i : Nat) k x, lks[i]? = some k → ses[i]? = some x → k.session = x.s ∧ k.name = n ∧ k.pane = 0 ∧ k.left = false ∧ Lki ses ev k
/-- a letter that a session's look told -/
def Lt (ses : List Ses) (n s : Nat) (z : Str) : Prop := z.length ≤ 900000 ∧ ∃ x ∈ ses, x.n = n ∧ x.s = s ∧ ∃ f sg, readLook z.cps.toList = some (Str.ofString "typed", [n, s, 0, f], sg) ∧ sg.cps.toList <+: x.ty.drop f ∧ sg.length ≤ 1000
theorem typed_ne : ¬ (Str.ofString "typed") = ("left" : Str) := by decide +kernel
section
variable {n B : Nat} {ses ses' : List Ses} {ev ev' : List Gev} {h : Hl} {lks : List Lk}
theorem Lt.mono {s : Nat} {z : Str} (L : Lt ses n s z) (le : Le0 ses ev ses' ev') : Lt ses' n s z := by
  obtain ⟨l, x, hx, e1, e2, f, sg, e3, e4, e5⟩ := L
  obtain ⟨d, hd, _⟩ := le.mem hx
  exact ⟨l, _, hd, e1, e2, f, sg, e3, e4, e5⟩
theorem Lt.more {s : Nat} {z : Str} (L : Lt ses n s z) (x : Ses) : Lt (ses ++ [x]) n s z := by
  obtain ⟨l, y, hy, r⟩ := L
  exact ⟨l, y, List.mem_append_left _ hy, r⟩
theorem I12.letOk (J : I12 n B ses ev h lks) {s : Nat} {z : Str} (L : Lt ses n s z) : LetOk (readLook z.cps.toList) := by
  obtain ⟨l, x, hx, rfl, rfl, f, sg, e3, e4, e5⟩ := L
  intro k ns sg' e
  rw [e3] at e
  cases e
  have hok := J.net.ok x hx
  refine ⟨fun a r er => ?_, e5, fun c hc => ?_⟩
  · cases er
    exact hok.1
  · exact hok.2.2.2.2 c (List.mem_of_mem_drop (e4.subset hc))
/-- what was done anew is of one session alone -/
def Only (s : Nat) (ev ev' : List Gev) : Prop := ∃ L, ev' = ev ++ L ∧ ∀ g ∈ L, ∃ p n c, g = .press p n s c
theorem Only.refl (s : Nat) (ev : List Gev) : Only s ev ev := ⟨[], by simp, fun _ h => nomatch h⟩
theorem Only.trans {s : Nat} {a b c : List Gev} (h : Only s a b) (k : Only s b c) : Only s a c := by
  obtain ⟨L, rfl, h1⟩ := h
  obtain ⟨M, rfl, h2⟩ := k
  refine ⟨L ++ M, by rw [List.append_assoc], fun g hg => ?_⟩
  rcases List.mem_append.mp hg with hg | hg
  · exact h1 g hg
  · exact h2 g hg
theorem I12.key (J : I12 n B ses ev h lks) {i j : Nat} {x y : Ses} (hi : ses[i]? = some x) (hj : ses[j]? = some y) (e : x.s = y.s) : i = j := by
  rcases Nat.lt_trichotomy i j with l | l | l
  · have := J.asc i j x y hi hj l; omega
  · exact l
  · have := J.asc j i y x hj hi l; omega
theorem I12.hear (J : I12 n B ses ev h lks) {s : Nat} {z : Str} (L : Lt ses n s z) :
    (∃ st, sOf n h.seats = some st ∧ s < st.session ∧ h.hear (readLook z.cps.toList) = h) ∨
      ((∀ st, sOf n h.seats = some st → st.session ≤ s) ∧ ∃ ses' ev' d, I12 n B ses' ev' (h.hear (readLook z.cps.toList)) lks ∧ Le0 ses ev ses' ev' ∧ Only s ev ev' ∧ sOf n (h.hear (readLook z.cps.toList)).seats = some ⟨s, 0, d, false⟩ ∧
        ∀ x ∈ ses, x.s = s → ∀ f sg, readLook z.cps.toList = some (Str.ofString "typed", [n, s, 0, f], sg) → f ≤ x.dn → sg.cps.toList = x.ty.drop f → d = x.ty.length) := by
  obtain ⟨l, x, hx, rfl, rfl, f, sg, e3, e4, e5⟩ := L
  obtain ⟨a1, a2, a3, a4⟩ := J.all x hx
  obtain ⟨j, hj⟩ := List.getElem?_of_mem hx
  rcases J.net.hear12 hj a3 (k := Str.ofString "typed") (f := f) (sg := sg) (z := z) (by rw [a2]; exact e3) typed_ne e4 with ⟨st, h1, h2, h3⟩ | ⟨h1, ses', ev', d, N, le, oth, hj2, hs, full⟩
  · exact .inl ⟨st, h1, h2, h3⟩
  · refine .inr ⟨h1, ses', ev', d, ?_, le, ?_, (by rw [a2] at hs; exact hs), fun y hy ey f' sg' er hle hsg => ?_⟩
    · obtain ⟨⟨M, eM, pM⟩, hlen, at_⟩ := le
      have back : ∀ (i : Nat) (y : Ses), ses'[i]? = some y → ∃ (y0 : Ses) (d : Nat), ses[i]? = some y0 ∧ y = { y0 with dn := d } := fun i y hy => by
        have hi : i < ses.length := by rw [← hlen]; exact lt_of_get hy
        obtain ⟨d, h1, _⟩ := at_ i _ (List.getElem?_eq_getElem hi)
        rw [hy] at h1
        exact ⟨_, d, List.getElem?_eq_getElem hi, Option.some.inj h1⟩
      refine ⟨N, ?_, fun y hy => ?_, fun a b y w ha hb hab => ?_, by rw [J.len, hlen], fun i k y hk hy => ?_⟩
      · rw [eM]
        intro g hg
        rcases List.mem_append.mp hg with hg | hg
        · exact J.prs g hg
        · exact pM g hg
      · obtain ⟨i, hi⟩ := List.getElem?_of_mem hy
        obtain ⟨y0, d, h1, rfl⟩ := back i y hi
        exact J.all y0 (List.mem_of_getElem? h1)
      · obtain ⟨y0, d1, h1, rfl⟩ := back a y ha
        obtain ⟨w0, d2, h2, rfl⟩ := back b w hb
        exact J.asc a b y0 w0 h1 h2 hab
      · obtain ⟨y0, d1, h1, rfl⟩ := back i y hy
        obtain ⟨b1, b2, b3, b4, b5⟩ := J.lk i k y0 hk h1
        exact ⟨b1, b2, b3, b4, b5.mono0 ⟨⟨M, eM, pM⟩, hlen, at_⟩⟩
    · obtain ⟨⟨M, eM, pM⟩, hlen, at_⟩ := le
      refine ⟨M, eM, fun g hg => ?_⟩
      obtain ⟨p, a, b, c, rfl⟩ := pM g hg
      by_cases eb : b = x.s
      · rw [eb]
        exact ⟨p, a, c, rfl⟩
      · exfalso
        obtain ⟨y, hy, f1, f2, f3⟩ := N.evp p a b c (by rw [eM]; exact List.mem_append_right _ hg)
        obtain ⟨i, hi⟩ := List.getElem?_of_mem hy
        have hij : i ≠ j := fun z => by
          rw [z, hj2] at hi
          have := Option.some.inj hi
          rw [← this] at f2
          exact eb f2.symm
        have hi0 := hi
        rw [oth i hij] at hi0
        have k1 := J.net.done y (List.mem_of_getElem? hi0)
        have k2 := N.done y hy
        rw [← k1, eM] at k2
        have k3 : signsOf y.n y.s (ev ++ M) = signsOf y.n y.s ev ++ signsOf y.n y.s M := List.filterMap_append
        rw [k3] at k2
        have k4 : signsOf y.n y.s M = [] := by
          have := congrArg List.length k2
          rw [List.length_append] at this
          exact List.eq_nil_of_length_eq_zero (by omega)
        have k5 : c ∈ signsOf y.n y.s M := by
          refine List.mem_filterMap.mpr ⟨_, hg, ?_⟩
          show (if a = y.n ∧ b = y.s then some c else none) = some c
          exact if_pos ⟨f1.symm, f2.symm⟩
        rw [k4] at k5
        exact nomatch k5
    · have exy : y = x := by
        obtain ⟨i, hi⟩ := List.getElem?_of_mem hy
        have := J.key hi hj ey
        rw [this, hj] at hi
        exact (Option.some.inj hi).symm
      subst exy
      rw [e3] at er
      cases er
      exact full hle hsg
end
end Vf
namespace Vf
open PySem PySem.Spec PyProof.Rows L2 Evl GxR
/-! ### letters heard by a hall, told to all looks -/
def hearAll (h : Hl) (zs : List Str) : Hl := zs.foldl (fun h z => h.hear (readLook z.cps.toList)) h
def tell1 (h : Hl) (lks : List Lk) (m : Nat) : List Lk := lks.map fun k => k.hear (readHall (txt (h.letterL m)).cps.toList)
def tellAll (h : Hl) (lks : List Lk) : List Lk := h.names.foldl (tell1 h) lks
section
variable {n B : Nat} {ses : List Ses} {ev : List Gev} {h : Hl} {lks : List Lk}
theorem I12.seatS (J : I12 n B ses ev h lks) {st : Sst} (hs : sOf n h.seats = some st) : ∃ x ∈ ses, x.s = st.session ∧ st.pane = 0 ∧ x.dn = st.done ∧ st.left = false := by
  obtain ⟨x, hx, e1, e2, e3, e4, e5⟩ := J.net.seat n st hs
  obtain ⟨a1, a2, a3, _⟩ := J.all x hx
  refine ⟨x, hx, e2, by rw [← e3]; exact a2, e4, ?_⟩
  cases e : st.left with
  | false => rfl
  | true => rw [e5 e] at a3; cases a3
theorem I12.any (J : I12 n B ses ev h lks) {s : Nat} {z : Str} (L : Lt ses n s z) : ∃ ses' ev', I12 n B ses' ev' (h.hear (readLook z.cps.toList)) lks ∧ Le0 ses ev ses' ev' := by
  rcases J.hear L with ⟨st, _, _, e⟩ | ⟨_, ses', ev', d, J', le, _⟩
  · rw [e]
    exact ⟨ses, ev, J, Le0.refl _ _⟩
  · exact ⟨ses', ev', J', le⟩
theorem I12.hears {s : Nat} : ∀ {zs : List Str} {ses : List Ses} {ev : List Gev} {h : Hl}, I12 n B ses ev h lks → (∀ z ∈ zs, ∃ s', s' ≤ s ∧ Lt ses n s' z) → (∃ st, sOf n h.seats = some st ∧ st.session = s) →
    ∃ ses' ev', I12 n B ses' ev' (hearAll h zs) lks ∧ Le0 ses ev ses' ev' ∧ Only s ev ev'
  | [], ses, ev, h, J, _, _ => ⟨ses, ev, J, Le0.refl _ _, Only.refl _ _⟩
  | z :: zs, ses, ev, h, J, hz, ⟨st, hst, es⟩ => by
    obtain ⟨s', hs', L⟩ := hz z List.mem_cons_self
    show ∃ ses' ev', I12 n B ses' ev' (hearAll (h.hear (readLook z.cps.toList)) zs) lks ∧ _
    rcases J.hear L with ⟨_, _, _, e⟩ | ⟨h1, ses', ev', d, J', le, on, hs, _⟩
    · rw [e]
      exact I12.hears J (fun z hz' => hz z (List.mem_cons_of_mem _ hz')) ⟨st, hst, es⟩
    · have := h1 st hst
      obtain rfl : s' = s := by omega
      obtain ⟨ses2, ev2, J2, le2, on2⟩ := I12.hears J' (fun z hz' => by
        obtain ⟨s2, l2, L2⟩ := hz z (List.mem_cons_of_mem _ hz')
        exact ⟨s2, l2, L2.mono le⟩) ⟨_, hs, rfl⟩
      exact ⟨ses2, ev2, J2, le.trans le2, on.trans on2⟩
/-- the first one is of the last session -/
theorem I12.first (J : I12 n B ses ev h lks) {s : Nat} {z : Str} {zs : List Str} (last : ∀ x ∈ ses, x.s ≤ s) (L : Lt ses n s z) (hz : ∀ z ∈ zs, ∃ s', s' ≤ s ∧ Lt ses n s' z) : ∃ ses' ev', I12 n B ses' ev' (hearAll h (z :: zs)) lks ∧ Le0 ses ev ses' ev' ∧ Only s ev ev' := by
  show ∃ ses' ev', I12 n B ses' ev' (hearAll (h.hear (readLook z.cps.toList)) zs) lks ∧ _
  rcases J.hear L with ⟨st, hst, lt, _⟩ | ⟨h1, ses', ev', d, J', le, on, hs, _⟩
  · obtain ⟨x, hx, e, _⟩ := J.seatS hst
    have := last x hx
    omega
  · obtain ⟨ses2, ev2, J2, le2, on2⟩ := I12.hears J' (s := s) (fun z hz' => by
      obtain ⟨s2, l2, L2⟩ := hz z hz'
      exact ⟨s2, l2, L2.mono le⟩) ⟨_, hs, rfl⟩
    exact ⟨ses2, ev2, J2, le.trans le2, on.trans on2⟩
theorem I12.name (J : I12 n B ses ev h lks) {m : Nat} (hm : m ∈ h.names) : m = n := by
  obtain ⟨_, st, hs, _⟩ := name_so hm
  obtain ⟨x, hx, e, _⟩ := J.net.seat m st hs
  exact e.symm.trans (J.all x hx).1
theorem I12.tellOne (J : I12 n B ses ev h lks) (hB : B ≤ 1000000) {m : Nat} (hm : m ∈ h.names) : I12 n B ses ev h (tell1 h lks m) := by
  refine ⟨J.net, J.prs, J.all, J.asc, by unfold tell1; rw [List.length_map]; exact J.len, fun i k x hk hx => ?_⟩
  unfold tell1 at hk
  rw [List.getElem?_map] at hk
  obtain ⟨k0, hk0, rfl⟩ := Option.map_eq_some_iff.mp hk
  obtain ⟨b1, b2, b3, b4, b5⟩ := J.lk i k0 x hk0 hx
  have em := J.name hm
  subst em
  obtain ⟨I', S⟩ := b5.hear J.net (z := txt (h.letterL m)) (by rw [b2]; exact J.net.lets hB hm)
  exact ⟨S.session.trans b1, S.name.trans b2, S.pane.trans b3, S.left.trans b4, I'⟩
theorem I12.tellsL (hB : B ≤ 1000000) : ∀ {ms : List Nat} {lks : List Lk}, I12 n B ses ev h lks → (∀ m ∈ ms, m ∈ h.names) → I12 n B ses ev h (ms.foldl (tell1 h) lks)
  | [], _, J, _ => J
  | m :: ms, lks, J, hm => I12.tellsL hB (ms := ms) (J.tellOne hB (hm m List.mem_cons_self)) fun x hx => hm x (List.mem_cons_of_mem _ hx)
theorem I12.tells (J : I12 n B ses ev h lks) (hB : B ≤ 1000000) : I12 n B ses ev h (tellAll h lks) := J.tellsL hB fun _ h => h
theorem tellAll_len {h : Hl} {lks : List Lk} : (tellAll h lks).length = lks.length := by
  unfold tellAll
  have : ∀ (ms : List Nat) (lks : List Lk), (ms.foldl (tell1 h) lks).length = lks.length := fun ms => by
    induction ms with
    | nil => intro _; rfl
    | cons m ms ih =>
      intro lks
      show (ms.foldl (tell1 h) (tell1 h lks m)).length = _
      rw [ih]
      unfold tell1
      rw [List.length_map]
  exact this _ _
/-- another look of a later session, which typed some -/
theorem I12.come (J : I12 n B ses ev h lks) {s : Nat} {z : Str} (fresh : ∀ x ∈ ses, x.s < s) (h4 : n < 4) (s1 : 1 ≤ s) (s2 : s ≤ 100000) (hz : ∀ c ∈ z.cps.toList, isK c = true) (hl : z.length ≤ 10) :
    I12 n (B + z.length) (ses ++ [⟨n, s, 0, z.cps.toList, 0, false⟩]) ev h (lks ++ [{ Lk.new n s 0 20 5 with signs := (Lk.new n s 0 20 5).signs ++ z }]) := by
  have hlen : z.cps.toList.length = z.length := slen.symm
  have N := J.net.more (n := n) (s := s) (p := 0) (z := z.cps.toList) (fun x hx _ => fresh x hx) h4 s1 s2 (by have := J.net.m1; omega) hz
  rw [hlen] at N
  have cat : ((Lk.new n s 0 20 5).signs ++ z).cps.toList = z.cps.toList := by
    rw [show ((Lk.new n s 0 20 5).signs ++ z).cps.toList = (Lk.new n s 0 20 5).signs.cps.toList ++ z.cps.toList from Array.toList_append]
    rfl
  refine ⟨N, J.prs, fun x hx => ?_, fun i j x y hi hj lt => ?_, by rw [List.length_append, List.length_append, J.len]; rfl, fun i k x hk hx => ?_⟩
  · rcases List.mem_append.mp hx with hx | hx
    · exact J.all x hx
    · rw [List.mem_singleton.mp hx]
      exact ⟨rfl, rfl, rfl, by rw [hlen]; exact hl⟩
  · have hjl := lt_of_get hj
    rw [List.length_append] at hjl
    have hjl : j < ses.length + 1 := hjl
    rw [List.getElem?_append_left (by omega)] at hi
    rcases Nat.lt_or_ge j ses.length with q | q
    · rw [List.getElem?_append_left q] at hj
      exact J.asc i j x y hi hj lt
    · obtain rfl : j = ses.length := by omega
      rw [List.getElem?_append_right (Nat.le_refl _), Nat.sub_self] at hj
      cases hj
      exact fresh x (List.mem_of_getElem? hi)
  · rcases Nat.lt_or_ge i ses.length with q | q
    · rw [List.getElem?_append_left (by rw [J.len]; exact q)] at hk
      rw [List.getElem?_append_left q] at hx
      obtain ⟨b1, b2, b3, b4, b5⟩ := J.lk i k x hk hx
      refine ⟨b1, b2, b3, b4, b5.ok, ?_, b5.known, fun ho => ?_⟩
      · obtain ⟨y, hy, r⟩ := b5.at_
        exact ⟨y, List.mem_append_left _ hy, r⟩
      · obtain ⟨y, hy, r⟩ := b5.over ho
        exact ⟨y, List.mem_append_left _ hy, r⟩
    · have hxl := lt_of_get hx
      rw [List.length_append] at hxl
      have hxl : i < ses.length + 1 := hxl
      obtain rfl : i = ses.length := by omega
      rw [List.getElem?_append_right (Nat.le_refl _), Nat.sub_self] at hx
      rw [List.getElem?_append_right (by rw [J.len]; exact Nat.le_refl _), J.len, Nat.sub_self] at hk
      cases hx
      cases hk
      refine ⟨rfl, rfl, rfl, rfl, ⟨⟨h4, s1, s2, (by show 0 < 3; decide)⟩, (by show 2 ≤ 20 ∧ 20 ≤ 40 ∧ 1 ≤ 5 ∧ 5 ≤ 20; decide), fun c hc => ?_, ?_, Nat.zero_le _, (fun _ h => nomatch h), fld_empty⟩, ⟨_, List.mem_append_right _ (List.mem_singleton.mpr rfl), rfl, rfl, rfl, Nat.le_refl _, ?_, rfl⟩, (fun c h => by cases h), (fun h => by cases h)⟩
      · have hc : c ∈ ((Lk.new n s 0 20 5).signs ++ z).cps.toList := hc
        rw [cat] at hc
        exact hz c hc
      · show 0 + ((Lk.new n s 0 20 5).signs ++ z).length < 1000000
        rw [slen, cat, hlen]
        omega
      · show ((Lk.new n s 0 20 5).signs ++ z).cps.toList = _
        rw [cat]
        rfl
end
end Vf
namespace Vf
open PySem PySem.Spec PyProof.Rows L2 Evl GxR
/-! ### the last session is done, the elder ones are over -/
/-- the hall has done all of the last session -/
def Half (n : Nat) (ses : List Ses) (h : Hl) : Prop := ∃ L x, ses[L]? = some x ∧ L + 1 = ses.length ∧ sOf n h.seats = some ⟨x.s, 0, x.ty.length, false⟩
def Fin12 (n : Nat) (ses : List Ses) (h : Hl) (lks : List Lk) : Prop := Half n ses h ∧ ∀ i k, lks[i]? = some k → if i + 1 < ses.length then k.over = true else (k.over = false ∧ k.signs.length = 0)
section
variable {n B : Nat} {ses ses' : List Ses} {ev ev' : List Gev} {h : Hl} {lks : List Lk}
theorem I12.zlen (J : I12 n B ses ev h lks) {i : Nat} {k : Lk} (hk : lks[i]? = some k) : ∃ x, ses[i]? = some x ∧ x ∈ ses ∧ k.session = x.s ∧ k.name = n ∧ k.pane = 0 ∧ k.left = false ∧ Lki ses ev k ∧ k.done ≤ x.dn ∧ k.signs.cps.toList = x.ty.drop k.done ∧ k.signs.length ≤ 10 := by
  have hi : i < ses.length := by rw [← J.len]; exact lt_of_get hk
  have hx : ses[i]? = some ses[i] := List.getElem?_eq_getElem hi
  obtain ⟨b1, b2, b3, b4, b5⟩ := J.lk i k _ hk hx
  have hm := List.mem_of_getElem? hx
  obtain ⟨y, hy, f1, f2, f3, f4, f5, f6⟩ := b5.at_
  have ey : y = ses[i] := key_eq J.net.nod hy hm (by rw [f1, b2, (J.all _ hm).1]) (f2.trans b1)
  rw [ey] at f4 f5
  refine ⟨_, hx, hm, b1, b2, b3, b4, b5, f4, f5, ?_⟩
  rw [slen, f5, List.length_drop]
  have := (J.all _ hm).2.2.2
  omega
/-- what a look tells: nothing where it is over, else one letter that brings all that waits -/
theorem I12.says (J : I12 n B ses ev h lks) {i : Nat} {k : Lk} (hk : lks[i]? = some k) : (k.over = true ∧ k.letters = []) ∨
    (k.over = false ∧ ∃ l sg, k.letters = [l] ∧ readLook (txt l).cps.toList = some (Str.ofString "typed", [n, k.session, 0, k.done], sg) ∧ sg.cps.toList = k.signs.cps.toList ∧ Lt ses n k.session (txt l)) := by
  obtain ⟨x, hx, hm, b1, b2, b3, b4, b5, b6, b7, b8⟩ := J.zlen hk
  cases ho : k.over with
  | true =>
    refine .inl ⟨rfl, ?_⟩
    unfold Lk.letters
    rw [if_pos ho]
  | false =>
    obtain ⟨l, sg, e1, e2, e3⟩ := b5.one (by omega) ho b4
    have e2' : readLook (txt l).cps.toList = some (Str.ofString "typed", [n, k.session, 0, k.done], sg) := by rw [txt_cps, e2, b2, b3]
    have hL := b5.letters (l := l) (by rw [e1]; exact List.mem_cons_self)
    refine .inr ⟨rfl, l, sg, e1, e2', e3, hL.1, x, hm, (J.all x hm).1, b1.symm, k.done, sg, e2', ?_, ?_⟩
    · rw [e3, b7]
      exact List.prefix_refl _
    · rw [slen, e3, ← slen]
      omega
theorem I12.max (J : I12 n B ses ev h lks) {L : Nat} {x : Ses} (hx : ses[L]? = some x) (hL : L + 1 = ses.length) {y : Ses} (hy : y ∈ ses) : y.s ≤ x.s := by
  obtain ⟨i, hi⟩ := List.getElem?_of_mem hy
  have := lt_of_get hi
  rcases Nat.lt_or_ge i L with q | q
  · exact Nat.le_of_lt (J.asc i L y x hi hx q)
  · obtain rfl : i = L := by omega
    rw [hx] at hi
    rw [Option.some.inj hi]
    exact Nat.le_refl _
theorem I12.notOver (J : I12 n B ses ev h lks) {L : Nat} {k : Lk} (hk : lks[L]? = some k) (hL : L + 1 = ses.length) : k.over = false := by
  obtain ⟨x, hx, hm, b1, b2, b3, b4, b5, _⟩ := J.zlen hk
  cases ho : k.over with
  | false => rfl
  | true =>
    obtain ⟨y, hy, _, e⟩ := b5.over ho
    have := J.max hx hL hy
    omega
/-- a look's letters are heard -/
theorem I12.round (J : I12 n B ses ev h lks) {i : Nat} {k : Lk} (hk : lks[i]? = some k) : ∃ ses' ev', I12 n B ses' ev' (hearAll h (k.letters.map txt)) lks ∧ Le0 ses ev ses' ev' ∧ ((i + 1 = ses.length ∨ Half n ses h) → Half n ses' (hearAll h (k.letters.map txt))) := by
  obtain ⟨x, hx, hm, b1, b2, b3, b4, b5, b6, b7, b8⟩ := J.zlen hk
  rcases J.says hk with ⟨ho, e⟩ | ⟨ho, l, sg, e, e2, e3, Lz⟩
  · rw [e]
    refine ⟨ses, ev, J, Le0.refl _ _, fun hh => ?_⟩
    rcases hh with hh | hh
    · rw [J.notOver hk hh] at ho; cases ho
    · exact hh
  · rw [e]
    show ∃ ses' ev', I12 n B ses' ev' (h.hear (readLook (txt l).cps.toList)) lks ∧ _ ∧ (_ → Half n ses' (h.hear (readLook (txt l).cps.toList)))
    rcases J.hear Lz with ⟨st, hst, lt, eh⟩ | ⟨h1, ses', ev', d, J', le, on, hs, full⟩
    · rw [eh]
      refine ⟨ses, ev, J, Le0.refl _ _, fun hh => ?_⟩
      rcases hh with hh | hh
      · obtain ⟨y, hy, ey, _⟩ := J.seatS hst
        have := J.max hx hh hy
        omega
      · exact hh
    · refine ⟨ses', ev', J', le, fun hh => ?_⟩
      have hd := full x hm b1.symm k.done sg e2 b6 (by rw [e3, b7])
      have hi : i + 1 = ses.length := by
        rcases hh with hh | ⟨L, y, hy, hL, hsy⟩
        · exact hh
        · have h2 := h1 _ hsy
          have h3 : y.s ≤ k.session := h2
          have h4 := J.max hy hL hm
          have := J.key hx hy (by omega)
          omega
      obtain ⟨d2, hx2, _⟩ := le.at_ i x hx
      refine ⟨i, _, hx2, by rw [le.len]; exact hi, ?_⟩
      rw [hs, hd, b1]
theorem names_one {h : Hl} (all : ∀ m ∈ h.names, m = n) (hn : n ∈ h.names) : h.names = [n] := by
  have nod : h.names.Nodup := by
    unfold Hl.names
    exact List.nodup_range.filter _
  match e : h.names, nod, hn, all with
  | [], _, hn, _ => nomatch hn
  | [a], _, _, all => rw [all a List.mem_cons_self]
  | a :: b :: r, nod, _, all =>
    have h1 := all a List.mem_cons_self
    have h2 := all b (List.mem_cons_of_mem _ List.mem_cons_self)
    rw [h1, h2] at nod
    exact absurd List.mem_cons_self (List.nodup_cons.mp nod).1
/-- all is told to the looks -/
theorem I12.told (J : I12 n B ses ev h lks) (hB : B ≤ 1000000) (H : Half n ses h) : Fin12 n ses h (tellAll h lks) := by
  obtain ⟨L, x, hx, hL, hs⟩ := H
  refine ⟨⟨L, x, hx, hL, hs⟩, fun i k hk => ?_⟩
  have hm := List.mem_of_getElem? hx
  have hn4 := (J.net.ok x hm).1
  rw [(J.all x hm).1] at hn4
  have hn : n ∈ h.names := by
    unfold Hl.names
    rw [List.mem_filter, List.mem_range]
    exact ⟨hn4, by rw [hs]; rfl⟩
  have en := names_one (fun m hm => J.name hm) hn
  have et : tellAll h lks = tell1 h lks n := by unfold tellAll; rw [en]; rfl
  rw [et] at hk
  unfold tell1 at hk
  rw [List.getElem?_map] at hk
  obtain ⟨k0, hk0, rfl⟩ := Option.map_eq_some_iff.mp hk
  obtain ⟨y, hy, hym, b1, b2, b3, b4, b5, b6, b7, b8⟩ := J.zlen hk0
  obtain ⟨x2, hx2, st, e1, e2, e3, e4, e5, e6, e7⟩ := J.net.letter hB hn
  rw [hs] at e2
  cases e2
  have exx : x2 = x := key_eq J.net.nod hx2 hm (e1.trans (J.all x hm).1.symm) e4
  subst exx
  have hread : readHall (txt (h.letterL n)).cps.toList = some ([x2.n, x2.s, x2.p, x2.dn, (runP x2.p ev).log.length], (runP x2.p ev).line, (runP x2.p ev).rows) := by rw [txt_cps]; exact e7
  by_cases hi : i + 1 < ses.length
  · rw [if_pos hi]
    rw [hread, hear_five]
    by_cases ho : k0.over = true
    · rw [if_pos (.inl ho)]
      exact ho
    · have lt : y.s < x2.s := J.asc i L y x2 hy hx (by omega)
      rw [if_neg (fun z => z.elim ho fun z => z (by rw [b2]; exact e1)), if_pos (by omega)]
  · rw [if_neg hi]
    have hil := lt_of_get hy
    obtain rfl : i = L := by omega
    rw [hx] at hy
    obtain rfl := Option.some.inj hy
    have ho := J.notOver hk0 hL
    have thr := b5.full J.net (z := txt (h.letterL n)) hm (e1.trans b2.symm) b1.symm e5 ho hread
    unfold Lk.through at thr
    rw [Bool.and_eq_true] at thr
    refine ⟨?_, of_decide_eq_true thr.2⟩
    rw [hread, hear_five, if_neg (fun z => z.elim (fun z => by rw [ho] at z; cases z) fun z => z (by rw [b2]; exact e1)), if_neg (by omega)]
    by_cases q : x2.s = k0.session ∧ x2.p = k0.pane
    · rw [if_pos q, hearPane_stat.2.2, hearDone_stat.2.2]
      exact ho
    · rw [if_neg q]
      exact ho
/-! what was typed at the pane -/
theorem only_typed {s : Nat} (on : Only s ev ev') : ∃ M, typedOf 0 ev' = typedOf 0 ev ++ M ∧ ∀ t ∈ M, t.2.1 = s := by
  obtain ⟨L, rfl, hL⟩ := on
  refine ⟨typedOf 0 L, typedOf_app, fun t ht => ?_⟩
  obtain ⟨g, hg, e⟩ := List.mem_filterMap.mp ht
  obtain ⟨p, a, c, rfl⟩ := hL g hg
  have e : (if p = 0 then some (a, s, c) else none) = some t := e
  by_cases q : p = 0
  · rw [if_pos q] at e
    cases e
    rfl
  · rw [if_neg q] at e
    cases e
theorem I12.typed (J : I12 n B ses ev h lks) (hB : B ≤ 100) : ∃ s, h.panes[0]? = some s ∧ s.typed = (typedOf 0 ev).map tv := by
  have hp := J.net.pane (p := 0) J.net.m1
  refine ⟨_, hp, run_typedL ?_⟩
  have h1 : pressN ev ≤ ev.length := List.length_filter_le _ _
  have := J.net.bud
  omega
theorem I12.few (J : I12 n B ses ev h lks) : (typedOf 0 ev).length ≤ B := by
  have h1 := typedOf_le (p := 0) ev
  have h2 : pressN ev ≤ ev.length := List.length_filter_le _ _
  have := J.net.bud
  omega
/-- the signs of a session that were done are the first of those that were typed -/
theorem I12.mine (J : I12 n B ses ev h lks) {x : Ses} (hx : x ∈ ses) : ((typedOf 0 ev).filter fun t => decide (t.2.1 = x.s)).map (·.2.2) = x.ty.take x.dn := by
  rw [← J.net.done x hx]
  have : ∀ L : List Gev, (∀ g ∈ L, ∃ a b c, g = .press 0 a b c ∧ a = n) → ((typedOf 0 L).filter fun t => decide (t.2.1 = x.s)).map (·.2.2) = signsOf x.n x.s L := fun L => by
    induction L with
    | nil => intro _; rfl
    | cons g r ih =>
      intro hL
      obtain ⟨a, b, c, rfl, ea⟩ := hL g List.mem_cons_self
      have ih := ih fun g hg => hL g (List.mem_cons_of_mem _ hg)
      have e1 : typedOf 0 (.press 0 a b c :: r) = (a, b, c) :: typedOf 0 r := rfl
      have e2 : signsOf x.n x.s (.press 0 a b c :: r) = if a = x.n ∧ b = x.s then c :: signsOf x.n x.s r else signsOf x.n x.s r := by
        unfold signsOf
        by_cases q : a = x.n ∧ b = x.s
        · rw [if_pos q, List.filterMap_cons_some (by show (if a = x.n ∧ b = x.s then some c else none) = some c; exact if_pos q)]
        · rw [if_neg q, List.filterMap_cons_none (by show (if a = x.n ∧ b = x.s then some c else none) = none; exact if_neg q)]
      rw [e1, e2]
      have en : a = x.n := ea.trans (J.all x hx).1.symm
      by_cases q : b = x.s
      · rw [if_pos ⟨en, q⟩, List.filter_cons_of_pos (by exact decide_eq_true q), List.map_cons, ih]
      · rw [if_neg (fun z => q z.2), List.filter_cons_of_neg (by simpa using q), ih]
  refine this ev fun g hg => ?_
  obtain ⟨p, a, b, c, rfl⟩ := J.prs g hg
  obtain ⟨y, hy, e1, e2, e3⟩ := J.net.evp p a b c hg
  have h3 := (J.all y hy).2.1
  have h4 := (J.all y hy).1
  obtain rfl : p = 0 := e3.symm.trans h3
  exact ⟨a, b, c, rfl, e1.symm.trans h4⟩
end
end Vf
namespace Vf
open PySem PySem.Spec PyProof.Rows L2 Evl GxR
/-! ### a hall, and a list of looks with their sessions and signs -/
abbrev sAhr : Stmt := topS 70
theorem scAhr : FnScope ["_law_hall", "_law_looks", "_law_texts", "_law_text", "_law_told_here", "_law_look", "_law_session", "_law_signs"] ["_law_hall", "_law_looks", "_law_texts"] (defScope sAhr) := ⟨rfl, rfl, rfl, by decide +kernel, rfl, by decide +kernel, by decide +kernel⟩
def tpsA (q : Addr) (vs : List V) (rows : List (List V)) : Prd := fun fp H => fp = [q] ∧ H q = some (.lst vs) ∧ Tups H vs rows
theorem tpsT (q : Addr) (vs : List V) (rows : List (List V)) : Thing (tpsA q vs rows) := by
  refine ⟨fun fp H H' ⟨e, h, t⟩ te k => ⟨e, ?_, t.mono te⟩, fun fp H ⟨e, h, t⟩ b hb => ?_⟩
  · subst e
    rw [k q (by simp)]
    exact h
  · subst e
    rw [List.mem_singleton.mp hb]
    exact ⟨_, h, fun _ z => by cases z⟩
theorem tps_plain (q : Addr) (vs : List V) (rows : List (List V)) : Plain (tpsA q vs rows) := fun fp H ⟨e, h, t⟩ b hb => by
  subst e
  rw [List.mem_singleton.mp hb]
  exact ⟨_, h, (fun _ z => by cases z), fun _ z => by cases z⟩
theorem tps_get {As : List Prd} {H0 H : Hp} {i : Nat} {q : Addr} {vs : List V} {rows : List (List V)} (h : Sep As H0 H) (e : As[i]? = some (tpsA q vs rows)) : H q = some (.lst vs) ∧ Tups H vs rows := by
  obtain ⟨fp, _, _, a, b⟩ := h.get e
  exact ⟨a, b⟩
theorem Sep.under {A : Prd} {As : List Prd} {H0 H : Hp} (TA : Thing A) (T : Things As) (S : Sep (A :: As) H0 H) : ∃ H1, Beh A H0 H1 ∧ Sep As H1 H := by
  obtain ⟨x, fps, s, n⟩ := S
  match fps, s with
  | f :: fps, ⟨hA, ap, s⟩ =>
    have nf : ∀ a ∈ fps.flatten, H0 a = none := fun a ha => by
      obtain ⟨g, hg, ha⟩ := List.mem_flatten.mp ha
      exact n g (List.mem_cons_of_mem _ hg) a ha
    refine ⟨outOf H fps.flatten, ⟨ex_outOf x nf, f, n f List.mem_cons_self, TA.stay _ _ _ hA (fun a xs ha => ?_) fun a ha => outOf_out fun k => ?_⟩, outOf_ex, fps, s, fun g hg a ha => outOf_in (List.mem_flatten.mpr ⟨g, hg, ha⟩)⟩
    · refine (outOf_out fun k => ?_).trans ha
      obtain ⟨g, hg, hk⟩ := List.mem_flatten.mp k
      obtain ⟨o, ho, hn⟩ := sat_at T s g hg a hk
      rw [ha] at ho
      exact hn xs (Option.some.inj ho).symm
    · obtain ⟨g, hg, hk⟩ := List.mem_flatten.mp k
      exact ap g hg a ha hk
/-- a list of strs or of others that is new is put below -/
theorem Sep.below {As : List Prd} {H0 H H' : Hp} {q : Addr} {vs : List V} {rows : List (List V)} (T : Things As) (S : Sep As H0 H) (e : Ex H H') (n : H q = none) (hq : H' q = some (.lst vs)) (t : Tups H' vs rows) : ∃ H1, Ex H0 H1 ∧ H1 q = some (.lst vs) ∧ Tups H1 vs rows ∧ Sep As H1 H' := by
  obtain ⟨H1, ⟨x, fp, _, _, h1, h2⟩, S1⟩ := (S.cons T (B := tpsA q vs rows) (H' := H') ⟨e, [q], (fun a ha => by rw [List.mem_singleton.mp ha]; exact n), rfl, hq, t⟩).under (tpsT _ _ _) T
  exact ⟨H1, x, h1, h2, S1⟩
theorem Sep.belowL {As : List Prd} {H0 H H' : Hp} {q : Addr} {vs : List V} (T : Things As) (S : Sep As H0 H) (e : Ex H H') (n : H q = none) (hq : H' q = some (.lst vs)) : ∃ H1, Ex H0 H1 ∧ H1 q = some (.lst vs) ∧ Sep As H1 H' := by
  obtain ⟨H1, ⟨x, fp, _, _, h1, _⟩, S1⟩ := (S.cons T (B := cellA q (.lst vs)) (H' := H') ⟨e, [q], (fun a ha => by rw [List.mem_singleton.mp ha]; exact n), rfl, hq, fun _ z => by cases z⟩).under (cellT _ _) T
  exact ⟨H1, x, h1, S1⟩
abbrev E12 := Lk × Addr × Str
def lkE (C : WCl) (x : E12) : Prd := lookA C.K x.2.1 x.1
def rowE (x : E12) : List V := [.ref x.2.1, .int (x.1.session : Nat), .str x.2.2]
def B12 (C : WCl) (hp q : Addr) (h : Hl) (vs : List V) (xs : List E12) : List Prd := [packA (xs.map (lkE C)), tpsA q vs (xs.map rowE), hallA C.h hp h]
theorem lkET (C : WCl) (xs : List E12) : Things (xs.map (lkE C)) := fun A hA => by
  obtain ⟨x, _, rfl⟩ := List.mem_map.mp hA
  exact lookT _ _ _
theorem B12T (C : WCl) (hp q : Addr) (h : Hl) (vs : List V) (xs : List E12) : Things (B12 C hp q h vs xs) := Things.cons (packT (lkET C xs)) (Things.cons (tpsT _ _ _) (Things.cons (hallT _ _ _) Things.nil))
theorem B12P (C : WCl) (hp q : Addr) (h : Hl) (vs : List V) (xs : List E12) : Plains (B12 C hp q h vs xs) := Plains.cons (pack_plain fun A hA => by
  obtain ⟨x, _, rfl⟩ := List.mem_map.mp hA
  exact look_plain _ _ _) (Plains.cons (tps_plain _ _ _) (Plains.cons (hall_plain _ _ _) Plains.nil))
section
variable {C : WCl} {hp q : Addr} {h : Hl} {vs : List V} {xs : List E12} {H0 H : Hp}
theorem b12_hall (S : Sep (B12 C hp q h vs xs) H0 H) : ∃ H1, Ex H0 H1 ∧ Beh (hallA C.h hp h) H1 H ∧ ∀ h' H', Beh (hallA C.h hp h') H1 H' → Sep (B12 C hp q h' vs xs) H0 H' := by
  obtain ⟨H1, x, b, back⟩ := S.focus (B12T C hp q h vs xs) (i := 2) rfl
  exact ⟨H1, x, b, fun h' H' k => back _ _ k⟩
theorem b12_q (S : Sep (B12 C hp q h vs xs) H0 H) : H q = some (.lst vs) ∧ Tups H vs (xs.map rowE) := tps_get S (i := 1) rfl
theorem b12_look (S : Sep (B12 C hp q h vs xs) H0 H) {i : Nat} {l : Lk} {a : Addr} {z : Str} (e : xs[i]? = some (l, a, z)) : ∃ H1, Ex H0 H1 ∧ Beh (lookA C.K a l) H1 H ∧ ∀ l' H', l'.session = l.session → Beh (lookA C.K a l') H1 H' → Sep (B12 C hp q h vs (xs.set i (l', a, z))) H0 H' := by
  obtain ⟨H1, x, b, back⟩ := S.focus (B12T C hp q h vs xs) (i := 0) rfl
  obtain ⟨H2, x2, b2, back2⟩ := (sep_beh.mpr b).focus (lkET C xs) (i := i) (map_get e)
  refine ⟨H2, x.trans x2, b2, fun l' H' es k => ?_⟩
  have k2 := back2 _ _ k
  have k3 : Sep ((xs.set i (l', a, z)).map (lkE C)) H1 H' := by
    rw [List.map_set]
    exact k2
  have k4 := back _ _ (sep_beh.mp k3)
  have er : (xs.set i (l', a, z)).map rowE = xs.map rowE := set_map_same e (by show [V.ref a, .int (l'.session : Nat), .str z] = [V.ref a, .int (l.session : Nat), .str z]; rw [es])
  unfold B12
  rw [er]
  exact k4
end
def hearE (h : Hl) (xs : List E12) (m : Nat) : List E12 := xs.map fun x => (x.1.hear (readHall (txt (h.letterL m)).cps.toList), x.2)
def tellE (h : Hl) (xs : List E12) : List E12 := h.names.foldl (hearE h) xs
theorem tellE_map {h : Hl} {xs : List E12} : (tellE h xs).map (·.1) = tellAll h (xs.map (·.1)) := by
  unfold tellE tellAll
  have : ∀ (ms : List Nat) (xs : List E12), (ms.foldl (hearE h) xs).map (·.1) = ms.foldl (tell1 h) (xs.map (·.1)) := fun ms => by
    induction ms with
    | nil => intro _; rfl
    | cons m ms ih =>
      intro xs
      show (ms.foldl (hearE h) (hearE h xs m)).map (·.1) = ms.foldl (tell1 h) (tell1 h (xs.map (·.1)) m)
      rw [ih]
      congr 1
      unfold hearE tell1
      rw [List.map_map, List.map_map]
      rfl
  exact this _ _
theorem hear_less {k : Lk} {m : Option (List Nat × Str × List Str)} : (k.hear m).signs.length ≤ k.signs.length := by
  have hd : ∀ d, (k.hearDone d).signs.length ≤ k.signs.length := fun d => by
    unfold Lk.hearDone
    split
    · show (cutS k.signs _ none).length ≤ _
      rw [slen, cut_from, List.length_drop, ← slen]
      omega
    · exact Nat.le_refl _
  have hpn : ∀ (j : Lk) c l r, (j.hearPane c l r).signs = j.signs := fun j c l r => hearPane_stat.2.1
  unfold Lk.hear
  split
  · split
    · exact Nat.le_refl _
    · split
      · exact Nat.le_refl _
      · split
        · rw [hpn]
          exact hd _
        · exact Nat.le_refl _
  · exact Nat.le_refl _
theorem hear_ses {k : Lk} {m : Option (List Nat × Str × List Str)} : (k.hear m).session = k.session := by
  unfold Lk.hear
  split
  · split
    · rfl
    · split
      · rfl
      · split
        · rw [hearPane_stat.1.session, hearDone_stat.1.session]
        · rfl
  · rfl
theorem hearAll_ok : ∀ {zs : List Str} {h : Hl}, HOk h → (∀ z ∈ zs, z.length ≤ 900000 ∧ LetOk (readLook z.cps.toList)) → HOk (hearAll h zs)
  | [], _, O, _ => O
  | z :: zs, h, O, hz => hearAll_ok (zs := zs) (O.hear (hz z List.mem_cons_self).2) fun y hy => hz y (List.mem_cons_of_mem _ hy)
def spAhr (T0 : Addr) (C : WCl) : Sp := fun vs H Q _ => ∃ (H0 : Hp) (hp q tx : Addr) (h : Hl) (us : List V) (xs : List E12) (zs : List Str), vs = [.ref hp, .ref q, .ref tx] ∧ H0 tx = some (.lst (zs.map V.str)) ∧ Sep (B12 C hp q h us xs) H0 H ∧ HOk h ∧ (∀ z ∈ zs, z.length ≤ 900000 ∧ LetOk (readLook z.cps.toList)) ∧ HLen (hearAll h zs) ∧ (∀ m ∈ (hearAll h zs).names, (txt ((hearAll h zs).letterL m)).length ≤ 900000) ∧
  (∀ x ∈ xs, x.1.signs.length < 1000000) ∧ H0 T0 = some (TabO T0) ∧ ∀ H', Sep (B12 C hp q (hearAll h zs) us (tellE (hearAll h zs) xs)) H0 H' → Q .non H'
section
variable {P : Program} {w : World} {K : PySem.W.Frag} {mg : Str → Option Value} {base : Heap}
structure CAhr (P : Program) (w : World) (K : PySem.W.Frag) (mg : Str → Option Value) (base : Heap) (T0 : Addr) (C : WCl) : Prop where
  Hall_hear : MCal P w K mg base C.h.H "hear" 6 ["self", "text"] (spHHe T0 C.h)
  Hall_letters : MCal P w K mg base C.h.H "letters" 6 ["self"] (spHLt T0 C.h)
  Look_hear : MCal P w K mg base C.K "hear" 5 ["self", "text"] (spKHe T0 C.K)
structure TAhr (K : PySem.W.Frag) (C : WCl) : Prop where
  clH : Cls K C.h.H
  clK : Cls K C.K
theorem ok_ahr {f T0 : Addr} {fd : FuncData} {cs : WCl} (F : Fun K "_law_all_hear" "_law_all_hear" sAhr f fd) (T : TAhr K cs) (C : CAhr P w K mg base T0 cs) : FnOk P w K mg base CX0 7 f fd ["_law_hall", "_law_looks", "_law_texts"] (spAhr T0 cs) := by
  refine F.ok scAhr (fun vs H Q E h => ?_) (fun cdv A outer s H vs Q E hr h => ?_)
  · obtain ⟨H0, hp, q, tx, h, us, xs, zs, rfl, _⟩ := h
    rfl
  · obtain ⟨H0, hp, q, tx, h, us, xs, zs, rfl, htx, S, O, hz, HL, hlt, hx, hT, k⟩ := h
    refine ⟨_, (pss_cons (ps_for PassesOwn.never rfl (pi_list (pv 2)) (pg_name (i := 3) scAhr.nd rfl (Or.inl rfl)) (pss_one (ps_expr (pmeth (pv 0) T.clH C.Hall_hear (hr.mono (by first | decide | omega)) (pa_cons (pv 3) pa_nil)))))
      (pss_one (ps_for PassesOwn.never rfl (pi_list (pmeth0 (pv 0) T.clH C.Hall_letters (hr.mono (by first | decide | omega)))) (pg_tup rfl (pgs_cons (pg_name (i := 4) scAhr.nd rfl (Or.inl rfl)) (pgs_cons (pg_name (i := 3) scAhr.nd rfl (Or.inl rfl)) pgs_nil))) (pss_one (ps_for PassesOwn.never rfl (pi_list (pv 1)) (pg_tup rfl (pgs_cons (pg_name (i := 5) scAhr.nd rfl (Or.inl rfl)) (pgs_cons (pg_name (i := 6) scAhr.nd rfl (Or.inl rfl)) (pgs_cons (pg_name (i := 7) scAhr.nd rfl (Or.inl rfl)) pgs_nil)))) (pss_one (ps_expr (pmeth (pv 5) T.clK C.Look_hear (hr.mono (by first | decide | omega)) (pa_cons (pv 3) pa_nil))))))))), ?_⟩
    refine ⟨_, rfl, tx, rfl, ⟨_, SqL.of (S.1 _ _ htx)⟩, for_list (K := K) (a := tx) (xs := zs.map V.str) (fun i σ H' => ∃ c3, σ = [some (.ref hp), some (.ref q), some (.ref tx), c3, none, none, none, none] ∧ Sep (B12 cs hp q (hearAll h (zs.take i)) us xs) H0 H') ⟨_, rfl, by rw [List.take_zero]; exact S⟩ (fun i σ H' _ ⟨_, _, S'⟩ => SqL.of (S'.1 _ _ htx)) ?_ ?_⟩
    · clear S
      rintro i v σ H1 hi ⟨c3, rfl, S⟩
      rw [List.getElem?_map] at hi
      obtain ⟨z, ez, rfl⟩ := Option.map_eq_some_iff.mp hi
      obtain ⟨H2, x2, b2, back⟩ := b12_hall S
      obtain ⟨dx, pl, sd, hh⟩ := hall_ins b2
      have Oi := hearAll_ok (zs := zs.take i) O fun y hy => hz y (List.mem_of_mem_take hy)
      have hzz := hz z (List.mem_of_getElem? ez)
      refine ⟨_, rfl, hp, dx, _, rfl, hh, zf_no (by decide +kernel), _, rfl, H2, hp, _, z, rfl, b2, Oi, hzz.1, hzz.2, x2 _ _ hT, fun H3 R => ⟨_, rfl, ?_⟩⟩
      have e : hearAll h (zs.take (i + 1)) = (hearAll h (zs.take i)).hear (readLook z.cps.toList) := by
        unfold hearAll
        rw [List.take_add_one, ez, List.foldl_append]
        rfl
      rw [e]
      exact back _ _ R
    · clear S
      rintro σ H1 ⟨c3, rfl, S⟩
      rw [List.length_map, List.take_length] at S
      have O1 := hearAll_ok O hz
      generalize hearAll h zs = h1 at S HL hlt k O1
      obtain ⟨H2, x2, b2, _⟩ := b12_hall S
      obtain ⟨dx, pl, sd, hh⟩ := hall_ins b2
      refine ⟨_, rfl, hp, dx, _, rfl, hh, zf_no (by decide +kernel), H2, hp, h1, rfl, b2, O1, HL, x2 _ _ hT, fun q1 ws G e1 nq1 hq1 tu => ?_⟩
      rw [lettersV_rows] at tu
      obtain ⟨Hb, xb, hqb, tb, Sb⟩ := S.below (B12T _ _ _ _ _ _) e1 nq1 hq1 tu
      have hTb := xb _ _ hT
      have hwl : ws.length = h1.names.length := by rw [tb.len, List.length_map, List.length_map]
      refine ⟨q1, rfl, ⟨_, SqL.of hq1⟩, for_list (K := K) (a := q1) (xs := ws) (fun i σ H' => ∃ c3 c4 c5 c6 c7, σ = [some (.ref hp), some (.ref q), some (.ref tx), c3, c4, c5, c6, c7] ∧ Sep (B12 cs hp q h1 us ((h1.names.take i).foldl (hearE h1) xs)) Hb H') ⟨_, _, _, _, _, rfl, Sb⟩ (fun i σ H' _ ⟨_, _, _, _, _, _, S'⟩ => SqL.of (S'.1 _ _ hqb)) ?_ ?_⟩
      · clear S Sb b2 tu hq1 nq1
        rintro i v σ H3 hi ⟨c3, c4, c5, c6, c7, rfl, S⟩
        have li : i < h1.names.length := by rw [← hwl]; exact lt_of_get hi
        have em : h1.names[i]? = some h1.names[i] := List.getElem?_eq_getElem li
        generalize h1.names[i] = m at em
        obtain ⟨t, h3, h4⟩ := tb.at_ (x := rowV (some m, txt (h1.letterL m))) (by rw [List.getElem?_map, List.getElem?_map, em]; rfl)
        rw [hi] at h3
        obtain rfl := Option.some.inj h3
        have h4 := S.1 _ _ h4
        refine ⟨t, _, rfl, SqT.of h4, rfl, _, _, rfl, _, _, rfl, rfl, ?_⟩
        have hzl : (txt (h1.letterL m)).length ≤ 900000 := hlt m (List.mem_of_getElem? em)
        have small : ∀ (ms : List Nat) (xs : List E12), (∀ x ∈ xs, x.1.signs.length < 1000000) → ∀ x ∈ ms.foldl (hearE h1) xs, x.1.signs.length < 1000000 := fun ms => by
          induction ms with
          | nil => intro xs h; exact h
          | cons a ms ih =>
            intro xs h
            refine ih _ fun x hx => ?_
            obtain ⟨y, hy, rfl⟩ := List.mem_map.mp hx
            exact Nat.lt_of_le_of_lt hear_less (h y hy)
        have hsm := small (h1.names.take i) xs hx
        generalize hxs : (h1.names.take i).foldl (hearE h1) xs = ys at S hsm
        obtain ⟨hq0, tq0⟩ := b12_q S
        have hul : us.length = ys.length := by rw [tq0.len, List.length_map]
        refine ⟨_, rfl, q, rfl, ⟨_, SqL.of hq0⟩, for_list (K := K) (a := q) (xs := us) (fun j σ H' => ∃ c5 c6 c7, σ = [some (.ref hp), some (.ref q), some (.ref tx), some (.str (txt (h1.letterL m))), some (.int (m : Nat)), c5, c6, c7] ∧ Sep (B12 cs hp q h1 us ((ys.take j).map (fun x => (x.1.hear (readHall (txt (h1.letterL m)).cps.toList), x.2)) ++ ys.drop j)) Hb H') ⟨_, _, _, rfl, by simpa using S⟩ (fun j σ H' _ ⟨_, _, _, _, S'⟩ => SqL.of (b12_q S').1) ?_ ?_⟩
        · clear S hq0 tq0
          rintro j v σ H5 hj ⟨c5, c6, c7, rfl, S⟩
          have lj : j < ys.length := by rw [← hul]; exact lt_of_get hj
          have ey : ys[j]? = some ys[j] := List.getElem?_eq_getElem lj
          generalize eyj : ys[j] = y at ey
          obtain ⟨l, a, z⟩ := y
          obtain ⟨hq0, tq0⟩ := b12_q S
          have hfl : ((ys.take j).map (fun x : E12 => ((x.1.hear (readHall (txt (h1.letterL m)).cps.toList), x.2) : E12))).length = j := by rw [List.length_map, List.length_take]; omega
          have ext : ((ys.take j).map (fun x : E12 => ((x.1.hear (readHall (txt (h1.letterL m)).cps.toList), x.2) : E12)) ++ ys.drop j)[j]? = some (l, a, z) := by
            rw [List.getElem?_append_right (by omega), hfl, Nat.sub_self, List.getElem?_drop]
            exact ey
          obtain ⟨t2, k3, k4⟩ := tq0.at_ (map_get (f := rowE) ext)
          rw [hj] at k3
          obtain rfl := Option.some.inj k3
          obtain ⟨H6, x6, b6, back⟩ := b12_look S ext
          obtain ⟨dx6, r6, L6⟩ := look_at b6
          have hlen := hsm (l, a, z) (List.mem_of_getElem? ey)
          refine ⟨t2, _, rfl, SqT.of k4, rfl, _, _, rfl, _, _, rfl, _, _, rfl, rfl, ?_⟩
          refine ⟨_, rfl, a, dx6, _, rfl, L6.at_, zf_no (by decide +kernel), _, rfl, H6, a, l, _, rfl, b6, hlen, hzl, x6 _ _ hTb, fun H7 R => ⟨_, _, _, rfl, ?_⟩⟩
          have S7 := back _ _ hear_ses R
          have e2 : ((ys.take j).map (fun x : E12 => ((x.1.hear (readHall (txt (h1.letterL m)).cps.toList), x.2) : E12)) ++ ys.drop j).set j (l.hear (readHall (txt (h1.letterL m)).cps.toList), a, z) = (ys.take (j + 1)).map (fun x : E12 => ((x.1.hear (readHall (txt (h1.letterL m)).cps.toList), x.2) : E12)) ++ ys.drop (j + 1) := by
            rw [List.set_append_right _ _ (by omega), hfl, Nat.sub_self, List.drop_eq_getElem_cons lj, eyj, List.set_cons_zero, List.take_add_one, ey, List.map_append, List.append_assoc]
            rfl
          rw [e2] at S7
          exact S7
        · rintro σ H5 ⟨c5, c6, c7, rfl, S5⟩
          have e3 : (ys.take us.length).map (fun x : E12 => ((x.1.hear (readHall (txt (h1.letterL m)).cps.toList), x.2) : E12)) ++ ys.drop us.length = hearE h1 ys m := by
            rw [hul, List.take_length, List.drop_length, List.append_nil]
            rfl
          rw [e3] at S5
          refine ⟨_, _, _, _, _, rfl, ?_⟩
          rw [List.take_add_one, em, List.foldl_append, hxs]
          exact S5
      · rintro σ H3 ⟨c3, c4, c5, c6, c7, rfl, S3⟩
        rw [hwl, List.take_length] at S3
        exact k _ (S3.shrink xb)
end
end Vf
namespace Vf
open PySem PySem.Spec PyProof.Rows L2 Evl GxR
/-! ### the last session is done, the elder ones are over -/
abbrev sIsl : Stmt := topS 71
theorem scIsl : FnScope ["_law_hall", "_law_looks", "_law_name", "_law_turn", "_law_session", "_law_signs", "_law_last", "_law_mine", "_law_look", "_law_who", "_law_one", "_law_sign"] ["_law_hall", "_law_looks", "_law_name"] (defScope sIsl) := ⟨rfl, rfl, rfl, by decide +kernel, rfl, by decide +kernel, by decide +kernel⟩
structure O12 (n B : Nat) (ses : List Ses) (ev : List Gev) (h : Hl) (xs : List E12) : Prop where
  inv : I12 n B ses ev h (xs.map (·.1))
  ty : ∀ (i : Nat) (x : E12) (s : Ses), xs[i]? = some x → ses[i]? = some s → s.ty = x.2.2.cps.toList
theorem tellE_at {h : Hl} {xs : List E12} {i : Nat} {x : E12} (e : (tellE h xs)[i]? = some x) : ∃ l, xs[i]? = some (l, x.2) ∧ x.1.session = l.session := by
  have : ∀ (ms : List Nat) (xs : List E12), (ms.foldl (hearE h) xs)[i]? = some x → ∃ l, xs[i]? = some (l, x.2) ∧ x.1.session = l.session := fun ms => by
    induction ms with
    | nil => intro xs e; exact ⟨x.1, e, rfl⟩
    | cons m ms ih =>
      intro xs e
      obtain ⟨l, h1, h2⟩ := ih _ e
      unfold hearE at h1
      rw [List.getElem?_map] at h1
      obtain ⟨y, hy, e2⟩ := Option.map_eq_some_iff.mp h1
      injection e2 with e4 e3
      refine ⟨y.1, by rw [hy, ← e3], ?_⟩
      rw [h2, ← e4, hear_ses]
  exact this _ _ e
theorem tellE_len {h : Hl} {xs : List E12} : (tellE h xs).length = xs.length := by
  have := congrArg List.length (tellE_map (h := h) (xs := xs))
  rw [List.length_map, tellAll_len, List.length_map] at this
  exact this
section
variable {n B : Nat} {ses : List Ses} {ev : List Gev} {h : Hl} {xs : List E12}
theorem O12.xlen (J : O12 n B ses ev h xs) : xs.length = ses.length := by
  have := J.inv.len
  rw [List.length_map] at this
  exact this
theorem O12.small (J : O12 n B ses ev h xs) : ∀ x ∈ xs, x.1.signs.length < 1000000 := fun x hx => by
  obtain ⟨i, hi⟩ := List.getElem?_of_mem hx
  obtain ⟨y, _, _, _, _, _, _, _, _, _, b⟩ := J.inv.zlen (k := x.1) (i := i) (by rw [List.getElem?_map, hi]; rfl)
  omega
/-- letters are heard and told -/
theorem O12.step (J : O12 n B ses ev h xs) (hB : B ≤ 100) {zs : List Str} {ses' : List Ses} {ev' : List Gev} (J' : I12 n B ses' ev' (hearAll h zs) (xs.map (·.1))) (le : Le0 ses ev ses' ev') : O12 n B ses' ev' (hearAll h zs) (tellE (hearAll h zs) xs) := by
  refine ⟨by rw [tellE_map]; exact J'.tells (by omega), fun i x s hx hs => ?_⟩
  obtain ⟨l, h1, _⟩ := tellE_at hx
  have hi : i < ses.length := by rw [← le.len]; exact lt_of_get hs
  obtain ⟨d, h2, _⟩ := le.at_ i _ (List.getElem?_eq_getElem hi)
  rw [hs] at h2
  have := J.ty i _ _ h1 (List.getElem?_eq_getElem hi)
  rw [Option.some.inj h2]
  exact this
theorem O12.round (J : O12 n B ses ev h xs) (hB : B ≤ 100) {i : Nat} {x : E12} (hx : xs[i]? = some x) : ∃ ses' ev', O12 n B ses' ev' (hearAll h (x.1.letters.map txt)) (tellE (hearAll h (x.1.letters.map txt)) xs) ∧ ses'.length = ses.length ∧ HLen (hearAll h (x.1.letters.map txt)) ∧ (∀ m ∈ (hearAll h (x.1.letters.map txt)).names, (txt ((hearAll h (x.1.letters.map txt)).letterL m)).length ≤ 900000) ∧
    ((i + 1 = ses.length ∨ Half n ses h) → Fin12 n ses' (hearAll h (x.1.letters.map txt)) ((tellE (hearAll h (x.1.letters.map txt)) xs).map (·.1))) := by
  have hk : (xs.map (·.1))[i]? = some x.1 := by rw [List.getElem?_map, hx]; rfl
  obtain ⟨ses', ev', J', le, half⟩ := J.inv.round hk
  refine ⟨ses', ev', J.step hB J' le, le.len, J'.net.hlens (by omega), fun m hm => (J'.net.lets (by omega) hm).1, fun hh => ?_⟩
  rw [tellE_map]
  exact J'.told (by omega) (half hh)
theorem O12.letters (J : O12 n B ses ev h xs) {i : Nat} {x : E12} (hx : xs[i]? = some x) : (∀ z ∈ x.1.letters.map txt, z.length ≤ 900000 ∧ LetOk (readLook z.cps.toList)) ∧ LOk x.1 := by
  have hk : (xs.map (·.1))[i]? = some x.1 := by rw [List.getElem?_map, hx]; rfl
  obtain ⟨_, _, _, _, _, _, _, I, _⟩ := J.inv.zlen hk
  refine ⟨fun z hz => ?_, I.ok⟩
  rcases J.inv.says hk with ⟨_, e⟩ | ⟨_, l, sg, e, _, _, L⟩
  · rw [e] at hz; exact nomatch hz
  · rw [e] at hz
    rw [List.mem_singleton.mp hz]
    exact ⟨L.1, J.inv.letOk L⟩
end
theorem op_notT {X : Cx} : OpR X (compareOp .IsNot) (fun x y H Q => ∃ b, x = .bl b ∧ y = .bl true ∧ Q (.bl (!b)) H) := by
  intro pins s σ H x y v u Q I rx ry h
  obtain ⟨b, rfl, rfl, q⟩ := h
  cases rx
  cases ry
  show wpAny _ _ ((isSame (Value.bool b) (Value.bool true)) >>= fun z => pure (Value.bool (!z))) _ _ s
  have e : isSame (Value.bool b) (Value.bool true) = pure b := by cases b <;> rfl
  exact wpAny_bind (wpAny_of_eq e (wpAny_pure (fin_bl I q rfl)))
theorem iteTz {b : Bool} {A B : Prop} (e : b = true) (h : A) : if b = true then A else B := by
  rw [if_pos e]
  exact h
theorem iteFz {b : Bool} {A B : Prop} (e : b = false) (h : B) : if b = true then A else B := by
  rw [e]
  exact iteF h
theorem cutV_but (xs : List V) : cutV xs none (some (-1)) = xs.dropLast := by
  unfold cutV
  rw [show HT.sIx xs.length 0 none = 0 from rfl, List.drop_zero, Nat.sub_zero, List.dropLast_eq_take]
  congr 1
  unfold HT.sIx
  simp
  omega
theorem atI_m1 {xs : List V} {n : Nat} {v : V} (h : xs[n]? = some v) (e : n + 1 = xs.length) : atI xs (-1) = some v := by
  rcases List.eq_nil_or_concat xs with rfl | ⟨ys, w, rfl⟩
  · cases h
  · rw [List.concat_eq_append] at h e ⊢
    rw [List.length_append] at e
    have e : n + 1 = ys.length + 1 := e
    rw [List.getElem?_append_right (by omega), show n - ys.length = 0 by omega] at h
    rw [Option.some.inj h]
    exact atI_last _ _
/-- behind all rounds -/
theorem I12.end_ {n B : Nat} {ses : List Ses} {ev : List Gev} {h : Hl} {lks : List Lk} (J : I12 n B ses ev h lks) (hB : B ≤ 100) (F : Fin12 n ses h lks) : ∃ x, ses[ses.length - 1]? = some x ∧ h.looksV = [[.int (n : Nat), .int (x.s : Nat), .int (0 : Nat)]] ∧ (∃ s, h.panes[0]? = some s ∧ s.typed = (typedOf 0 ev).map tv) ∧ (typedOf 0 ev).length ≤ B ∧
    ((typedOf 0 ev).filter fun t => decide (t.2.1 = x.s)).map (·.2.2) = x.ty := by
  obtain ⟨⟨L, x, hx, hL, hs⟩, _⟩ := F
  have hm := List.mem_of_getElem? hx
  have hn4 := (J.net.ok x hm).1
  rw [(J.all x hm).1] at hn4
  have hn : n ∈ h.names := by
    unfold Hl.names
    rw [List.mem_filter, List.mem_range]
    exact ⟨hn4, by rw [hs]; rfl⟩
  have en := names_one (fun m hm => J.name hm) hn
  refine ⟨x, by rw [show ses.length - 1 = L by omega]; exact hx, ?_, J.typed hB, J.few, ?_⟩
  · unfold Hl.looksV
    rw [en]
    show [match sOf n h.seats with | none => [] | some st => _] = _
    rw [hs]
  · obtain ⟨y, hy, e1, _, e2, _⟩ := J.seatS hs
    obtain ⟨i, hi⟩ := List.getElem?_of_mem hy
    obtain rfl := J.key hi hx e1
    rw [hx] at hi
    obtain rfl := Option.some.inj hi
    rw [J.mine hm, e2]
    exact List.take_length
def tabs12 (PD : Addr) : List (Addr × Str) := [(PD, "_law_is_last.<locals>.<lambda>")]
def spIsl (T0 PD : Addr) (C : WCl) : Sp := fun vs H Q _ => ∃ (H0 : Hp) (hp q : Addr) (n B : Nat) (ses : List Ses) (ev : List Gev) (h : Hl) (us : List V) (xs : List E12), vs = [.ref hp, .ref q, .int (n : Nat)] ∧ Sep (B12 C hp q h us xs) H0 H ∧ O12 n B ses ev h xs ∧ B ≤ 100 ∧ xs ≠ [] ∧ H0 T0 = some (TabO T0) ∧ LamX.Tabs (tabs12 PD) H0 ∧ ∀ H', H' T0 = some (TabO T0) → Q (.bl true) H'
structure TIsl (K : PySem.W.Frag) (mg : Str → Option Value) (C : WCl) : Prop where
  z_range : mg "range" = none
  clH : Cls K C.h.H
  clK : Cls K C.K
section
variable {P : Program} {w : World} {K : PySem.W.Frag} {mg : Str → Option Value} {base : Heap}
structure CIsl (P : Program) (w : World) (K : PySem.W.Frag) (mg : Str → Option Value) (base : Heap) (T0 cN : Addr) (C : WCl) : Prop where
  law_all_hear : Cal P w K mg base "_law_all_hear" 7 ["_law_hall", "_law_looks", "_law_texts"] (spAhr T0 C)
  law_all : Cal P w K mg base "_law_all" 6 ["_law_works", "_law_due"] (spAllV P w K mg base cN 4)
  Look_letters : MCal P w K mg base C.K "letters" 6 ["self"] (spKLt T0 C.K)
  Look_over : MCal P w K mg base C.K "over" 1 ["self"] (spKOv C.K)
  Look_waiting : MCal P w K mg base C.K "waiting" 1 ["self"] (spKWa C.K)
  Look_press : MCalX P w K mg base C.K "press" 2 ["self", "signs"] (spKPx C.K cN)
  Hall_typed : MCal P w K mg base C.h.H "typed" 3 ["self", "pane"] (spHTy C.h)
  Hall_looks : MCal P w K mg base C.h.H "looks" 2 ["self"] (spHLo C.h)
theorem ok_isl {f c T0 PD cN : Addr} {cs : WCl} {oc : Value} {od an : Option Addr} {osl : Array (Option Value)} {kV doc pm ct : Value} (lk : K.lookup f = some ⟨oc, od, .func (PySem.W.fnOf "_law_is_last" "_law_is_last" (defArgs sIsl) (defBody sIsl) (defScope sIsl) .none kV doc pm an (.ref c) ct), osl⟩)
    (hcd : PySem.W.codeIn K (.ref c) "_law_is_last" = true) (tabL : LamX.TabB base mg c PD) (T : TIsl K mg cs) (C : CIsl P w K mg base T0 cN cs) :
    FnOk P w K mg base CX0 8 f (PySem.W.fnOf "_law_is_last" "_law_is_last" (defArgs sIsl) (defBody sIsl) (defScope sIsl) .none kV doc pm an (.ref c) ct) ["_law_hall", "_law_looks", "_law_name"] (spIsl T0 PD cs) := by
  have name_ : (Str.ofString "_law_is_last" ++ Str.ofString ".<locals>." ++ Str.ofString "<lambda>" : Str) = Str.ofString "_law_is_last.<locals>.<lambda>" := by decide +kernel
  have hmL : (PD, (Str.ofString "_law_is_last" ++ Str.ofString ".<locals>." ++ Str.ofString "<lambda>" : Str)) ∈ tabs12 PD := by
    rw [name_]
    exact List.mem_cons_self
  have huL : ∀ p ∈ tabs12 PD, p.1 = PD → p.2 = (Str.ofString "_law_is_last" ++ Str.ofString ".<locals>." ++ Str.ofString "<lambda>" : Str) := fun p hp e => by
    rw [name_, List.mem_singleton.mp hp]
  refine fn_of lk hcd scIsl (fun vs H Q E h => ?_) fun A outer s H vs Q E hr h => ?_
  · obtain ⟨H0, hp, q, n, B, ses, ev, h, us, xs, rfl, _⟩ := h
    rfl
  · obtain ⟨H0, hp, q, n, B, ses, ev, h, us, xs, rfl, S, J, hB, hne, hT, hTab, k⟩ := h
    refine ⟨_, PSs.nox (pss_cons (ps_for PassesOwn.never rfl (pi_range1 rfl T.z_range (pa_cons pe_int pa_nil)) (pg_name (i := 3) scIsl.nd rfl (Or.inl rfl)) (pss_one (ps_for PassesOwn.never rfl (pi_list (pv 1)) (pg_tup rfl (pgs_cons (pg_name (i := 8) scIsl.nd rfl (Or.inr rfl)) (pgs_cons (pg_name (i := 4) scIsl.nd rfl (Or.inr rfl)) (pgs_cons (pg_name (i := 5) scIsl.nd rfl (Or.inl rfl)) pgs_nil)))) (pss_one (ps_expr (pcall C.law_all_hear (hr.mono (by first | decide | omega)) (pa_cons (pv 0) (pa_cons (pv 1) (pa_cons (pmeth0 (pv 8) T.clK C.Look_letters (hr.mono (by first | decide | omega))) pa_nil)))))))))
      (pss_cons (ps_for PassesOwn.never rfl (pi_list (pe_slice sl_list (pv 1) po_none (po_some (pe_un un_neg pe_int)))) (pg_tup rfl (pgs_cons (pg_name (i := 8) scIsl.nd rfl (Or.inr rfl)) (pgs_cons (pg_name (i := 4) scIsl.nd rfl (Or.inr rfl)) (pgs_cons (pg_name (i := 5) scIsl.nd rfl (Or.inl rfl)) pgs_nil)))) (pss_one (ps_if (PW.pt (pw_or (pt_cmpR op_notT (pmeth0 (pv 8) T.clK C.Look_over (hr.mono (by first | decide | omega))) pe_bl (nomark _)) (pw_or (pt_cmpR (op_neD hr.units) (pmeth0 (pv 8) T.clK C.Look_letters (hr.mono (by first | decide | omega))) (pe_lst pa_nil) (nomark _)) (pw_or1 (pt_not (pt_val (pe_all1 (k := 3) C.law_all tabL rfl hmL huL (hr.mono (by first | decide | omega)) (LamX.lamS_by (show LamX.lamSB (defScope sIsl) _ = true by decide +kernel)) (fun A outer s H E f c' hr' => pmethX (E := E) (pv 8) T.clK C.Look_press (hr'.mono (by first | decide | omega)) (passE (takes_of rfl rfl rfl rfl)) (pa_cons pe_str pa_nil)) (pa_cons (pe_tup (pa_cons pe_str (pa_cons pe_int pa_nil))) pa_nil)))))))) (pss_one (ps_ret pe_bl)) pss_nil)))
      (pss_cons (ps_asg (pe_ix ix_list (pv 1) (pe_un un_neg pe_int) (fun _ _ => rfl)) (pg_tup rfl (pgs_cons (pg_name (i := 6) scIsl.nd rfl (Or.inl rfl)) (pgs_cons (pg_name (i := 4) scIsl.nd rfl (Or.inr rfl)) (pgs_cons (pg_name (i := 5) scIsl.nd rfl (Or.inl rfl)) pgs_nil)))))
      (pss_cons (ps_setLc (i := 7) (own := [("_law_who", 9), ("_law_one", 10), ("_law_sign", 11)]) (g := gTup K 3 (gCons (gName 9) (gCons (gName 10) (gCons (gName 11) gNil)))) (by rfl) scIsl.nd rfl rfl (sw_true rfl rfl rfl (by decide +kernel)) (pi_list (pmeth (pv 0) T.clH C.Hall_typed (hr.mono (by first | decide | omega)) (pa_cons pe_int pa_nil))) (blkOk_by (own := [("_law_who", 9), ("_law_one", 10), ("_law_sign", 11)]) (N := ["_law_hall", "_law_looks", "_law_name", "_law_turn", "_law_session", "_law_signs", "_law_last", "_law_mine", "_law_look", "_law_who", "_law_one", "_law_sign"]) (sc := defScope sIsl) (by decide +kernel)) (fun _ _ _ _ _ => pg_tup rfl (pgs_cons (pg_name (i := 9) scIsl.nd rfl (Or.inl rfl)) (pgs_cons (pg_name (i := 10) scIsl.nd rfl (Or.inl rfl)) (pgs_cons (pg_name (i := 11) scIsl.nd rfl (Or.inl rfl)) pgs_nil)))) (fun _ _ _ _ _ => pts_one (pt_cmpR op_eq (pv 10) (pv 4) (nomark _))) (fun _ _ _ _ _ => (pv 11)))
      (pss_one (ps_ret (pe_and (pe_cmpR op_eq (pe_join pe_str (pv 7)) (pv 5) (nomark _)) (pe_and (pe_not (pmeth0 (pv 6) T.clK C.Look_over (hr.mono (by first | decide | omega)))) (pe_and (pe_cmpR op_eq (pmeth0 (pv 6) T.clK C.Look_waiting (hr.mono (by first | decide | omega))) pe_int (nomark _)) (pe_one (pe_cmpR (op_eqD hr.units) (pmeth0 (pv 0) T.clH C.Hall_looks (hr.mono (by first | decide | omega))) (pe_lst (pa_cons (pe_tup (pa_cons (pv 2) (pa_cons (pv 4) (pa_cons pe_int pa_nil)))) pa_nil)) (nomark _)))))))))))), ?_⟩
    have hul : us.length = xs.length := by rw [(b12_q S).2.len, List.length_map]
    have xpos : 0 < xs.length := List.length_pos_iff.mpr hne
    generalize hN : xs.length = N at hul xpos
    refine ⟨12, rfl, by decide, by decide, for_it walk_range (fun i σ H' => ∃ ses ev h xs c3 c4 c5 c8, σ = [some (.ref hp), some (.ref q), some (.int (n : Nat)), c3, c4, c5, none, none, c8, none, none, none] ∧ Sep (B12 cs hp q h us xs) H0 H' ∧ O12 n B ses ev h xs ∧ xs.length = N ∧ (1 ≤ i → Fin12 n ses h (xs.map (·.1)))) ⟨ses, ev, h, xs, _, _, _, _, rfl, S, J, hN, fun z => by omega⟩ (fun _ _ _ _ _ => trivial) ?_ ?_⟩
    · clear S J hN hne
      rintro i x σ Ho H1 hi ⟨ses, ev, h, xs, c3, c4, c5, c8, rfl, S, J, hN, fin⟩ ⟨rfl, rfl⟩
      refine ⟨_, rfl, q, rfl, ⟨_, SqL.of (b12_q S).1⟩, for_list (K := K) (a := q) (xs := us) (fun j σ H' => ∃ ses ev h xs c4 c5 c8, σ = [some (.ref hp), some (.ref q), some (.int (n : Nat)), some (.int ((0 : Int) + (i : Nat))), c4, c5, none, none, c8, none, none, none] ∧ Sep (B12 cs hp q h us xs) H0 H' ∧ O12 n B ses ev h xs ∧ xs.length = N ∧ ((1 ≤ i ∨ j = N) → Fin12 n ses h (xs.map (·.1)))) ⟨ses, ev, h, xs, _, _, _, rfl, S, J, hN, fun z => z.elim fin fun z => by omega⟩ (fun j σ H' _ ⟨_, _, _, _, _, _, _, _, S', _⟩ => SqL.of (b12_q S').1) ?_ ?_⟩
      · clear S J hN fin
        rintro j v σ H2 hj ⟨ses, ev, h, xs, c4, c5, c8, rfl, S, J, hN, fin⟩
        have lj : j < xs.length := by rw [hN, ← hul]; exact lt_of_get hj
        have ex : xs[j]? = some xs[j] := List.getElem?_eq_getElem lj
        generalize xs[j] = x at ex
        obtain ⟨l, a, z⟩ := x
        obtain ⟨hq0, tq0⟩ := b12_q S
        obtain ⟨t, k3, k4⟩ := tq0.at_ (map_get (f := rowE) ex)
        rw [hj] at k3
        obtain rfl := Option.some.inj k3
        refine ⟨t, _, rfl, SqT.of k4, rfl, _, _, rfl, _, _, rfl, _, _, rfl, rfl, ?_⟩
        obtain ⟨hzs, Ol⟩ := J.letters ex
        obtain ⟨ses', ev', J', hlen', hHL, hlt, hfin⟩ := J.round hB ex
        obtain ⟨H3, x3, b3, _⟩ := b12_look S ex
        obtain ⟨dx, rr, L⟩ := look_at b3
        refine ⟨_, rfl, _, rfl, _, rfl, a, dx, _, rfl, L.at_, zf_no (by decide +kernel), H3, a, l, rfl, b3, Ol, x3 _ _ hT, fun q1 G e1 nq1 hq1 => ?_⟩
        obtain ⟨Hb, xb, hqb, Sb⟩ := S.belowL (B12T _ _ _ _ _ _) e1 nq1 hq1
        refine ⟨Hb, hp, q, q1, h, us, xs, l.letters.map txt, rfl, by rw [hqb, List.map_map]; rfl, Sb, J.inv.net.hok, hzs, hHL, hlt, J.small, xb _ _ hT, fun H4 S4 => ?_⟩
        refine ⟨ses', ev', _, _, _, _, _, rfl, S4.shrink xb, J', by rw [tellE_len]; exact hN, fun hh => hfin ?_⟩
        rcases hh with hh | hh
        · exact .inr (fin (.inl hh)).1
        · exact .inl (by rw [← J.xlen, hN]; exact hh)
      · rintro σ H2 ⟨ses, ev, h, xs, c4, c5, c8, rfl, S, J, hN, fin⟩
        exact ⟨ses, ev, h, xs, _, _, _, _, rfl, S, J, hN, fun _ => fin (.inr hul)⟩
    · clear S J hN hne
      rintro σ H1 ⟨ses, ev, h, xs, c3, c4, c5, c8, rfl, S, J, hN, fin⟩
      have F := fin (by decide)
      clear fin
      obtain ⟨hq0, tq0⟩ := b12_q S
      have hul' : us.length = xs.length := by rw [tq0.len, List.length_map]
      refine ⟨_, rfl, 1, rfl, -1, rfl, q, us, rfl, SqL.of hq0, fun q1 nq1 => ⟨q1, rfl, ⟨_, SqL.of upd_same⟩, ?_⟩⟩
      rw [cutV_but]
      have e1 := Ex.new (o := .lst us.dropLast) nq1
      have hq1 : upd H1 q1 (.lst us.dropLast) q1 = some (.lst us.dropLast) := upd_same
      generalize upd H1 q1 (.lst us.dropLast) = G at e1 hq1 ⊢
      obtain ⟨Hb, xb, hqb, Sb⟩ := S.belowL (B12T _ _ _ _ _ _) e1 nq1 hq1
      have hTb := xb _ _ hT
      have hTabb := hTab.ext xb
      clear S e1 hq1 nq1 hT hTab
      refine for_list (K := K) (a := q1) (xs := us.dropLast) (fun j σ H' => ∃ Hb c4 c5 c8, σ = [some (.ref hp), some (.ref q), some (.int (n : Nat)), c3, c4, c5, none, none, c8, none, none, none] ∧ Sep (B12 cs hp q h us xs) Hb H' ∧ Hb q1 = some (.lst us.dropLast) ∧ Hb T0 = some (TabO T0) ∧ LamX.Tabs (tabs12 PD) Hb) ⟨Hb, _, _, _, rfl, Sb, hqb, hTb, hTabb⟩ (fun j σ H' _ ⟨_, _, _, _, _, S', k, _⟩ => SqL.of (S'.1 _ _ k)) ?_ ?_
      · clear Sb hqb hTb hTabb hq0 tq0 xb
        rintro j v σ H2 hj ⟨Hb, c4, c5, c8, rfl, S, hqb, hTb, hTabb⟩
        have lj : j + 1 < xs.length := by
          have := lt_of_get hj
          rw [List.length_dropLast] at this
          omega
        rw [List.dropLast_eq_take, List.getElem?_take_of_lt (by omega)] at hj
        have ex : xs[j]? = some xs[j] := List.getElem?_eq_getElem (by omega)
        generalize xs[j] = x at ex
        obtain ⟨l, a, z⟩ := x
        obtain ⟨hq0, tq0⟩ := b12_q S
        obtain ⟨t, k3, k4⟩ := tq0.at_ (map_get (f := rowE) ex)
        rw [hj] at k3
        obtain rfl := Option.some.inj k3
        refine ⟨t, _, rfl, SqT.of k4, rfl, _, _, rfl, _, _, rfl, _, _, rfl, rfl, ?_⟩
        have hk : (xs.map (·.1))[j]? = some l := by rw [List.getElem?_map, ex]; rfl
        have ho : l.over = true := by
          have := F.2 j l hk
          rw [if_pos (by rw [← J.xlen]; exact lj)] at this
          exact this
        have hle : l.letters = [] := by
          rcases J.inv.says hk with ⟨_, e⟩ | ⟨e, _⟩
          · exact e
          · rw [ho] at e; cases e
        have hls := (J.letters ex).2
        have hsm := J.small _ (List.mem_of_getElem? ex)
        obtain ⟨H3, x3, b3, back⟩ := b12_look S ex
        obtain ⟨dx, rr, L⟩ := look_at b3
        refine ⟨_, rfl, a, dx, _, rfl, L.at_, zf_no (by decide +kernel), H3, a, l, rfl, b3, l.over, rfl, rfl, ?_⟩
        rw [ho]
        refine ⟨_, rfl, iteFz rfl ?_⟩
        refine ⟨_, rfl, a, dx, _, rfl, L.at_, zf_no (by decide +kernel), H3, a, l, rfl, b3, hls, x3 _ _ hTb, fun q2 G e2 nq2 hq2 => ?_⟩
        rw [hle] at hq2
        refine ⟨(by show 0 ≤ sizeLine; decide), fun q3 nq3 => ?_⟩
        have e3 := Ex.new (o := .lst ([] : List V)) nq3
        have hq3 : upd G q3 (.lst ([] : List V)) q3 = some (.lst []) := upd_same
        generalize upd G q3 (.lst ([] : List V)) = G1 at e3 hq3 ⊢
        refine ⟨.list [], .list [], .lst (SqL.of (e3 _ _ hq2)) .nil, .lst (SqL.of hq3) .nil, rfl, rfl, _, rfl, iteFz rfl ?_⟩
        have S1 := (S.ex (B12T _ _ _ _ _ _) (e2.trans e3))
        clear S b3 back e2 e3 hq2 hq3 nq2 nq3 hq0 tq0 k4
        refine ⟨hTabb.ext S1.1, fun H4 eN t1 => ?_⟩
        obtain ⟨Hc, eN0, t0', S4⟩ := S1.away (B12T _ _ _ _ _ _) (B12P _ _ _ _ _ _) hTabb eN t1
        have hqc := eN0 _ _ hqb fun _ z => by cases z
        have hTc := eN0 _ _ hTb (by unfold TabO; exact fun _ z => by cases z)
        clear S1 hqb hTb hTabb eN t1 eN0
        refine ⟨fun H5 Q' E' e5 hE => ?_, fun L f1 nL => ?_⟩
        · have S5 := S4.ex (B12T _ _ _ _ _ _) e5
          obtain ⟨H6, x6, b6, _⟩ := b12_look S5 ex
          obtain ⟨dx6, rr6, L6⟩ := look_at b6
          refine ⟨_, rfl, a, dx6, _, rfl, L6.at_, zf_no (by decide +kernel), H6, a, l, _, rfl, b6, (by decide +kernel), ?_, fun _ h => ?_, fun _ => hE _ (Ex.refl _)⟩
          · have : (Str.ofString "a").length = 1 := by decide +kernel
            rw [this]
            obtain ⟨_, _, _, _, _, _, _, _, _, _, b⟩ := J.inv.zlen hk
            omega
          · rw [ho] at h
            cases h
        · refine ⟨(by show 2 ≤ sizeLine; decide), fun D nD => ⟨D, rfl, upd_same, Ex.new nD, fun H7 x7 => ?_⟩⟩
          refine ⟨_, rfl, iteFz rfl ?_⟩
          have S7 := S4.ex (B12T _ _ _ _ _ _) (((Ex.new (o := .lst [.ref f1]) nL).trans (Ex.new nD)).trans x7)
          exact ⟨Hc, _, _, _, rfl, S7, hqc, hTc, t0'⟩
      · rintro σ H2 ⟨Hb, c4, c5, c8, rfl, S, hqb, hTb, hTabb⟩
        clear Sb hTabb hqb hq0 tq0 xb
        obtain ⟨hq0, tq0⟩ := b12_q S
        obtain ⟨x, hx, hlv, ⟨pn, hpn, hty⟩, hfew, hmine⟩ := J.inv.end_ hB F
        have lx : ses.length - 1 < xs.length := by rw [← J.xlen, hN]; omega
        have ex : xs[ses.length - 1]? = some xs[ses.length - 1] := List.getElem?_eq_getElem lx
        generalize xs[ses.length - 1] = y at ex
        obtain ⟨l, a, z⟩ := y
        obtain ⟨t, k3, k4⟩ := tq0.at_ (map_get (f := rowE) ex)
        have k5 := atI_m1 k3 (by rw [hul', ← J.xlen]; omega)
        have hk : (xs.map (·.1))[ses.length - 1]? = some l := by rw [List.getElem?_map, ex]; rfl
        obtain ⟨y, hy, _, hls, _⟩ := J.inv.zlen hk
        rw [hx] at hy
        obtain rfl := Option.some.inj hy
        have hz := J.ty _ _ _ ex hx
        have hz : x.ty = z.cps.toList := hz
        have hfin := F.2 _ _ hk
        rw [if_neg (by omega)] at hfin
        obtain ⟨hov, hwa⟩ := hfin
        refine ⟨_, rfl, 1, rfl, q, us, -1, _, rfl, rfl, SqL.of hq0, k5, t, _, rfl, SqT.of k4, rfl, _, _, rfl, _, _, rfl, _, _, rfl, rfl, ?_⟩
        obtain ⟨H3, x3, b3, _⟩ := b12_hall S
        obtain ⟨dx, pl, sd, hh⟩ := hall_ins b3
        refine ⟨_, rfl, hp, dx, _, rfl, hh, zf_no (by decide +kernel), H3, hp, h, 0, pn, rfl, b3, hpn, fun lq ts nl tu => ⟨lq, rfl, ⟨_, SqL.of upd_same⟩, fun D nD => ?_⟩⟩
        have e4 := Ex.new (o := .lst ts) nl
        have hlq : upd H2 lq (.lst ts) lq = some (.lst ts) := upd_same
        replace tu := tu.mono (TupEx.ex e4)
        generalize upd H2 lq (.lst ts) = G at e4 hlq tu nD ⊢
        rw [hty] at tu
        have htl : ts.length = (typedOf 0 ev).length := by rw [tu.len, List.length_map]
        refine lc_it (walk_list (K := K) (a := lq) (xs := ts)) (fun i H' => Ex G H' ∧ H' D = some (.lst ((((((typedOf 0 ev).take i).filter fun t => decide (t.2.1 = x.s)).map (·.2.2)).map sg).map V.str))) ⟨Ex.new nD, upd_same⟩ (fun i H' _ h => SqL.of (h.1 _ _ hlq)) ?_ ?_
        · rintro i v H4 H5 hi ⟨x4, hD⟩ ⟨rfl, hv⟩
          have li : i < (typedOf 0 ev).length := by rw [← htl]; exact hi
          have ei : (typedOf 0 ev)[i]? = some (typedOf 0 ev)[i] := List.getElem?_eq_getElem li
          generalize (typedOf 0 ev)[i] = w at ei
          obtain ⟨w0, w1, w2⟩ := w
          obtain ⟨b, k6, k7⟩ := tu.at_ (map_get (f := tv) ei)
          rw [hv] at k6
          obtain rfl := Option.some.inj k6
          refine ⟨b, _, rfl, SqT.of (x4 _ _ k7), rfl, _, _, rfl, _, _, rfl, _, _, rfl, rfl, rfl, ?_⟩
          by_cases q1 : w1 = x.s
          · refine ⟨_, rfl, _, rfl, rfl, _, rfl, iteTz (decide_eq_true (by rw [q1]; show V.int _ = V.int ((l.session : Nat) : Int); rw [hls])) ?_⟩
            refine ⟨_, rfl, _, hD, ?_, ex_set x4 nD, ?_⟩
            · rw [List.length_map, List.length_map, List.length_map]
              refine Nat.lt_of_le_of_lt (List.length_filter_le _ _) ?_
              rw [List.length_take]
              refine Nat.lt_of_le_of_lt (Nat.min_le_right _ _) (Nat.lt_of_lt_of_le (m := 101) (by omega) (by decide))
            · rw [upd_same, List.take_add_one, ei, List.filter_append, List.map_append, List.map_append, List.map_append]
              show _ = some (HO.lst (_ ++ ((((([(w0, w1, w2)] : List (Nat × Nat × Nat)).filter fun t => decide (t.2.1 = x.s)).map (·.2.2)).map sg).map V.str)))
              rw [List.filter_cons_of_pos (by exact decide_eq_true q1)]
              rfl
          · refine ⟨_, rfl, _, rfl, rfl, _, rfl, iteFz (decide_eq_false (fun e => q1 ?_)) ⟨x4, ?_⟩⟩
            · have e : V.int ((w1 : Nat) : Int) = V.int ((l.session : Nat) : Int) := e
              rw [hls] at e
              injection e with e
              exact Int.ofNat.inj e
            · rw [hD, List.take_add_one, ei, List.filter_append]
              show _ = some (HO.lst (((((_ ++ (([(w0, w1, w2)] : List (Nat × Nat × Nat)).filter fun t => decide (t.2.1 = x.s)))).map _).map _).map _))
              rw [List.filter_cons_of_neg (by simpa using q1), List.filter_nil, List.append_nil]
        · rintro H4 ⟨x4, hD⟩
          rw [htl, List.take_length, hmine] at hD
          have S4 := (S.ex (B12T _ _ _ _ _ _) (e4.trans x4))
          have hT4 := S4.1 _ _ hTb
          clear S b3 hlq tu e4 x4 hh x3 nD
          refine ⟨⟨_, rfl⟩, _, rfl, _, D, x.ty.map sg, rfl, rfl, .inl (SqL.of hD), ?_, ?_⟩
          · rw [sg_sum, List.length_map]
            show x.ty.length + x.ty.length * 0 ≤ _
            have := (J.inv.all x (List.mem_of_getElem? hx)).2.2.2
            omega
          have ej : Txt.join (Str.ofString "") (x.ty.map sg) = txt x.ty := join0 x.ty
          rw [ej, hz, txt_of]
          refine ⟨_, rfl, rfl, _, rfl, iteTz (decide_eq_true rfl) ?_⟩
          obtain ⟨H5, x5, b5, _⟩ := b12_look S4 ex
          obtain ⟨dx5, rr5, L5⟩ := look_at b5
          refine ⟨_, rfl, a, dx5, _, rfl, L5.at_, zf_no (by decide +kernel), H5, a, l, rfl, b5, _, rfl, ?_⟩
          rw [hov]
          refine ⟨_, rfl, iteTz rfl ?_⟩
          have hsm := J.small _ (List.mem_of_getElem? ex)
          refine ⟨_, rfl, a, dx5, _, rfl, L5.at_, zf_no (by decide +kernel), H5, a, l, rfl, b5, hsm, rfl, _, rfl, ?_⟩
          rw [hwa]
          refine iteTz rfl ?_
          obtain ⟨H6, x6, b6, _⟩ := b12_hall S4
          obtain ⟨dx6, pl6, sd6, hh6⟩ := hall_ins b6
          refine ⟨_, rfl, hp, dx6, _, rfl, hh6, zf_no (by decide +kernel), H6, hp, h, rfl, b6, J.inv.net.hok, fun q7 us7 H7 x7 nq7 hq7 tu7 => ?_⟩
          rw [hlv] at tu7
          match us7, tu7 with
          | [v7], tu7 =>
            obtain ⟨⟨b7, rfl, hb7⟩, _⟩ := tu7
            refine ⟨_, rfl, _, rfl, (by show 3 ≤ sizeLine; decide), fun p8 n8 => ⟨(by show 1 ≤ sizeLine; decide), fun p9 n9 => ?_⟩⟩
            have e8 := Ex.new (o := .tup [V.int (n : Nat), V.int (l.session : Nat), V.int 0]) n8
            have e9 := Ex.new (o := .lst [V.ref p8]) n9
            have h8 : (upd (upd H7 p8 (HO.tup [V.int (n : Nat), V.int (l.session : Nat), V.int 0])) p9 (HO.lst [V.ref p8])) p8 = _ := e9 _ _ upd_same
            have h9 : (upd (upd H7 p8 (HO.tup [V.int (n : Nat), V.int (l.session : Nat), V.int 0])) p9 (HO.lst [V.ref p8])) p9 = _ := upd_same
            have x9 := e8.trans e9
            replace hq7 := x9 _ _ hq7
            replace hb7 := x9 _ _ hb7
            replace hT4 := (x7.trans x9) _ _ hT4
            change rEqD _ _ _ (upd (upd H7 p8 (HO.tup [V.int (n : Nat), V.int (l.session : Nat), V.int 0])) p9 (HO.lst [V.ref p8])) _
            generalize upd (upd H7 p8 (HO.tup [V.int (n : Nat), V.int (l.session : Nat), V.int 0])) p9 (HO.lst [V.ref p8]) = H9 at h8 h9 hq7 hb7 hT4 ⊢
            refine ⟨.list [.tuple [.int (n : Nat), .int (x.s : Nat), .int (0 : Nat)]], .list [.tuple [.int (n : Nat), .int (l.session : Nat), .int 0]], .lst (SqL.of hq7) (.cons (.tup (SqT.of hb7) (.cons (.int _) (.cons (.int _) (.cons (.int _) .nil)))) .nil), .lst (SqL.of h9) (.cons (.tup (SqT.of h8) (.cons (.int _) (.cons (.int _) (.cons (.int _) .nil)))) .nil), rfl, rfl, ?_⟩
            rw [hls]
            have : PyData.eqv (.list [.tuple [.int (n : Nat), .int (x.s : Nat), .int (0 : Nat)]]) (.list [.tuple [.int (n : Nat), .int (x.s : Nat), .int 0]]) = true := SeqAt.eqv_refl _ rfl
            rw [this]
            exact k _ hT4
end
end Vf
namespace Vf
open PySem PySem.Spec PyProof.Rows L2 Evl GxR
/-! ### the law's end, where some defs' tables of codes are told -/
def TabsIn (K : PySem.W.Frag) : List Str → List (Addr × Addr) → Prop
  | [], [] => True
  | y :: ys, c :: cs => (PySem.W.tabIn K y = some c ∧ K.lookup c.2 = none) ∧ TabsIn K ys cs
  | _, _ => False
def RecsOk (q : Program) : List (Str × DefRec) → Prop
  | [] => True
  | y :: ys => (recsOf q).find? (fun e => e.name == y.1) = some y.2 ∧ RecsOk q ys
theorem tabs_in {K : PySem.W.Frag} {q : Program} {f : Addr × Addr → Prop} (hf : ∀ (y : Str) (d : DefRec) (c : Addr × Addr), (recsOf q).find? (fun e => e.name == y) = some d → PySem.W.tabIn K y = some c → K.lookup c.2 = none → f c) : ∀ {ys : List (Str × DefRec)} {cs : List (Addr × Addr)}, TabsIn K (ys.map (·.1)) cs → RecsOk q ys → ∀ p ∈ cs, f p
  | [], [], _, _, p, hp => nomatch hp
  | y :: ys, c :: cs, h, r, p, hp => by
    rcases List.mem_cons.mp hp with rfl | hp
    · exact hf _ _ _ r.1 h.1.1 h.1.2
    · exact tabs_in hf (ys := ys) (cs := cs) h.2 r.2 p hp
  | [], _ :: _, h, _, _, _ => h.elim
  | _ :: _, [], h, _, _, _ => h.elim
theorem tabs_len {K : PySem.W.Frag} : ∀ {ys : List Str} {cs : List (Addr × Addr)}, TabsIn K ys cs → cs.length = ys.length
  | [], [], _ => rfl
  | y :: ys, c :: cs, h => congrArg (· + 1) (tabs_len (ys := ys) (cs := cs) h.2)
  | [], _ :: _, h => h.elim
  | _ :: _, [], h => h.elim
theorem walk_tabs {l : PySem.W.OpenLaw} {n k : Nat} {q : Program} {loose : List Str} {XP : (Str → Option Value) → Heap → Prop} {YP : World → Heap → Prop} {d : DefRec} {K : Params → PySem.W.Frag} {x : Str} {ys : List (Str × DefRec)} {sp : List (Addr × Addr) → PySem.W.Frag → Sp}
    (hn : l.most = some n) (hn2 : n ≤ sizeLine) (hdf : d.params.defaults = []) (room : Room k callerA) (hrec : RecsOk q ys)
    (hY : ∀ (w : World) (h : Heap), YP w h → (K w.params).In h)
    (F : ∀ (w : World) (mg : Str → Option Value) (fa : Addr) (h : Heap), (K w.params).In h → h.Ns mainGlobals mg → mg d.name = some (.ref fa) → ∃ (cs : List (Addr × Addr)) (fd : FuncData), TabsIn (K w.params) (ys.map (·.1)) cs ∧
      (∀ (s : Shared) (u : Value), BindsTo s fd ⟨[u], []⟩ [(x, u)]) ∧ ∀ base : Heap, (K w.params).In base → base.Ns mainGlobals mg → (∀ p ∈ cs, LamX.TabB base mg p.1 p.2) → FnOk l.prog w (K w.params) mg base CX0 k fa fd [x] (sp cs (K w.params)))
    (hsp : ∀ (cs : List (Addr × Addr)) (K : PySem.W.Frag) (H : Hp) (a : Addr) (ns : List Int), cs.length = (ys.map (·.1)).length → ns.length ≤ n → (∀ p ∈ cs, H p.2 = some (.tbl #[])) → SqL K H a (ns.map V.int) → sp cs K [.ref a] H (fun v _ => v = .bl true) fun _ _ _ => False) :
    PySem.W.WalkO q loose XP YP l.row.toRowW d [] (fun f vs => PySem.call f vs) := by
  refine Att.attach_callB hn hdf fun w s0 s1 mg mb fa o pm cd doc a vs ns top inY eo ed ec em ea areI short bits gens => ?_
  have inK := hY w _ inY
  obtain ⟨cs, fd, tabs, binds, hF⟩ := F w mg fa _ inK top.T.g em
  have got := tabs_in (f := fun c => (PySem.W.CodeHd s1.heap c.1 c.2 ∧ s1.heap.get? c.2 = some { cls := .none, data := .fields #[] }) ∧ (K w.params).lookup c.2 = none) (fun y dy c hr ht hno => ⟨PySem.W.tab_of top.T inK hr ht, hno⟩) tabs hrec
  exact LamX.law_callTs (cs := cs) inK top.T.g top.T.b top.T.builtins top.T.nolimit gens (fun p hp => (got p hp).1.2) (fun p hp => (got p hp).2) (fun p hp => (got p hp).1.1)
    top.T.bmain ea areI (Nat.le_trans short hn2) room (fun base h1 h2 h3 => hF base h1 h2 h3) binds (fun H hH hS => hsp cs _ H a ns (tabs_len tabs) short hH hS) fun H e s' z => z
end Vf
namespace Vf
open PySem PySem.Spec PyProof.Rows L2 Evl GxR
/-! ### the law: sessions of one name -/
abbrev sL12 : Stmt := topS 72
theorem scL12 : FnScope ["_law_script", "_law_box", "_law_hall", "_law_name", "_law_looks", "_law_done", "_law_texts", "_law_session", "_law_turn", "_law_signs", "_law_late", "_law_again", "_law_mine", "_law_here", "_law_who", "_law_one", "_law_sign"] ["_law_script"] (defScope sL12) := ⟨rfl, rfl, rfl, by decide +kernel, rfl, by decide +kernel, by decide +kernel⟩
structure TLaw (mg : Str → Option Value) : Prop where
  z_sorted : mg "sorted" = none
  z_len : mg "len" = none
  z_range : mg "range" = none
  z_isinstance : mg "isinstance" = none
  z_ValueError : mg "ValueError" = none
structure TLawR (K : PySem.W.Frag) (mg : Str → Option Value) (C : WCl) : Prop extends TLaw mg where
  clH : Cls K C.h.H
  clK : Cls K C.K
theorem b12_come {C : WCl} {hp q : Addr} {h : Hl} {us : List V} {xs : List E12} {H0 H H1 : Hp} {l : Lk} {a t : Addr} {z : Str} (S : Sep (B12 C hp q h us xs) H0 H) (b : Beh (lookA C.K a l) H H1) (nt : H1 t = none) : Sep (B12 C hp q h (us ++ [.ref t]) (xs ++ [(l, a, z)])) H0 (upd (upd H1 t (.tup [.ref a, .int (l.session : Nat), .str z])) q (.lst (us ++ [.ref t]))) := by
  have S1 : Sep [packA (xs.map (lkE C) ++ [lookA C.K a l]), tpsA q us (xs.map rowE), hallA C.h hp h] H0 H1 := S.into (B12T C hp q h us xs) (lkET C xs) (i := 0) rfl b
  have e : xs.map (lkE C) ++ [lookA C.K a l] = (xs ++ [(l, a, z)]).map (lkE C) := by rw [List.map_append]; rfl
  rw [e] at S1
  have T1 : Things [packA ((xs ++ [(l, a, z)]).map (lkE C)), tpsA q us (xs.map rowE), hallA C.h hp h] := Things.cons (packT (lkET C _)) (Things.cons (tpsT _ _ _) (Things.cons (hallT _ _ _) Things.nil))
  obtain ⟨H2, y, ⟨y2, fp, n, rfl, g, tv⟩, back⟩ := S1.focus T1 (i := 1) rfl
  have nd : H2 q = none := n q (by simp)
  have hne : q ≠ t := fun z => by rw [z, nt] at g; cases g
  refine back (tpsA q (us ++ [.ref t]) ((xs ++ [(l, a, z)]).map rowE)) _ ⟨ex_set (y2.trans (Ex.new nt)) nd, [q], n, rfl, upd_same, ?_⟩
  rw [List.map_append]
  have t2 : Tups (upd H1 t (.tup [.ref a, .int (l.session : Nat), .str z])) (us ++ [.ref t]) (xs.map rowE ++ [rowE (l, a, z)]) := Tups.snoc upd_same (tv.mono (TupEx.new nt))
  refine t2.mono fun a xs ha => ?_
  rw [upd_ne (fun k => by subst k; rw [upd_ne hne, g] at ha; cases ha)]
  exact ha
def lk12 (n s : Nat) (z : Str) : Lk := { Lk.new n s 0 20 5 with signs := (Lk.new n s 0 20 5).signs ++ z }
theorem O12.come {n B : Nat} {ses : List Ses} {ev : List Gev} {h : Hl} {xs : List E12} (J : O12 n B ses ev h xs) {s : Nat} {z : Str} (a : Addr) (fresh : ∀ x ∈ ses, x.s < s) (h4 : n < 4) (s1 : 1 ≤ s) (s2 : s ≤ 100000) (hz : ∀ c ∈ z.cps.toList, isK c = true) (hl : z.length ≤ 10) :
    O12 n (B + z.length) (ses ++ [⟨n, s, 0, z.cps.toList, 0, false⟩]) ev h (xs ++ [(lk12 n s z, a, z)]) := by
  refine ⟨?_, fun i x y hx hy => ?_⟩
  · rw [List.map_append]
    exact J.inv.come fresh h4 s1 s2 hz hl
  · have hxl := J.xlen
    rcases Nat.lt_or_ge i ses.length with q | q
    · rw [List.getElem?_append_left (by omega)] at hx
      rw [List.getElem?_append_left q] at hy
      exact J.ty i x y hx hy
    · have hi := lt_of_get hy
      rw [List.length_append] at hi
      have hi : i < ses.length + 1 := hi
      obtain rfl : i = ses.length := by omega
      rw [List.getElem?_append_right (Nat.le_refl _), Nat.sub_self] at hy
      rw [List.getElem?_append_right (by omega), show ses.length - xs.length = 0 by omega] at hx
      cases hx
      cases hy
      rfl
theorem O12.start {n : Nat} : O12 n 0 [] [] (Hl.new 1) [] := ⟨⟨(WInv.start (by decide) (by decide)).net, (fun _ h => nomatch h), (fun _ h => nomatch h), (fun _ _ _ _ h => nomatch h), rfl, (fun _ _ _ h => nomatch h)⟩, fun _ _ _ h => nomatch h⟩
theorem b12_new {C : WCl} {hp q : Addr} {h : Hl} {H0 H : Hp} (b : Beh (hallA C.h hp h) H0 H) (nq : H q = none) : Sep (B12 C hp q h [] []) H0 (upd H q (.lst [])) := by
  have S1 := (Sep.one b).cons (Things.cons (hallT _ _ _) Things.nil) (B := tpsA q [] []) (H' := upd H q (.lst [])) ⟨Ex.new nq, [q], (fun a ha => by rw [List.mem_singleton.mp ha]; exact nq), rfl, upd_same, trivial⟩
  exact S1.cons (Things.cons (tpsT _ _ _) (Things.cons (hallT _ _ _) Things.nil)) pack_nil
def pvT (x : Nat × Nat × Nat) : List V := [.int (x.2.1 : Nat), .str (sg x.2.2)]
def pvD (x : Nat × Nat × Nat) : PyData := .tuple [.int (x.2.1 : Nat), .str (sg x.2.2)]
theorem dp_pv {K : PySem.W.Frag} {H : Hp} : ∀ {vs : List V} {L : List (Nat × Nat × Nat)}, Tups H vs (L.map pvT) → DpAll K H vs (L.map pvD)
  | [], [], _ => .nil
  | v :: vs, x :: L, t => by
    obtain ⟨⟨a, rfl, ha⟩, ht⟩ := t
    exact .cons (.tup (SqT.of ha) (.cons (.int _) (.cons (.str _) .nil))) (dp_pv ht)
  | [], _ :: _, h => h.elim
  | _ :: _, [], h => h.elim
theorem typed_asc {ev : List Gev} (h : ∀ g ∈ ev, g.ok) : ∀ t ∈ typedOf 0 ev, t.2.2 < 128 := fun t ht => by
  obtain ⟨g, hg, e⟩ := List.mem_filterMap.mp ht
  have hk := h g hg
  match g, e, hk with
  | .press p n s c, e, hk =>
    have e : (if p = 0 then some (n, s, c) else none) = some t := e
    have hk : isK c = true := hk
    by_cases q : p = 0
    · rw [if_pos q] at e
      cases e
      exact of_decide_eq_true (List.all_eq_true.mp (by decide +kernel : KEY.cps.toList.all (fun c => decide (c < 128)) = true) c (isK_mem.mp hk))
    · rw [if_neg q] at e
      cases e
theorem sh_pv {L : List (Nat × Nat × Nat)} (h : ∀ t ∈ L, t.2.2 < 128) (hl : L.length ≤ 1000000) : SeqAt.shaped (.list (L.map pvD)) = true := by
  refine sh_of' (n := 2) ?_ (by decide)
  show (decide ((L.map pvD).length ≤ 16777216) && (L.map pvD).all (good 1)) = true
  rw [List.length_map, decide_eq_true (by omega), Bool.true_and, List.all_eq_true]
  intro d hd
  obtain ⟨t, ht, rfl⟩ := List.mem_map.mp hd
  show (decide (2 ≤ 16777216) && (true && (PyData.canLay0 (.str (sg t.2.2)) && true))) = true
  rw [lay_str (asc_sg (h t ht))]
  rfl
def abc : Str := "abcdefghij"
theorem abc_len : abc.length ≤ sizeLine := by decide +kernel
theorem abc_ok (k : Nat) : (∀ c ∈ (cutS abc none (some ((k : Nat) : Int))).cps.toList, isK c = true) ∧ (cutS abc none (some ((k : Nat) : Int))).length ≤ 10 := by
  rw [cutS_first]
  constructor
  · intro c hc
    have hc : c ∈ (abc.cps.toList.take k).toArray.toList := hc
    rw [List.toList_toArray] at hc
    have : ∀ c ∈ abc.cps.toList, isK c = true := by decide +kernel
    exact this c (List.mem_of_mem_take hc)
  · show (abc.cps.toList.take k).toArray.size ≤ 10
    rw [List.size_toArray, List.length_take]
    have : abc.cps.toList.length = 10 := by decide +kernel
    omega
def spLawH (T0 PD : Addr) (K : PySem.W.Frag) : Sp := fun vs H Q _ => ∃ (a : Addr) (ns : List Int), vs = [.ref a] ∧ SqL K H a (ns.map V.int) ∧ ns.length ≤ 63 ∧ H T0 = some (TabO T0) ∧ LamX.Tabs (tabs12 PD) H ∧ ∀ H', H' T0 = some (TabO T0) → Q (.bl true) H'
def spLaw (T0 PD : Addr) (K : PySem.W.Frag) : Sp := fun vs H Q _ => ∃ (a : Addr) (ns : List Int), vs = [.ref a] ∧ SqL K H a (ns.map V.int) ∧ ns.length ≤ 63 ∧ H T0 = some (.tbl #[]) ∧ H PD = some (.tbl #[]) ∧ ∀ H', Q (.bl true) H'
section
variable {P : Program} {w : World} {K : PySem.W.Frag} {mg : Str → Option Value} {base : Heap}
structure CL12 (P : Program) (w : World) (K : PySem.W.Frag) (mg : Str → Option Value) (base : Heap) (T0 PD : Addr) (C : WCl) : Prop where
  law_begun : Cal P w K mg base "_law_begun" 1 ["_law_script"] (spBeg K)
  law_take : Cal P w K mg base "_law_take" 1 ["_law_box", "_law_many"] spTak
  law_all_hear : Cal P w K mg base "_law_all_hear" 7 ["_law_hall", "_law_looks", "_law_texts"] (spAhr T0 C)
  law_is_last : Cal P w K mg base "_law_is_last" 8 ["_law_hall", "_law_looks", "_law_name"] (spIsl T0 PD C)
  mk_Hall : NCal P w K mg base C.h.H "Hall" 3 ["self", "many"] (spHIn C.h)
  mk_Look : NCal P w K mg base C.K "Look" 4 ["self", "name", "session", "pane", "wide", "high"] (spKIn C.K)
  Look_letters : MCal P w K mg base C.K "letters" 6 ["self"] (spKLt T0 C.K)
  Look_press : MCal P w K mg base C.K "press" 2 ["self", "signs"] (spKPr C.K)
  Hall_typed : MCal P w K mg base C.h.H "typed" 3 ["self", "pane"] (spHTy C.h)
theorem ok_law0 {f T0 PD : Addr} {fd : FuncData} {cs : WCl} (F : Fun K "law" "law" sL12 f fd) (T : TLawR K mg cs) (C : CL12 P w K mg base T0 PD cs) : FnOk P w K mg base CX0 9 f fd ["_law_script"] (spLawH T0 PD K) := by
  refine F.ok scL12 (fun vs H Q E h => ?_) (fun cdv A outer s H vs Q E hr h => ?_)
  · obtain ⟨a, ns, rfl, _⟩ := h
    rfl
  · obtain ⟨a, ns, rfl, hS, hlen, hT, hTab, fin⟩ := h
    refine ⟨_, (pss_cons (ps_set (i := 1) scL12.nd rfl (Or.inl rfl) (pcall C.law_begun (hr.mono (by first | decide | omega)) (pa_cons (pv 0) pa_nil)))
      (pss_cons (ps_par (i := 2) (j := 3) (by rfl) scL12.nd rfl rfl (by decide) rfl rfl (pa_cons (pmake C.mk_Hall (hr.mono (by first | decide | omega)) (pa_cons pe_int pa_nil)) (pa_cons (pcall C.law_take (hr.mono (by first | decide | omega)) (pa_cons (pv 1) (pa_cons pe_int pa_nil))) pa_nil)) (by rfl))
      (pss_cons (ps_par3 (i := 4) (j := 5) (l := 6) (by rfl) scL12.nd rfl rfl rfl (by decide) (by decide) (by decide) rfl rfl rfl (pa_cons (pe_lst pa_nil) (pa_cons (pe_lst pa_nil) (pa_cons (pe_lst pa_nil) pa_nil))) (by rfl))
      (pss_cons (ps_set (i := 7) scL12.nd rfl (Or.inr rfl) pe_int)
      (pss_cons (ps_for PassesOwn.never rfl (pi_range1 rfl T.z_range (pa_cons (pe_op op_add pe_int (pcall C.law_take (hr.mono (by first | decide | omega)) (pa_cons (pv 1) (pa_cons pe_int pa_nil)))) pa_nil)) (pg_name (i := 8) scL12.nd rfl (Or.inl rfl)) (pss_cons (ps_set (i := 7) scL12.nd rfl (Or.inr rfl) (pe_op op_add (pe_op op_add (pv 7) pe_int) (pcall C.law_take (hr.mono (by first | decide | omega)) (pa_cons (pv 1) (pa_cons (pe_ix ix_list (pe_lst (pa_cons pe_int (pa_cons pe_int (pa_cons pe_int pa_nil)))) (pcall C.law_take (hr.mono (by first | decide | omega)) (pa_cons (pv 1) (pa_cons pe_int pa_nil))) (fun _ _ => rfl)) pa_nil)))))
      (pss_cons (ps_set (i := 9) scL12.nd rfl (Or.inl rfl) (pe_slice sl_str pe_str po_none (po_some (pcall C.law_take (hr.mono (by first | decide | omega)) (pa_cons (pv 1) (pa_cons pe_int pa_nil))))))
      (pss_cons (ps_expr (pe_bm PySem.F.plainAttrs_list PySem.F.slot_list_append PySem.F.type_list_append mt_append (pv 4) (pa_cons (pe_tup (pa_cons (pmake C.mk_Look (hr.mono (by first | decide | omega)) (pa_cons (pv 3) (pa_cons (pv 7) (pa_cons pe_int (pa_cons pe_int (pa_cons pe_int pa_nil)))))) (pa_cons (pv 7) (pa_cons (pv 9) pa_nil)))) pa_nil)))
      (pss_cons (ps_expr (pmeth (pe_ix ix_tup (pe_ix ix_list (pv 4) (pe_un un_neg pe_int) (fun _ _ => rfl)) pe_int (fun _ _ => rfl)) T.clK C.Look_press (hr.mono (by first | decide | omega)) (pa_cons (pv 9) pa_nil)))
      (pss_cons (ps_set (i := 10) scL12.nd rfl (Or.inl rfl) (pe_lst pa_nil))
      (pss_cons (ps_for PassesOwn.never rfl (pi_range1 rfl T.z_range (pa_cons (pcall C.law_take (hr.mono (by first | decide | omega)) (pa_cons (pv 1) (pa_cons pe_int pa_nil))) pa_nil)) (pg_name (i := 11) scL12.nd rfl (Or.inl rfl)) (pss_cons (ps_set (i := 10) scL12.nd rfl (Or.inl rfl) (pe_op op_cat (pv 10) (pmeth0 (pe_ix ix_tup (pe_ix ix_list (pv 4) (pe_un un_neg pe_int) (fun _ _ => rfl)) pe_int (fun _ _ => rfl)) T.clK C.Look_letters (hr.mono (by first | decide | omega)))))
      (pss_one (ps_if (pt_cmpR op_eq (pcall C.law_take (hr.mono (by first | decide | omega)) (pa_cons (pv 1) (pa_cons pe_int pa_nil))) pe_int (nomark _)) (pss_one (ps_expr (pcall C.law_all_hear (hr.mono (by first | decide | omega)) (pa_cons (pv 2) (pa_cons (pv 4) (pa_cons (pe_op op_cat (pv 10) (pv 6)) pa_nil)))))) pss_nil))))
      (pss_cons (ps_set (i := 6) scL12.nd rfl (Or.inl rfl) (pe_op op_cat (pv 6) (pv 10)))
      (pss_cons (ps_setLc (i := 12) (own := [("_law_who", 14), ("_law_one", 15), ("_law_sign", 16)]) (g := gTup K 3 (gCons (gName 14) (gCons (gName 15) (gCons (gName 16) gNil)))) (tt := tYes) (by rfl) scL12.nd rfl rfl (sw_true rfl rfl rfl (by decide +kernel)) (pi_list (pmeth (pv 2) T.clH C.Hall_typed (hr.mono (by first | decide | omega)) (pa_cons pe_int pa_nil))) (blkOk_by (own := [("_law_who", 14), ("_law_one", 15), ("_law_sign", 16)]) (N := ["_law_script", "_law_box", "_law_hall", "_law_name", "_law_looks", "_law_done", "_law_texts", "_law_session", "_law_turn", "_law_signs", "_law_late", "_law_again", "_law_mine", "_law_here", "_law_who", "_law_one", "_law_sign"]) (sc := defScope sL12) (by decide +kernel)) (fun _ _ _ _ _ => pg_tup rfl (pgs_cons (pg_name (i := 14) scL12.nd rfl (Or.inl rfl)) (pgs_cons (pg_name (i := 15) scL12.nd rfl (Or.inl rfl)) (pgs_cons (pg_name (i := 16) scL12.nd rfl (Or.inl rfl)) pgs_nil)))) (fun _ _ _ _ _ => pts_nil) (fun _ _ _ _ _ => (pe_tup (pa_cons (pv 15) (pa_cons (pv 16) pa_nil)))))
      (pss_cons (ps_setLc (i := 13) (own := [("_law_one", 15), ("_law_sign", 16)]) (g := gTup K 2 (gCons (gName 15) (gCons (gName 16) gNil))) (by rfl) scL12.nd rfl rfl (sw_true rfl rfl rfl (by decide +kernel)) (pi_list (pv 12)) (blkOk_by (own := [("_law_one", 15), ("_law_sign", 16)]) (N := ["_law_script", "_law_box", "_law_hall", "_law_name", "_law_looks", "_law_done", "_law_texts", "_law_session", "_law_turn", "_law_signs", "_law_late", "_law_again", "_law_mine", "_law_here", "_law_who", "_law_one", "_law_sign"]) (sc := defScope sL12) (by decide +kernel)) (fun _ _ _ _ _ => pg_tup rfl (pgs_cons (pg_name (i := 15) scL12.nd rfl (Or.inl rfl)) (pgs_cons (pg_name (i := 16) scL12.nd rfl (Or.inl rfl)) pgs_nil))) (fun _ _ _ _ _ => pts_one (pt_cmpR op_eq (pv 15) (pv 7) (nomark _))) (fun _ _ _ _ _ => (pv 16)))
      (pss_cons (ps_if (PW.pt (pw_or (pt_cmpR (op_neD hr.units) (pe_slice sl_list (pv 12) po_none (po_some (pe_callB call_len_seq (by rfl) T.z_len PySem.boot_len (pa_cons (pv 5) pa_nil)))) (pv 5) (nomark _)) (pw_or1 (pt_cmpR (op_neD hr.units) (pe_lc (own := [("_law_one", 15), ("_law_sign", 16)]) (g := gTup K 2 (gCons (gName 15) (gCons (gName 16) gNil))) rfl scL12.nd (pi_list (pe_slice sl_list (pv 12) (po_some (pe_callB call_len_seq (by rfl) T.z_len PySem.boot_len (pa_cons (pv 5) pa_nil))) po_none)) (blkOk_by (own := [("_law_one", 15), ("_law_sign", 16)]) (N := ["_law_script", "_law_box", "_law_hall", "_law_name", "_law_looks", "_law_done", "_law_texts", "_law_session", "_law_turn", "_law_signs", "_law_late", "_law_again", "_law_mine", "_law_here", "_law_who", "_law_one", "_law_sign"]) (sc := defScope sL12) (by decide +kernel)) (fun _ _ _ _ _ => pg_tup rfl (pgs_cons (pg_name (i := 15) scL12.nd rfl (Or.inl rfl)) (pgs_cons (pg_name (i := 16) scL12.nd rfl (Or.inl rfl)) pgs_nil))) (fun _ _ _ _ _ => pts_one (pt_cmpR op_ne (pv 15) (pv 7) (nomark _))) (fun _ _ _ _ _ => (pv 15))) (pe_lst pa_nil) (nomark _))))) (pss_one (ps_ret pe_bl)) pss_nil)
      (pss_cons (ps_if (pt_cmpR op_ne (pe_join pe_str (pv 13)) (pe_slice sl_str (pv 9) po_none (po_some (pe_callB call_len_seq (by rfl) T.z_len PySem.boot_len (pa_cons (pv 13) pa_nil)))) (nomark _)) (pss_one (ps_ret pe_bl)) pss_nil)
      (pss_one (ps_set (i := 5) scL12.nd rfl (Or.inl rfl) (pv 12)))))))))))))))
      (pss_one (ps_ret (pcall C.law_is_last (hr.mono (by first | decide | omega)) (pa_cons (pv 2) (pa_cons (pv 4) (pa_cons (pv 3) pa_nil))))))))))), ?_⟩
    have big : ∀ n : Nat, n ≤ 1000000 → n ≤ sizeLine := fun n h => Nat.le_trans h (by decide)
    refine ⟨_, rfl, a, ns, rfl, hS, hlen, fun b l H1 e0 B0 => ?_⟩
    have t0 := e0 _ _ hT
    have tb0 := hTab.ext e0
    clear hS hT hTab e0 hlen
    intro hp d0 ny nd ne
    have x1 : Ex H1 (upd (upd H1 d0 (.own hp)) hp (.ins cs.h.H d0 [])) := (Ex.new nd).trans (Ex.new (by rw [upd_ne ne.symm]; exact ny))
    refine ⟨H1, hp, d0, 1, rfl, x1, ny, upd_same, by decide, by decide, fun H2 b2 => ⟨rfl, ?_⟩⟩
    refine ⟨_, rfl, b, l, 4, rfl, B0.ex b2.1, by decide, by decide, fun kn H3 e3 n0 n4 => ⟨_, _, rfl, ?_⟩⟩
    obtain ⟨n, rfl⟩ := Int.eq_ofNat_of_zero_le n0
    have n4 : n < 4 := by omega
    replace b2 := Beh.ex (hallT _ _ _) b2 e3
    clear x1 ny nd ne e3 n0
    refine ⟨(by show 0 ≤ sizeLine; decide), fun q nq => ⟨(by show 0 ≤ sizeLine; decide), fun dn nd => ⟨(by show 0 ≤ sizeLine; decide), fun tx nt => ⟨_, _, _, rfl, ?_⟩⟩⟩⟩
    have S := b12_new b2 nq
    obtain ⟨Ha, xa, hdn, tdn, S⟩ := S.below (vs := []) (rows := []) (B12T _ _ _ _ _ _) (Ex.new (o := .lst []) nd) nd upd_same trivial
    obtain ⟨Hb, xb, htx, S⟩ := S.belowL (vs := []) (B12T _ _ _ _ _ _) (Ex.new (o := .lst []) nt) nt upd_same
    replace hdn := xb _ _ hdn
    have xab := xa.trans xb
    replace t0 := xab _ _ t0
    replace tb0 := tb0.ext xab
    replace B0 := B0.ex xab
    clear xa xb xab b2 nq nd nt tdn
    generalize upd (upd (upd H3 q (.lst [])) dn (.lst [])) tx (.lst []) = H4 at S ⊢
    refine ⟨_, rfl, b, l, 6, rfl, B0.ex S.1, by decide, by decide, fun kt H5 e5 k0 k6 => ⟨1, kt, rfl, rfl, 1 + kt, rfl, by omega, by omega, ?_⟩⟩
    replace S := S.ex (B12T _ _ _ _ _ _) e5
    have hkt : (1 + kt).toNat ≤ 6 := by omega
    have hkt1 : 1 ≤ (1 + kt).toNat := by omega
    generalize (1 + kt).toNat = nt at hkt hkt1 ⊢
    clear e5 k0 k6
    refine for_it walk_range (fun i σ H' => ∃ (Hb : Hp) (dn tx : Addr) (s : Nat) (c8 c9 c10 c11 c12 c13 : Option V) (B : Nat) (ses : List Ses) (ev : List Gev) (h : Hl) (us ds : List V) (xs : List E12) (txs : List Str),
      σ = [some (.ref a), some (.ref b), some (.ref hp), some (.int (n : Nat)), some (.ref q), some (.ref dn), some (.ref tx), some (.int (s : Nat)), c8, c9, c10, c11, c12, c13, none, none, none] ∧ Box Hb b l ∧ Hb T0 = some (TabO T0) ∧ LamX.Tabs (tabs12 PD) Hb ∧ Hb tx = some (.lst (txs.map V.str)) ∧ Hb dn = some (.lst ds) ∧ Tups Hb ds ((typedOf 0 ev).map pvT) ∧
      Sep (B12 cs hp q h us xs) Hb H' ∧ O12 n B ses ev h xs ∧ B ≤ 10 * i ∧ ses.length = i ∧ (∀ x ∈ ses, x.s ≤ s) ∧ s ≤ 16000 * i ∧ (∀ z ∈ txs, ∃ s', s' ≤ s ∧ Lt ses n s' z) ∧ txs.length ≤ 3 * i) ⟨_, dn, tx, 0, _, _, _, _, _, _, 0, [], [], Hl.new 1, [], [], [], [], rfl, B0, t0, tb0, htx, hdn, trivial, S, O12.start, Nat.zero_le _, rfl, (fun _ h => nomatch h), Nat.zero_le _, (fun _ h => nomatch h), Nat.zero_le _⟩ (fun _ _ _ _ _ => trivial) ?_ ?_
    · clear S B0 t0 tb0 htx hdn
      rintro i x σ Ho H6 hi ⟨Hb, dn, tx, s0, c8, c9, c10, c11, c12, c13, B, ses, ev, h, us, ds, xs, txs, rfl, B0, t0, tb0, htx, hdn, tdn, S, J, hB, hsl, hss, hs0, htxs, htl⟩ ⟨rfl, rfl⟩
      -- the session's number
      refine ⟨_, rfl, _, _, rfl, rfl, ?_⟩
      refine ⟨_, rfl, (by show 3 ≤ sizeLine; decide), fun q1 nq1 => ?_⟩
      have e1 := Ex.new (o := .lst [.int 1, .int 9, .int 16000]) nq1
      have hq1 : upd H6 q1 (.lst [.int 1, .int 9, .int 16000]) q1 = some (.lst [.int 1, .int 9, .int 16000]) := upd_same
      replace S := S.ex (B12T _ _ _ _ _ _) e1
      generalize upd H6 q1 (.lst [.int 1, .int 9, .int 16000]) = H7 at S hq1 ⊢
      refine ⟨_, rfl, b, l, 3, rfl, B0.ex S.1, by decide, by decide, fun k2 H8 e2 k0 k2' => ?_⟩
      obtain ⟨i2, rfl⟩ := Int.eq_ofNat_of_zero_le k0
      replace S := S.ex (B12T _ _ _ _ _ _) e2
      obtain ⟨mx, hmx, hmx1, hat⟩ : ∃ mx : Nat, mx ≤ 16000 ∧ 1 ≤ mx ∧ ([.int 1, .int 9, .int 16000] : List V)[i2]? = some (.int (mx : Nat)) := by
        rcases (by omega : i2 = 0 ∨ i2 = 1 ∨ i2 = 2) with rfl | rfl | rfl
        · exact ⟨1, by decide, by decide, rfl⟩
        · exact ⟨9, by decide, by decide, rfl⟩
        · exact ⟨16000, by decide, by decide, rfl⟩
      refine ⟨q1, _, (i2 : Int), .int (mx : Nat), rfl, rfl, SqL.of (e2 _ _ hq1), atI_nat hat, b, l, (mx : Int), rfl, B0.ex S.1, by omega, by omega, fun kt H9 e3 t00 t01 => ⟨_, kt, rfl, rfl, ?_⟩⟩
      replace S := S.ex (B12T _ _ _ _ _ _) e3
      obtain ⟨kt, rfl⟩ := Int.eq_ofNat_of_zero_le t00
      have hs1 : s0 + 1 + kt ≤ 16000 * (i + 1) := by omega
      have hs2 : s0 < s0 + 1 + kt := by omega
      show gName 7 (.int (((s0 : Nat) : Int) + 1 + ((kt : Nat) : Int))) _ _ _
      rw [show ((s0 : Nat) : Int) + 1 + ((kt : Nat) : Int) = ((s0 + 1 + kt : Nat) : Int) by omega]
      generalize s0 + 1 + kt = s1 at hs1 hs2 ⊢
      clear nq1 e1 hq1 e2 e3 hat t00 t01 k0 k2' hmx hmx1
      -- its signs
      refine ⟨_, rfl, b, l, 11, rfl, B0.ex S.1, by decide, by decide, fun kj G0 e4 j0 j1 => ⟨kj, rfl, _, rfl, abc_len, ?_⟩⟩
      obtain ⟨kj, rfl⟩ := Int.eq_ofNat_of_zero_le j0
      replace S := S.ex (B12T _ _ _ _ _ _) e4
      obtain ⟨hzk, hzl⟩ := abc_ok kj
      change gName 9 (.str (cutS abc none (some ((kj : Nat) : Int)))) _ _ _
      generalize cutS abc none (some ((kj : Nat) : Int)) = z at hzk hzl ⊢
      clear e4 j0 j1
      -- its look
      obtain ⟨hq0, tq0⟩ := b12_q S
      refine ⟨_, rfl, .inl ⟨rfl, _, SqL.of hq0⟩, _, rfl, _, rfl, ?_⟩
      intro lk d0 nlk nd ne
      have x1 : Ex G0 (upd (upd G0 d0 (.own lk)) lk (.ins cs.K d0 [])) := (Ex.new nd).trans (Ex.new (by rw [upd_ne ne.symm]; exact nlk))
      refine ⟨G0, lk, d0, n, s1, 0, 20, 5, rfl, x1, nlk, upd_same, ⟨n4, by omega, by omega, (by show 0 < 3; decide)⟩, (by show 2 ≤ 20 ∧ 20 ≤ 40 ∧ 1 ≤ 5 ∧ 5 ≤ 20; decide), fun G1 b1 => ⟨rfl, ?_⟩⟩
      refine ⟨_, rfl, _, rfl, (by show 3 ≤ sizeLine; decide), fun t nt => ?_⟩
      have S1 := b12_come (z := z) S b1 nt
      have hq1 := b1.1 _ _ hq0
      have hne : q ≠ t := fun z => by rw [z, nt] at hq1; cases hq1
      have hul : us.length = i := by rw [tq0.len, List.length_map, J.xlen, hsl]
      refine ⟨q, us, _, rfl, rfl, (upd_ne hne).trans hq1, by rw [hul]; exact Nat.lt_of_lt_of_le (m := 10) (by omega) (by decide), ?_⟩
      have ht1 : upd (upd G1 t (.tup [.ref lk, .int (s1 : Nat), .str z])) q (.lst (us ++ [.ref t])) t = some (.tup [.ref lk, .int (s1 : Nat), .str z]) := (upd_ne hne.symm).trans upd_same
      have hq2 : upd (upd G1 t (.tup [.ref lk, .int (s1 : Nat), .str z])) q (.lst (us ++ [.ref t])) q = some (.lst (us ++ [.ref t])) := upd_same
      have hxl : xs.length = i := by rw [J.xlen, hsl]
      have ex1 : (xs ++ [(Lk.new n s1 0 20 5, lk, z)])[i]? = some (Lk.new n s1 0 20 5, lk, z) := by rw [List.getElem?_append_right (by omega), show i - xs.length = 0 by omega]; rfl
      change Sep _ _ (upd (upd G1 t (.tup [.ref lk, .int (s1 : Nat), .str z])) q (.lst (us ++ [.ref t]))) at S1
      generalize upd (upd G1 t (.tup [.ref lk, .int (s1 : Nat), .str z])) q (.lst (us ++ [.ref t])) = G2 at S1 ht1 hq2 ⊢
      obtain ⟨G3, x3, b3, back⟩ := b12_look S1 ex1
      obtain ⟨dx, rr, L⟩ := look_at b3
      refine ⟨_, rfl, 1, rfl, q, _, -1, _, rfl, rfl, SqL.of hq2, atI_last _ _, t, _, 0, _, rfl, rfl, SqT.of ht1, atI_nat (j := 0) rfl, lk, dx, _, rfl, L.at_, zf_no (by decide +kernel), _, rfl, G3, lk, _, z, rfl, b3, rfl, rfl, hzk, (by show 0 + z.length < _; omega), fun G4 b4 => ?_⟩
      have S4 := back (lk12 n s1 z) _ rfl b4
      have J4 := J.come lk (fun x hx => Nat.lt_of_le_of_lt (hss x hx) hs2) n4 (by omega) (by omega) hzk hzl
      rw [show (xs ++ [(Lk.new n s1 0 20 5, lk, z)]).set i (lk12 n s1 z, lk, z) = xs ++ [(lk12 n s1 z, lk, z)] by
        rw [List.set_append_right _ _ (by omega), show i - xs.length = 0 by omega]; rfl] at S4
      clear S S1 ht1 hq2 x3 b3 back L b1 x1 hq1 hq0 tq0 nlk nd nt ex1 hne
      have hlen4 : (ses ++ [(⟨n, s1, 0, z.cps.toList, 0, false⟩ : Ses)]).length = i + 1 := by rw [List.length_append, hsl]; rfl
      have hat4 : (ses ++ [(⟨n, s1, 0, z.cps.toList, 0, false⟩ : Ses)])[i]? = some ⟨n, s1, 0, z.cps.toList, 0, false⟩ := by rw [List.getElem?_append_right (by omega), hsl, Nat.sub_self]; rfl
      have htxs4 : ∀ y ∈ txs, ∃ s', s' ≤ s1 ∧ Lt (ses ++ [(⟨n, s1, 0, z.cps.toList, 0, false⟩ : Ses)]) n s' y := fun y hy => by
        obtain ⟨s', h1, h2⟩ := htxs y hy
        exact ⟨s', by omega, h2.more _⟩
      have hss4 : ∀ x ∈ ses ++ [(⟨n, s1, 0, z.cps.toList, 0, false⟩ : Ses)], x.s ≤ s1 := fun x hx => by
        rcases List.mem_append.mp hx with hx | hx
        · exact Nat.le_of_lt (Nat.lt_of_le_of_lt (hss x hx) hs2)
        · rw [List.mem_singleton.mp hx]
          exact Nat.le_refl _
      have hB4 : B + z.length ≤ 10 * (i + 1) := by omega
      clear htxs hss hsl hxl J hul
      generalize lk12 n s1 z = k0 at S4 J4
      generalize xs ++ [(k0, lk, z)] = xs1 at S4 J4
      generalize ses ++ [(⟨n, s1, 0, z.cps.toList, 0, false⟩ : Ses)] = ses1 at J4 hlen4 hat4 htxs4 hss4
      generalize us ++ [V.ref t] = us1 at S4
      generalize B + z.length = B1 at J4 hB4
      -- letters told, some heard
      refine ⟨(by show 0 ≤ sizeLine; decide), fun lt nlt => ?_⟩
      obtain ⟨Hb1, xb1, hlt, S4⟩ := S4.belowL (vs := []) (B12T _ _ _ _ _ _) (Ex.new (o := .lst []) nlt) nlt upd_same
      have hB100 : B1 ≤ 100 := by omega
      generalize upd G4 lt (.lst []) = G5 at S4 ⊢
      refine ⟨_, rfl, b, l, 4, rfl, (B0.ex xb1).ex S4.1, by decide, by decide, fun kr G6 e6 r0 r1 => ⟨kr, rfl, by omega, by omega, ?_⟩⟩
      replace S4 := S4.ex (B12T _ _ _ _ _ _) e6
      have hkr : kr.toNat ≤ 3 := by omega
      generalize kr.toNat = nr at hkr ⊢
      clear r0 r1 e6 nlt
      refine for_it walk_range (fun j σ H' => ∃ (Hb2 : Hp) (lt : Addr) (c11 : Option V) (ses2 : List Ses) (ev2 : List Gev) (h2 : Hl) (xs2 : List E12) (late : List Str),
        σ = [some (.ref a), some (.ref b), some (.ref hp), some (.int (n : Nat)), some (.ref q), some (.ref dn), some (.ref tx), some (.int (s1 : Nat)), some (.int ((0 : Int) + (i : Nat))), some (.str z), some (.ref lt), c11, c12, c13, none, none, none] ∧ Ex Hb Hb2 ∧ Hb2 lt = some (.lst (late.map V.str)) ∧
        Sep (B12 cs hp q h2 us1 xs2) Hb2 H' ∧ O12 n B1 ses2 ev2 h2 xs2 ∧ Le0 ses1 ev ses2 ev2 ∧ Only s1 ev ev2 ∧ (∀ y ∈ late, Lt ses2 n s1 y) ∧ late.length ≤ j) ⟨Hb1, lt, _, ses1, ev, h, xs1, [], rfl, xb1, hlt, S4, J4, Le0.refl _ _, Only.refl _ _, (fun _ h => nomatch h), Nat.zero_le _⟩ (fun _ _ _ _ _ => trivial) ?_ ?_
      · clear S4 J4 hlt xb1
        rintro j x σ Ho H9 hj ⟨Hb2, lt, c11, ses2, ev2, h2, xs2, late, rfl, xb2, hlt, S, J, le, on, hla, hll⟩ ⟨rfl, rfl⟩
        obtain ⟨d, hat, _⟩ := le.at_ i _ hat4
        have hlen2 : ses2.length = i + 1 := by rw [le.len, hlen4]
        have hss2 : ∀ x ∈ ses2, x.s ≤ s1 := fun x hx => J.inv.max (L := i) hat (by omega) hx
        have htxs2 : ∀ y ∈ txs, ∃ s', s' ≤ s1 ∧ Lt ses2 n s' y := fun y hy => by
          obtain ⟨s', h1, h2⟩ := htxs4 y hy
          exact ⟨s', h1, h2.mono le⟩
        obtain ⟨hq0, tq0⟩ := b12_q S
        have hxl2 : xs2.length = i + 1 := by rw [J.xlen, hlen2]
        have ex : xs2[i]? = some xs2[i] := List.getElem?_eq_getElem (by omega)
        generalize xs2[i] = y at ex
        obtain ⟨l2, a2, z2⟩ := y
        have hk : (xs2.map (·.1))[i]? = some l2 := by rw [List.getElem?_map, ex]; rfl
        obtain ⟨y, hy, _, hls, _⟩ := J.inv.zlen hk
        rw [hat] at hy
        obtain rfl := Option.some.inj hy
        have hls : l2.session = s1 := hls
        obtain ⟨t2, k3, k4⟩ := tq0.at_ (map_get (f := rowE) ex)
        have k5 := atI_m1 k3 (by rw [tq0.len, List.length_map, hxl2])
        rcases J.inv.says hk with ⟨ho, _⟩ | ⟨_, l3, sg3, e3, _, _, Lz⟩
        · rw [J.inv.notOver hk (by omega)] at ho
          cases ho
        rw [hls] at Lz
        obtain ⟨G7, x7, b7, _⟩ := b12_look S ex
        obtain ⟨dx, rr, L⟩ := look_at b7
        refine ⟨_, rfl, _, rfl, 1, rfl, q, _, -1, _, rfl, rfl, SqL.of hq0, k5, t2, _, 0, _, rfl, rfl, SqT.of k4, atI_nat (j := 0) rfl, a2, dx, _, rfl, L.at_, zf_no (by decide +kernel), G7, a2, l2, rfl, b7, (J.letters ex).2, x7 _ _ (xb2 _ _ t0), fun q5 G8 e8 n5 hq5 => ?_⟩
        rw [e3] at hq5
        refine ⟨lt, q5, _, _, rfl, rfl, e8 _ _ (S.1 _ _ hlt), hq5, ?_, fun q6 n6 => ?_⟩
        · show (late.map V.str).length + 1 ≤ sizeLine
          rw [List.length_map]
          exact Nat.le_trans (m := 10) (by omega) (by decide)
        have ec : late.map V.str ++ [txt l3].map V.str = (late ++ [txt l3]).map V.str := List.map_append.symm
        have S8 := S.ex (B12T _ _ _ _ _ _) e8
        have hte : ([l3].map fun l => V.str (txt l)) = [txt l3].map V.str := rfl
        rw [hte, ec]
        obtain ⟨Hb3, xb3, hq6, S9⟩ := S8.belowL (vs := (late ++ [txt l3]).map V.str) (B12T _ _ _ _ _ _) (Ex.new (o := .lst ((late ++ [txt l3]).map V.str)) n6) n6 upd_same
        generalize upd G8 q6 (.lst ((late ++ [txt l3]).map V.str)) = G9 at S9 ⊢
        have hla2 : ∀ y ∈ late ++ [txt l3], Lt ses2 n s1 y := fun y hy => by
          rcases List.mem_append.mp hy with hy | hy
          · exact hla y hy
          · rw [List.mem_singleton.mp hy]
            exact Lz
        have hll2 : (late ++ [txt l3]).length ≤ j + 1 := by rw [List.length_append]; show late.length + 1 ≤ j + 1; omega
        have hnn : late ++ [txt l3] ≠ [] := by simp
        clear S S8 ec hte hq5 e8 n5 n6 b7 x7 L hlt hla hll e3 Lz k3 k4 k5 hq0 tq0 ex hk
        generalize late ++ [txt l3] = late2 at hq6 hla2 hll2 hnn
        have xb4 := xb2.trans xb3
        have t04 := xb4 _ _ t0
        have htx4 := xb4 _ _ htx
        have B04 := B0.ex xb4
        refine ⟨_, rfl, b, l, 2, rfl, B04.ex S9.1, by decide, by decide, fun k9 G10 e10 m0 m1 => ⟨rfl, _, rfl, ?_⟩⟩
        replace S9 := S9.ex (B12T _ _ _ _ _ _) e10
        by_cases hk9 : k9 = 0
        · refine iteTz (decide_eq_true (by rw [hk9])) ?_
          refine ⟨_, rfl, _, rfl, _, rfl, _, rfl, q6, tx, _, _, rfl, rfl, S9.1 _ _ hq6, S9.1 _ _ htx4, ?_, fun q7 n7 => ?_⟩
          · rw [List.length_map, List.length_map]
            exact Nat.le_trans (m := 100) (by omega) (by decide)
          rw [← List.map_append]
          obtain ⟨Hb5, xb5, hq7, S10⟩ := S9.belowL (vs := (late2 ++ txs).map V.str) (B12T _ _ _ _ _ _) (Ex.new (o := .lst ((late2 ++ txs).map V.str)) n7) n7 upd_same
          generalize upd G10 q7 (.lst ((late2 ++ txs).map V.str)) = G11 at S10 ⊢
          have hall : ∀ y ∈ late2 ++ txs, ∃ s', s' ≤ s1 ∧ Lt ses2 n s' y := fun y hy => by
            rcases List.mem_append.mp hy with hy | hy
            · exact ⟨s1, Nat.le_refl _, hla2 y hy⟩
            · exact htxs2 y hy
          have hne2 : late2 ++ txs ≠ [] := fun h => hnn (List.append_eq_nil_iff.mp h).1
          have hfirst : ∃ z1 zr, late2 ++ txs = z1 :: zr ∧ Lt ses2 n s1 z1 := by
            match late2, hnn, hla2 with
            | z1 :: zr, _, h => exact ⟨z1, zr ++ txs, rfl, h z1 List.mem_cons_self⟩
          obtain ⟨z1, zr, ez, Lz1⟩ := hfirst
          have hall2 := hall
          rw [ez] at hall2
          obtain ⟨ses3, ev3, J3, le3, on3⟩ := J.inv.first hss2 Lz1 (zs := zr) fun y hy => hall2 y (List.mem_cons_of_mem _ hy)
          rw [← ez] at J3
          have J4 := J.step hB100 J3 le3
          refine ⟨Hb5, hp, q, q7, h2, us1, xs2, late2 ++ txs, rfl, hq7, S10, J.inv.net.hok, fun y hy => ?_, J3.net.hlens (by omega), fun m hm => (J3.net.lets (by omega) hm).1, J.small, xb5 _ _ t04, fun G12 S12 => ?_⟩
          · obtain ⟨s', _, L⟩ := hall y hy
            exact ⟨L.1, J.inv.letOk L⟩
          exact ⟨Hb5, q6, _, ses3, ev3, _, _, late2, rfl, xb4.trans xb5, xb5 _ _ hq6, S12, J4, le.trans le3, on.trans on3, (fun y hy => (hla2 y hy).mono le3), hll2⟩
        · refine iteFz (decide_eq_false fun e => hk9 (by injection e)) ?_
          exact ⟨Hb3, q6, _, ses2, ev2, h2, xs2, late2, rfl, xb4, hq6, S9, J, le, on, hla2, hll2⟩
      · clear S4 J4 hlt xb1
        rintro σ H9 ⟨Hb2, lt, c11, ses2, ev2, h2, xs2, late, rfl, xb2, hlt, S, J, le, on, hla, hll⟩
        obtain ⟨d, hat, _⟩ := le.at_ i _ hat4
        have hlen2 : ses2.length = i + 1 := by rw [le.len, hlen4]
        have hss2 : ∀ x ∈ ses2, x.s ≤ s1 := fun x hx => J.inv.max (L := i) hat (by omega) hx
        have hll3 : late.length ≤ 3 := by omega
        have htx4 : ∀ y ∈ txs ++ late, ∃ s', s' ≤ s1 ∧ Lt ses2 n s' y := fun y hy => by
          rcases List.mem_append.mp hy with hy | hy
          · obtain ⟨s', h1, h2⟩ := htxs4 y hy
            exact ⟨s', h1, h2.mono le⟩
          · exact ⟨s1, Nat.le_refl _, hla y hy⟩
        have htl4 : (txs ++ late).length ≤ 3 * (i + 1) := by rw [List.length_append]; omega
        replace B0 := B0.ex xb2
        replace t0 := xb2 _ _ t0
        replace tb0 := tb0.ext xb2
        replace htx := xb2 _ _ htx
        replace hdn := xb2 _ _ hdn
        replace tdn := tdn.mono (TupEx.ex xb2)
        refine ⟨_, rfl, _, rfl, tx, lt, _, _, rfl, rfl, S.1 _ _ htx, S.1 _ _ hlt, ?_, fun q8 n8 => ?_⟩
        · rw [List.length_map, List.length_map]
          exact Nat.le_trans (m := 100) (by omega) (by decide)
        rw [← List.map_append]
        obtain ⟨Hb3, xb3, hq8, S⟩ := S.belowL (vs := (txs ++ late).map V.str) (B12T _ _ _ _ _ _) (Ex.new (o := .lst ((txs ++ late).map V.str)) n8) n8 upd_same
        generalize upd H9 q8 (.lst ((txs ++ late).map V.str)) = G0 at S ⊢
        replace B0 := B0.ex xb3
        replace t0 := xb3 _ _ t0
        replace tb0 := tb0.ext xb3
        replace hdn := xb3 _ _ hdn
        replace tdn := tdn.mono (TupEx.ex xb3)
        clear htx hlt xb2 xb3 n8 htxs4 hss4 hla
        generalize txs ++ late = txs2 at hq8 htx4 htl4
        -- what the hall has typed
        obtain ⟨pn, hpn, hty⟩ := J.inv.typed hB100
        have hfew := J.inv.few
        obtain ⟨G1, x1, b1, _⟩ := b12_hall S
        obtain ⟨dx, pl, sd, hh⟩ := hall_ins b1
        refine ⟨_, rfl, hp, dx, _, rfl, hh, zf_no (by decide +kernel), G1, hp, h2, 0, pn, rfl, b1, hpn, fun lq ts nl tu => ⟨lq, rfl, ⟨_, SqL.of upd_same⟩, fun D nD => ?_⟩⟩
        have e4 := Ex.new (o := .lst ts) nl
        have hlq : upd G0 lq (.lst ts) lq = some (.lst ts) := upd_same
        replace tu := tu.mono (TupEx.ex e4)
        generalize upd G0 lq (.lst ts) = G at e4 hlq tu nD ⊢
        rw [hty] at tu
        have htl : ts.length = (typedOf 0 ev2).length := by rw [tu.len, List.length_map]
        refine lc_it (walk_list (K := K) (a := lq) (xs := ts)) (fun i H' => Ex G H' ∧ ∃ vs, H' D = some (.lst vs) ∧ Tups H' vs (((typedOf 0 ev2).take i).map pvT)) ⟨Ex.new nD, [], upd_same, trivial⟩ (fun i H' _ h => SqL.of (h.1 _ _ hlq)) ?_ ?_
        · rintro j v H4 H5 hi ⟨x4, vs, hD, tD⟩ ⟨rfl, hv⟩
          have li : j < (typedOf 0 ev2).length := by rw [← htl]; exact hi
          have ei : (typedOf 0 ev2)[j]? = some (typedOf 0 ev2)[j] := List.getElem?_eq_getElem li
          generalize (typedOf 0 ev2)[j] = w at ei
          obtain ⟨w0, w1, w2⟩ := w
          obtain ⟨bb, k6, k7⟩ := tu.at_ (map_get (f := tv) ei)
          rw [hv] at k6
          obtain rfl := Option.some.inj k6
          refine ⟨bb, _, rfl, SqT.of (x4 _ _ k7), rfl, _, _, rfl, _, _, rfl, _, _, rfl, rfl, rfl, yes_lc ?_⟩
          refine ⟨_, rfl, _, rfl, (by show 2 ≤ sizeLine; decide), fun t nt => ?_⟩
          have ntD : D ≠ t := ne_of_none hD nt
          have y1 : Ex H5 (upd H5 t (.tup (pvT (w0, w1, w2)))) := Ex.new nt
          refine ⟨vs, y1 _ _ hD, ?_, ex_set (x4.trans y1) nD, vs ++ [.ref t], upd_same, ?_⟩
          · rw [tD.len, List.length_map, List.length_take]
            exact Nat.lt_of_le_of_lt (Nat.min_le_right _ _) (Nat.lt_of_lt_of_le (m := 101) (by omega) (by decide))
          · rw [List.take_add_one, ei, List.map_append]
            refine Tups.snoc ?_ ((tD.mono (TupEx.ex y1)).mono (TupEx.lst (y1 _ _ hD)))
            rw [upd_ne ntD.symm]
            exact upd_same
        · rintro G2 ⟨x4, vs, hD, tD⟩
          rw [htl, List.take_length] at tD
          have xx := e4.trans x4
          obtain ⟨Hb4, xb4, hDb, tDb, S⟩ := S.below (B12T _ _ _ _ _ _) xx (fresh_back e4 nD) hD tD
          replace B0 := B0.ex xb4
          replace t0 := xb4 _ _ t0
          replace tb0 := tb0.ext xb4
          replace hdn := xb4 _ _ hdn
          replace tdn := tdn.mono (TupEx.ex xb4)
          replace hq8 := xb4 _ _ hq8
          clear xb4 xx e4 x4 nD nl hlq tu htl b1 x1 hh hty hpn
          have hvl : vs.length = (typedOf 0 ev2).length := by rw [tDb.len, List.length_map]
          refine ⟨_, rfl, D, rfl, ⟨_, SqL.of hD⟩, fun D2 nD2 => ?_⟩
          refine lc_it (walk_list (K := K) (a := D) (xs := vs)) (fun i H' => Ex G2 H' ∧ H' D2 = some (.lst ((((((typedOf 0 ev2).take i).filter fun t => decide (t.2.1 = s1)).map (·.2.2)).map sg).map V.str))) ⟨Ex.new nD2, upd_same⟩ (fun i H' _ h => SqL.of (h.1 _ _ hD)) ?_ ?_
          · rintro j v H4 H5 hi ⟨x4, hD2⟩ ⟨rfl, hv⟩
            have li : j < (typedOf 0 ev2).length := by rw [← hvl]; exact hi
            have ei : (typedOf 0 ev2)[j]? = some (typedOf 0 ev2)[j] := List.getElem?_eq_getElem li
            generalize (typedOf 0 ev2)[j] = w at ei
            obtain ⟨w0, w1, w2⟩ := w
            obtain ⟨bb, k6, k7⟩ := tD.at_ (map_get (f := pvT) ei)
            rw [hv] at k6
            obtain rfl := Option.some.inj k6
            refine ⟨bb, _, rfl, SqT.of (x4 _ _ k7), rfl, _, _, rfl, _, _, rfl, rfl, rfl, ?_⟩
            by_cases q1 : w1 = s1
            · refine ⟨_, rfl, _, rfl, rfl, _, rfl, iteTz (decide_eq_true (by rw [q1])) ?_⟩
              refine ⟨_, rfl, _, hD2, ?_, ex_set x4 nD2, ?_⟩
              · rw [List.length_map, List.length_map, List.length_map]
                refine Nat.lt_of_le_of_lt (List.length_filter_le _ _) ?_
                rw [List.length_take]
                refine Nat.lt_of_le_of_lt (Nat.min_le_right _ _) (Nat.lt_of_lt_of_le (m := 101) (by omega) (by decide))
              · rw [upd_same, List.take_add_one, ei, List.filter_append, List.map_append, List.map_append, List.map_append]
                show _ = some (HO.lst (_ ++ ((((([(w0, w1, w2)] : List (Nat × Nat × Nat)).filter fun t => decide (t.2.1 = s1)).map (·.2.2)).map sg).map V.str)))
                rw [List.filter_cons_of_pos (by exact decide_eq_true q1)]
                rfl
            · refine ⟨_, rfl, _, rfl, rfl, _, rfl, iteFz (decide_eq_false (fun e => q1 ?_)) ⟨x4, ?_⟩⟩
              · have e : V.int ((w1 : Nat) : Int) = V.int ((s1 : Nat) : Int) := e
                injection e with e
                exact Int.ofNat.inj e
              · rw [hD2, List.take_add_one, ei, List.filter_append]
                show _ = some (HO.lst (((((_ ++ (([(w0, w1, w2)] : List (Nat × Nat × Nat)).filter fun t => decide (t.2.1 = s1)))).map _).map _).map _))
                rw [List.filter_cons_of_neg (by simpa using q1), List.filter_nil, List.append_nil]
          · rintro G3 ⟨x4, hD2⟩
            rw [hvl, List.take_length] at hD2
            obtain ⟨M, hM, hMs⟩ := only_typed on
            have has2 := typed_asc J.inv.net.evok
            have hmine := J.inv.mine (List.mem_of_getElem? hat)
            have hdn2 := J.inv.net.dn _ (List.mem_of_getElem? hat)
            have hmine : ((typedOf 0 ev2).filter fun t => decide (t.2.1 = s1)).map (·.2.2) = z.cps.toList.take d := hmine
            have hdn2 : d ≤ z.cps.toList.length := hdn2
            rw [hmine] at hD2
            have hdl : ds.length = (typedOf 0 ev).length := by rw [tdn.len, List.length_map]
            have tk2 : (typedOf 0 ev2).take ds.length = typedOf 0 ev := by rw [hM, hdl, List.take_left']; rfl
            have dr2 : (typedOf 0 ev2).drop ds.length = M := by rw [hM, hdl, List.drop_left']; rfl
            have x23 : Ex G2 G3 := x4
            have S3 := S.ex (B12T _ _ _ _ _ _) x23
            have hD3 := x4 _ _ hD
            have tD3 := tD.mono (TupEx.ex x4)
            have hdn3 := S3.1 _ _ hdn
            have tdn3 := tdn.mono (TupEx.ex S3.1)
            clear hD tD x4 x23 S nD2
            refine ⟨_, rfl, _, rfl, dn, ds, rfl, .inl (SqL.of hdn3), _, rfl, D, vs, rfl, SqL.of hD3, fun p np => ⟨_, rfl, ?_⟩⟩
            rw [cutV_to]
            have e5 := Ex.new (o := .lst (vs.take ds.length)) np
            have hp5 : upd G3 p (.lst (vs.take ds.length)) p = some (.lst (vs.take ds.length)) := upd_same
            have tp5 : Tups (upd G3 p (.lst (vs.take ds.length))) (vs.take ds.length) ((typedOf 0 ev).map pvT) := by
              have := (tD3.take ds.length).mono (TupEx.ex e5)
              rw [← List.map_take, tk2] at this
              exact this
            replace S3 := S3.ex (B12T _ _ _ _ _ _) e5
            replace hD3 := e5 _ _ hD3
            replace tD3 := tD3.mono (TupEx.ex e5)
            replace hdn3 := e5 _ _ hdn3
            replace tdn3 := tdn3.mono (TupEx.ex e5)
            replace hD2 := e5 _ _ hD2
            generalize upd G3 p (.lst (vs.take ds.length)) = G4 at S3 hD3 tD3 hdn3 tdn3 hp5 tp5 hD2 ⊢
            have has1 : ∀ t ∈ typedOf 0 ev, t.2.2 < 128 := fun t ht => has2 t (by rw [hM]; exact List.mem_append_left _ ht)
            have hl1 : (typedOf 0 ev).length ≤ 1000000 := by
              have := congrArg List.length hM
              rw [List.length_append] at this
              omega
            have sh1 := sh_pv has1 hl1
            refine ⟨_, _, .lst (SqL.of hp5) (dp_pv tp5), .lst (SqL.of hdn3) (dp_pv tdn3), sh1, sh1, _, rfl, ?_⟩
            rw [SeqAt.eqv_refl _ (SeqAt.canLay_of_shaped sh1)]
            refine iteFz rfl ?_
            clear hp5 tp5 np e5
            refine ⟨_, rfl, _, rfl, dn, ds, rfl, .inl (SqL.of hdn3), _, rfl, D, vs, rfl, SqL.of hD3, fun p np => ⟨p, rfl, ⟨_, SqL.of upd_same⟩, fun D3 nD3 => ?_⟩⟩
            rw [cutV_from] at nD3 ⊢
            have e6 := Ex.new (o := .lst (vs.drop ds.length)) np
            have hp6 : upd G4 p (.lst (vs.drop ds.length)) p = some (.lst (vs.drop ds.length)) := upd_same
            have tp6 : Tups (upd G4 p (.lst (vs.drop ds.length))) (vs.drop ds.length) (M.map pvT) := by
              have := (tD3.drop ds.length).mono (TupEx.ex e6)
              rw [← List.map_drop, dr2] at this
              exact this
            generalize upd G4 p (.lst (vs.drop ds.length)) = G5 at e6 hp6 tp6 nD3 ⊢
            have hdl2 : (vs.drop ds.length).length = M.length := by rw [tp6.len, List.length_map]
            generalize vs.drop ds.length = ws at hp6 tp6 hdl2 ⊢
            refine lc_it (walk_list (K := K) (a := p) (xs := ws)) (fun i H' => Ex G5 H' ∧ H' D3 = some (.lst [])) ⟨Ex.new nD3, upd_same⟩ (fun i H' _ h => SqL.of (h.1 _ _ hp6)) ?_ ?_
            · rintro j v H4 H5 hi ⟨x4, hD4⟩ ⟨rfl, hv⟩
              have li : j < M.length := by rw [← hdl2]; exact hi
              have ei : M[j]? = some M[j] := List.getElem?_eq_getElem li
              have hms := hMs _ (List.getElem_mem li)
              generalize M[j] = w at ei hms
              obtain ⟨w0, w1, w2⟩ := w
              have hms : w1 = s1 := hms
              obtain ⟨bb, k6, k7⟩ := tp6.at_ (map_get (f := pvT) ei)
              rw [hv] at k6
              obtain rfl := Option.some.inj k6
              refine ⟨bb, _, rfl, SqT.of (x4 _ _ k7), rfl, _, _, rfl, _, _, rfl, rfl, rfl, ?_⟩
              exact ⟨_, rfl, _, rfl, rfl, _, rfl, iteFz (by rw [hms]; show (!decide (V.int ((s1 : Nat) : Int) = V.int ((s1 : Nat) : Int))) = false; rw [decide_eq_true rfl]; rfl) ⟨x4, hD4⟩⟩
            · rintro G6 ⟨x6, hD4⟩
              have x46 := e6.trans x6
              refine ⟨(by show 0 ≤ sizeLine; decide), fun q9 n9 => ?_⟩
              have e9 := Ex.new (o := .lst ([] : List V)) n9
              have hq9 : upd G6 q9 (.lst ([] : List V)) q9 = some (.lst []) := upd_same
              replace S3 := S3.ex (B12T _ _ _ _ _ _) (x46.trans e9)
              replace hD2 := (x46.trans e9) _ _ hD2
              replace hD4 := e9 _ _ hD4
              generalize upd G6 q9 (.lst ([] : List V)) = G7 at S3 hD2 hD4 hq9 ⊢
              refine ⟨.list [], .list [], .lst (SqL.of hD4) .nil, .lst (SqL.of hq9) .nil, rfl, rfl, _, rfl, iteFz rfl ?_⟩
              clear hD4 hq9 n9 x46 x6 e6 hp6 tp6 hdl2 np nD3 e9
              have hsz : ((z.cps.toList.take d).map sg).length ≤ 1000 := by
                rw [List.length_map, List.length_take]
                have := (J.inv.all _ (List.mem_of_getElem? hat)).2.2.2
                have : z.cps.toList.length ≤ 10 := this
                omega
              refine ⟨⟨_, rfl⟩, _, rfl, _, D2, _, rfl, rfl, .inl (SqL.of hD2), ?_, ?_⟩
              · rw [sg_sum]
                show _ + _ * 0 ≤ _
                rw [List.length_map] at hsz
                omega
              have ej : Txt.join (Str.ofString "") ((z.cps.toList.take d).map sg) = txt (z.cps.toList.take d) := join0 _
              rw [ej]
              refine ⟨_, rfl, _, rfl, D2, _, rfl, .inl (SqL.of hD2), _, rfl, z, rfl, Nat.le_trans hzl (by decide), rfl, _, rfl, iteFz ?_ ?_⟩
              · have e : txt (z.cps.toList.take d) = cutS z none (some ((((z.cps.toList.take d).map sg).map V.str).length : Nat)) := by
                  rw [cutS_first, List.length_map, List.length_map, List.length_take, Nat.min_eq_left hdn2]
                  rfl
                show (!decide (V.str (txt (z.cps.toList.take d)) = V.str (cutS z none (some ((((z.cps.toList.take d).map sg).map V.str).length : Nat))))) = false
                rw [← e, decide_eq_true rfl]
                rfl
              refine ⟨_, rfl, ?_⟩
              exact ⟨Hb4, D, q8, s1, _, _, _, _, _, _, B1, ses2, ev2, h2, us1, vs, xs2, txs2, rfl, B0, t0, tb0, hq8, hDb, tDb, S3, J, hB4, hlen2, hss2, hs1, htx4, htl4⟩
    · clear S B0 t0 tb0 htx hdn
      rintro σ H6 ⟨Hb, dn, tx, s0, c8, c9, c10, c11, c12, c13, B, ses, ev, h, us, ds, xs, txs, rfl, B0, t0, tb0, htx, hdn, tdn, S, J, hB, hsl, hss, hs0, htxs, htl⟩
      refine ⟨_, rfl, _, rfl, _, rfl, Hb, hp, q, n, B, ses, ev, h, us, xs, rfl, S, J, by omega, fun e => ?_, t0, tb0, fun H' hT => fin _ hT⟩
      have := J.xlen
      rw [e] at this
      have : 0 = ses.length := this
      omega
theorem ok_law {f T0 PD : Addr} {fd : FuncData} {cs : WCl} (F : Fun K "law" "law" sL12 f fd) (ne0D : ¬ T0 = PD) (T : TLawR K mg cs) (C : CL12 P w K mg base T0 PD cs) : FnOk P w K mg base CX0 9 f fd ["_law_script"] (spLaw T0 PD K) := by
  refine tab_law (T := T0) (ok_law0 F T C) (fun vs H Q E h => ?_) fun vs H Q E h => ?_
  · obtain ⟨a, ns, rfl, _⟩ := h
    rfl
  · obtain ⟨a, ns, rfl, hS, hl, hT, hD, q⟩ := h
    refine ⟨hT, a, ns, rfl, ?_, hl, upd_same, fun p hp => ?_, fun H' h' => ⟨h', fun H4 => q H4⟩⟩
    · rcases hS with (hS | ⟨o, hS⟩) | hS
      · exact .inl (.inl (by rw [upd_ne (fun e => by rw [e, hT] at hS; cases hS)]; exact hS))
      · exact .inl (.inr ⟨o, by rw [upd_ne (fun e => by rw [e, hT] at hS; cases hS)]; exact hS⟩)
      · exact .inr hS
    · rw [List.mem_singleton.mp hp]
      exact LamX.TabS.nil ((upd_ne (Ne.symm ne0D)).trans hD)
end
def spLawC (cs : List (Addr × Addr)) (K : PySem.W.Frag) : Sp := match cs with
  | [c0, c1] => spLaw c0.2 c1.2 K
  | _ => fun _ _ _ _ => False
theorem spLawC_ok {cs : List (Addr × Addr)} {K : PySem.W.Frag} {H : Hp} {a : Addr} {ns : List Int} (hl : cs.length = 2) (hn : ns.length ≤ 63) (hT : ∀ p ∈ cs, H p.2 = some (.tbl #[])) (hS : SqL K H a (ns.map V.int)) : spLawC cs K [.ref a] H (fun v _ => v = .bl true) fun _ _ _ => False := by
  match cs, hl with
  | [c0, c1], _ => exact ⟨a, ns, rfl, hS, hn, hT c0 (by simp), hT c1 (by simp), fun _ => rfl⟩
end Vf
namespace Vf
open PySem PySem.W PyProof.Rows PySem.Calls HandSHeadRun
/-! ### the head: three looks at one run -/
theorem run_three {α β γ δ : Type} {o : Option α} {f : α → β} {g : α → γ} {h : α → δ} {x : β} {y : γ} {z : δ} (e1 : o.map f = some x) (e2 : o.map g = some y) (e3 : o.map h = some z) : o.map (fun s => (f s, g s, h s)) = some (x, y, z) := by
  cases o with
  | none => cases e1
  | some a =>
    cases e1
    cases e2
    cases e3
    rfl
theorem head_three {r : OpenRow} {q : Program} {K : Params → PySem.W.Frag} {as : List Addr} {ek : ∀ P, as = (K P).map (·.1)} (M : Nat) {loose : List PySem.Str} {d : DefRec} {kwd : List (PySem.Str × PySem.Expr)}
    (e : opening r.prog = plainProg r.prog.main.scope.names) (f : ∀ s, fenceModules? r.prog s = some s)
    (run1 : ∀ (w : World) (os : OsState), (endF (stepQ (denQ tabQ) r.prog w) M r.prog w os).map (fun s => looksF r.prog (boot_heap w.params) s.abs) = some true)
    (run2 : ∀ (w : World) (os : OsState), (endF (stepQ (denQ tabQ) r.prog w) M r.prog w os).map (fun s => seenQ q loose (importedModules r.prog.main.body) (fun s => xlAt q [] s && recOk r.toRowW.records s) s.abs) = some (openGood q loose))
    (run3 : ∀ (w : World) (os : OsState), (endF (stepQ (denQ tabQ) r.prog w) M r.prog w os).map (fun s => as.map (getT s)) = some ((K w.params).map fun x => some x.2))
    (hdef : defOf q r.name = some (d, kwd)) (hp : r.prog.theDef r.name = some (d.params, d.body, d.scope)) (hk : kwWritten? d.params.kwonlyargs d.params.kw_defaults = some kwd)
    (hwr : (!r.writes || r.records.isEmpty) = true) (k1 : r.wellSaid = true) (ok : (chainsOk q && opensWell r.prog && (frees r.toRowW && r.within.isEmpty)) = true) (hb : r.prog.bare) (hw : r.toRowW.promised)
    (call : WalkO q loose (XL q []) (kHook K as ek).says r.toRowW d kwd fun f vs => PySem.call f vs) : r.Holds :=
  head_any (H := kHook K as ek) (ob := fun s => as.map (getT s)) (M := M) (fun s => List.map_congr_left fun a _ => getT_eq s a) e f (fun w os => run_three (run1 w os) (run2 w os) (run3 w os)) hdef hp hk hwr k1 ok hb hw call
end Vf
namespace Vf
open PySem PySem.Spec PyProof.Rows L2 Evl GxR
/-! ### what the top has written -/
theorem keep_of {K : PySem.W.Frag} {f : Addr} {c : Value} {o : Option Addr} {fd : FuncData} {sl : Array (Option Value)} (l : K.lookup f = some ⟨c, o, .func fd, sl⟩) : PySem.W.keepIn K (.ref f) = true := by
  unfold PySem.W.keepIn
  dsimp only
  rw [l]
theorem all_mk {l : PySem.W.OpenLaw} {w : World} {K : PySem.W.Frag} {h : Heap} {mg : Str → Option Value} {fa f1 f2 f3 c0 T0 f4 f5 f6 f7 f8 f9 f10 f11 f12 f13 f14 f15 f16 f17 f18 f19 f20 f21 f22 f23 f24 ca1 Ta1 f25 cHE cN x1 x2 x3 x4 x5 x6 cP f26 f27 f28 f29 f30 f31 f32 f33 f34 f35 f36 cS f37 cH f38 f39 f40 f41 f42 f43 f44 f45 f46 cK f47 f48 f49 f50 f51 f52 f53 f54 f55 : Addr} (X : K.In h) (G : h.Ns mainGlobals mg) (hfa : mg "law" = some (.ref fa))
    {od1 an1 od2 an2 od3 an3 od0 od4 an4 od5 an5 od6 an6 od7 an7 od8 an8 od9 an9 od10 an10 od11 an11 od12 an12 od13 an13 od14 an14 od15 an15 od16 an16 od17 an17 od18 an18 od19 an19 od20 an20 od21 an21 od22 an22 od23 an23 od24 an24 odT1 od25 an25 od26 an26 od27 an27 od28 an28 od29 an29 od30 an30 od31 an31 od32 an32 od33 an33 od34 an34 od35 an35 od36 an36 od37 an37 od38 an38 od39 an39 od40 an40 od41 an41 od42 an42 od43 an43 od44 an44 od45 an45 od46 an46 od47 an47 od48 an48 od49 an49 od50 an50 od51 an51 od52 an52 od53 an53 od54 an54 od55 an55 : Option Addr} {sl1 sl2 sl3 sl0 sl4 sl5 sl6 sl7 sl8 sl9 sl10 sl11 sl12 sl13 sl14 sl15 sl16 sl17 sl18 sl19 sl20 sl21 sl22 sl23 sl24 slT1 sl25 sl26 sl27 sl28 sl29 sl30 sl31 sl32 sl33 sl34 sl35 sl36 sl37 sl38 sl39 sl40 sl41 sl42 sl43 sl44 sl45 sl46 sl47 sl48 sl49 sl50 sl51 sl52 sl53 sl54 sl55 : Array (Option Value)} {oc1 kV1 dc1 pm1 cd1 ct1 oc2 kV2 dc2 pm2 cd2 ct2 oc3 kV3 dc3 pm3 ct3 oc0 oc4 kV4 dc4 pm4 cd4 ct4 oc5 kV5 dc5 pm5 cd5 ct5 oc6 kV6 dc6 pm6 cd6 ct6 oc7 kV7 dc7 pm7 cd7 ct7 oc8 kV8 dc8 pm8 cd8 ct8 oc9 kV9 dc9 pm9 cd9 ct9 oc10 kV10 dc10 pm10 cd10 ct10 oc11 kV11 dc11 pm11 cd11 ct11 oc12 kV12 dc12 pm12 cd12 ct12 oc13 kV13 dc13 pm13 cd13 ct13 oc14 kV14 dc14 pm14 cd14 ct14 oc15 kV15 dc15 pm15 cd15 ct15 oc16 kV16 dc16 pm16 cd16 ct16 oc17 kV17 dc17 pm17 cd17 ct17 oc18 kV18 dc18 pm18 cd18 ct18 oc19 kV19 dc19 pm19 cd19 ct19 oc20 kV20 dc20 pm20 cd20 ct20 oc21 kV21 dc21 pm21 cd21 ct21 oc22 kV22 dc22 pm22 cd22 ct22 oc23 kV23 dc23 pm23 cd23 ct23 oc24 kV24 dc24 pm24 ct24 ocT1 oc25 kV25 dc25 pm25 cd25 ct25 oc26 kV26 dc26 pm26 cd26 ct26 oc27 kV27 dc27 pm27 cd27 ct27 oc28 kV28 dc28 pm28 cd28 ct28 oc29 kV29 dc29 pm29 cd29 ct29 oc30 kV30 dc30 pm30 cd30 ct30 oc31 kV31 dc31 pm31 cd31 ct31 oc32 kV32 dc32 pm32 cd32 ct32 oc33 kV33 dc33 pm33 cd33 ct33 oc34 kV34 dc34 pm34 cd34 ct34 oc35 kV35 dc35 pm35 cd35 ct35 oc36 kV36 dc36 pm36 cd36 ct36 oc37 kV37 dc37 pm37 cd37 ct37 oc38 kV38 dc38 pm38 cd38 ct38 oc39 kV39 dc39 pm39 cd39 ct39 oc40 kV40 dc40 pm40 cd40 ct40 oc41 kV41 dc41 pm41 cd41 ct41 oc42 kV42 dc42 pm42 cd42 ct42 oc43 kV43 dc43 pm43 cd43 ct43 oc44 kV44 dc44 pm44 cd44 ct44 oc45 kV45 dc45 pm45 cd45 ct45 oc46 kV46 dc46 pm46 cd46 ct46 oc47 kV47 dc47 pm47 cd47 ct47 oc48 kV48 dc48 pm48 cd48 ct48 oc49 kV49 dc49 pm49 cd49 ct49 oc50 kV50 dc50 pm50 cd50 ct50 oc51 kV51 dc51 pm51 cd51 ct51 oc52 kV52 dc52 pm52 cd52 ct52 oc53 kV53 dc53 pm53 cd53 ct53 oc54 kV54 dc54 pm54 cd54 ct54 oc55 kV55 dc55 pm55 cd55 ct55 : Value} {t_KEYS t_SAY t_MANY t_LINE_SIGNS t_ROWS_KEPT t_TYPED_KEPT t_CHANGES_KEPT t_SIGNS t_BETWEEN t_SUM_TIMES t_SUM_REST t_TYPED t_LEFT t_SHOWN t_FIGURES t_NARROWEST t_WIDEST t_LOWEST t_HIGHEST t_NAMES t_SESSIONS t_MOST_PANES t_LETTER_SIGNS : Tok} {vs0 vsT1 : Array Value}
    (a1 : PySem.W.nsIn K mainGlobals "sum_of" = some (some (.ref f1))) (l1 : K.lookup f1 = some ⟨oc1, od1, .func (PySem.W.fnOf "sum_of" "sum_of" (defArgs sSum) (defBody sSum) (defScope sSum) .none kV1 dc1 pm1 an1 cd1 ct1), sl1⟩) (c1 : PySem.W.codeIn K cd1 "sum_of" = true)
    (a2 : PySem.W.nsIn K mainGlobals "letter_of" = some (some (.ref f2))) (l2 : K.lookup f2 = some ⟨oc2, od2, .func (PySem.W.fnOf "letter_of" "letter_of" (defArgs sLet) (defBody sLet) (defScope sLet) .none kV2 dc2 pm2 an2 cd2 ct2), sl2⟩) (c2 : PySem.W.codeIn K cd2 "letter_of" = true)
    (a3 : PySem.W.nsIn K mainGlobals "has_only_signs" = some (some (.ref f3))) (l3 : K.lookup f3 = some ⟨oc3, od3, .func (PySem.W.fnOf "has_only_signs" "has_only_signs" (defArgs sHas) (defBody sHas) (defScope sHas) .none kV3 dc3 pm3 an3 (.ref c0) ct3), sl3⟩) (c3 : PySem.W.codeIn K (.ref c0) "has_only_signs" = true)
    (lc : K.lookup c0 = some ⟨oc0, od0, .fields vs0, sl0⟩) (v11 : vs0[11]? = some (.ref T0)) (noT : K.lookup T0 = none)
    (a4 : PySem.W.nsIn K mainGlobals "is_number" = some (some (.ref f4))) (l4 : K.lookup f4 = some ⟨oc4, od4, .func (PySem.W.fnOf "is_number" "is_number" (defArgs sIsN) (defBody sIsN) (defScope sIsN) .none kV4 dc4 pm4 an4 cd4 ct4), sl4⟩) (c4 : PySem.W.codeIn K cd4 "is_number" = true)
    (a5 : PySem.W.nsIn K mainGlobals "is_within" = some (some (.ref f5))) (l5 : K.lookup f5 = some ⟨oc5, od5, .func (PySem.W.fnOf "is_within" "is_within" (defArgs sWit) (defBody sWit) (defScope sWit) .none kV5 dc5 pm5 an5 cd5 ct5), sl5⟩) (c5 : PySem.W.codeIn K cd5 "is_within" = true)
    (a6 : PySem.W.nsIn K mainGlobals "packed" = some (some (.ref f6))) (l6 : K.lookup f6 = some ⟨oc6, od6, .func (PySem.W.fnOf "packed" "packed" (defArgs sPac) (defBody sPac) (defScope sPac) .none kV6 dc6 pm6 an6 cd6 ct6), sl6⟩) (c6 : PySem.W.codeIn K cd6 "packed" = true)
    (a7 : PySem.W.nsIn K mainGlobals "unpacked" = some (some (.ref f7))) (l7 : K.lookup f7 = some ⟨oc7, od7, .func (PySem.W.fnOf "unpacked" "unpacked" (defArgs sUnp) (defBody sUnp) (defScope sUnp) .none kV7 dc7 pm7 an7 cd7 ct7), sl7⟩) (c7 : PySem.W.codeIn K cd7 "unpacked" = true)
    (a8 : PySem.W.nsIn K mainGlobals "_law_begun" = some (some (.ref f8))) (l8 : K.lookup f8 = some ⟨oc8, od8, .func (PySem.W.fnOf "_law_begun" "_law_begun" (defArgs sBeg) (defBody sBeg) (defScope sBeg) .none kV8 dc8 pm8 an8 cd8 ct8), sl8⟩) (c8 : PySem.W.codeIn K cd8 "_law_begun" = true)
    (a9 : PySem.W.nsIn K mainGlobals "_law_take" = some (some (.ref f9))) (l9 : K.lookup f9 = some ⟨oc9, od9, .func (PySem.W.fnOf "_law_take" "_law_take" (defArgs sTak) (defBody sTak) (defScope sTak) .none kV9 dc9 pm9 an9 cd9 ct9), sl9⟩) (c9 : PySem.W.codeIn K cd9 "_law_take" = true)
    (a10 : PySem.W.nsIn K mainGlobals "_law_alike" = some (some (.ref f10))) (l10 : K.lookup f10 = some ⟨oc10, od10, .func (PySem.W.fnOf "_law_alike" "_law_alike" (defArgs sAli) (defBody sAli) (defScope sAli) .none kV10 dc10 pm10 an10 cd10 ct10), sl10⟩) (c10 : PySem.W.codeIn K cd10 "_law_alike" = true)
    (a11 : PySem.W.nsIn K mainGlobals "number_of" = some (some (.ref f11))) (l11 : K.lookup f11 = some ⟨oc11, od11, .func (PySem.W.fnOf "number_of" "number_of" (defArgs sNum) (defBody sNum) (defScope sNum) .none kV11 dc11 pm11 an11 cd11 ct11), sl11⟩) (c11 : PySem.W.codeIn K cd11 "number_of" = true)
    (a12 : PySem.W.nsIn K mainGlobals "wrong_place" = some (some (.ref f12))) (l12 : K.lookup f12 = some ⟨oc12, od12, .func (PySem.W.fnOf "wrong_place" "wrong_place" (defArgs sWrp) (defBody sWrp) (defScope sWrp) .none kV12 dc12 pm12 an12 cd12 ct12), sl12⟩) (c12 : PySem.W.codeIn K cd12 "wrong_place" = true)
    (a13 : PySem.W.nsIn K mainGlobals "job_size" = some (some (.ref f13))) (l13 : K.lookup f13 = some ⟨oc13, od13, .func (PySem.W.fnOf "job_size" "job_size" (defArgs sJsz) (defBody sJsz) (defScope sJsz) .none kV13 dc13 pm13 an13 cd13 ct13), sl13⟩) (c13 : PySem.W.codeIn K cd13 "job_size" = true)
    (a14 : PySem.W.nsIn K mainGlobals "numbers_of" = some (some (.ref f14))) (l14 : K.lookup f14 = some ⟨oc14, od14, .func (PySem.W.fnOf "numbers_of" "numbers_of" (defArgs sNms) (defBody sNms) (defScope sNms) .none kV14 dc14 pm14 an14 cd14 ct14), sl14⟩) (c14 : PySem.W.codeIn K cd14 "numbers_of" = true)
    (a15 : PySem.W.nsIn K mainGlobals "look_letter" = some (some (.ref f15))) (l15 : K.lookup f15 = some ⟨oc15, od15, .func (PySem.W.fnOf "look_letter" "look_letter" (defArgs sLle) (defBody sLle) (defScope sLle) .none kV15 dc15 pm15 an15 cd15 ct15), sl15⟩) (c15 : PySem.W.codeIn K cd15 "look_letter" = true)
    (a16 : PySem.W.nsIn K mainGlobals "hall_letter" = some (some (.ref f16))) (l16 : K.lookup f16 = some ⟨oc16, od16, .func (PySem.W.fnOf "hall_letter" "hall_letter" (defArgs sHle) (defBody sHle) (defScope sHle) .none kV16 dc16 pm16 an16 cd16 ct16), sl16⟩) (c16 : PySem.W.codeIn K cd16 "hall_letter" = true)
    (a17 : PySem.W.nsIn K mainGlobals "read_look_letter" = some (some (.ref f17))) (l17 : K.lookup f17 = some ⟨oc17, od17, .func (PySem.W.fnOf "read_look_letter" "read_look_letter" (defArgs sRll) (defBody sRll) (defScope sRll) .none kV17 dc17 pm17 an17 cd17 ct17), sl17⟩) (c17 : PySem.W.codeIn K cd17 "read_look_letter" = true)
    (a18 : PySem.W.nsIn K mainGlobals "read_hall_letter" = some (some (.ref f18))) (l18 : K.lookup f18 = some ⟨oc18, od18, .func (PySem.W.fnOf "read_hall_letter" "read_hall_letter" (defArgs sRhl) (defBody sRhl) (defScope sRhl) .none kV18 dc18 pm18 an18 cd18 ct18), sl18⟩) (c18 : PySem.W.codeIn K cd18 "read_hall_letter" = true)
    (a19 : PySem.W.nsIn K mainGlobals "check_size" = some (some (.ref f19))) (l19 : K.lookup f19 = some ⟨oc19, od19, .func (PySem.W.fnOf "check_size" "check_size" (defArgs sChk) (defBody sChk) (defScope sChk) .none kV19 dc19 pm19 an19 cd19 ct19), sl19⟩) (c19 : PySem.W.codeIn K cd19 "check_size" = true)
    (a20 : PySem.W.nsIn K mainGlobals "check_look" = some (some (.ref f20))) (l20 : K.lookup f20 = some ⟨oc20, od20, .func (PySem.W.fnOf "check_look" "check_look" (defArgs sClk) (defBody sClk) (defScope sClk) .none kV20 dc20 pm20 an20 cd20 ct20), sl20⟩) (c20 : PySem.W.codeIn K cd20 "check_look" = true)
    (a21 : PySem.W.nsIn K mainGlobals "_law_told" = some (some (.ref f21))) (l21 : K.lookup f21 = some ⟨oc21, od21, .func (PySem.W.fnOf "_law_told" "_law_told" (defArgs sTld) (defBody sTld) (defScope sTld) .none kV21 dc21 pm21 an21 cd21 ct21), sl21⟩) (c21 : PySem.W.codeIn K cd21 "_law_told" = true)
    (a22 : PySem.W.nsIn K mainGlobals "_law_all" = some (some (.ref f22))) (l22 : K.lookup f22 = some ⟨oc22, od22, .func (PySem.W.fnOf "_law_all" "_law_all" (defArgs sAll) (defBody sAll) (defScope sAll) .none kV22 dc22 pm22 an22 cd22 ct22), sl22⟩) (c22 : PySem.W.codeIn K cd22 "_law_all" = true)
    (a23 : PySem.W.nsIn K mainGlobals "_law_all_hear" = some (some (.ref f23))) (l23 : K.lookup f23 = some ⟨oc23, od23, .func (PySem.W.fnOf "_law_all_hear" "_law_all_hear" (defArgs sAhr) (defBody sAhr) (defScope sAhr) .none kV23 dc23 pm23 an23 cd23 ct23), sl23⟩) (c23 : PySem.W.codeIn K cd23 "_law_all_hear" = true)
    (a24 : PySem.W.nsIn K mainGlobals "_law_is_last" = some (some (.ref f24))) (l24 : K.lookup f24 = some ⟨oc24, od24, .func (PySem.W.fnOf "_law_is_last" "_law_is_last" (defArgs sIsl) (defBody sIsl) (defScope sIsl) .none kV24 dc24 pm24 an24 (.ref ca1) ct24), sl24⟩) (c24 : PySem.W.codeIn K (.ref ca1) "_law_is_last" = true)
    (lcT1 : K.lookup ca1 = some ⟨ocT1, odT1, .fields vsT1, slT1⟩) (v11T1 : vsT1[11]? = some (.ref Ta1)) (noT1 : K.lookup Ta1 = none)
    (a25 : PySem.W.nsIn K mainGlobals "law" = some (some (.ref f25))) (l25 : K.lookup f25 = some ⟨oc25, od25, .func (PySem.W.fnOf "law" "law" (defArgs sL12) (defBody sL12) (defScope sL12) .none kV25 dc25 pm25 an25 cd25 ct25), sl25⟩) (c25 : PySem.W.codeIn K cd25 "law" = true)
    (aC_Pane : PySem.W.nsIn K mainGlobals "Pane" = some (some (.ref cP))) (pg_Pane : PySem.W.plainGet K cP Str.empty = true) (hd_Pane : PySem.W.hasDictIn K cP = true) (po_Pane : PySem.W.plainOver K cP = true) (sa_Pane : PySem.W.findIn K (.ref cP) "__setattr__" = some (some (.builtin "object.__setattr__"))) (mk_Pane : PySem.W.makesIn K cP = true) (kc_Pane : PySem.W.keepIn K (.ref cP) = true)
    (nf_Pane_rows : PySem.W.findIn K (.ref cP) "_rows" = some none)
    (nf_Pane_line : PySem.W.findIn K (.ref cP) "_line" = some none)
    (nf_Pane_job : PySem.W.findIn K (.ref cP) "_job" = some none)
    (nf_Pane_typed : PySem.W.findIn K (.ref cP) "_typed" = some none)
    (nf_Pane_changes : PySem.W.findIn K (.ref cP) "_changes" = some none)
    (nf_Pane_latest : PySem.W.findIn K (.ref cP) "_latest" = some none)
    (a26 : PySem.W.findIn K (.ref cP) "__init__" = some (some (.ref f26))) (i26 : PySem.W.isFn K (.ref f26) = true) (l26 : K.lookup f26 = some ⟨oc26, od26, .func (PySem.W.fnOf "__init__" "Pane.__init__" (defArgs sPIn) (defBody sPIn) (defScope sPIn) .none kV26 dc26 pm26 an26 cd26 ct26), sl26⟩) (c26 : PySem.W.codeIn K cd26 "Pane.__init__" = true)
    (a27 : PySem.W.findIn K (.ref cP) "press" = some (some (.ref f27))) (i27 : PySem.W.isFn K (.ref f27) = true) (l27 : K.lookup f27 = some ⟨oc27, od27, .func (PySem.W.fnOf "press" "Pane.press" (defArgs sPPr) (defBody sPPr) (defScope sPPr) .none kV27 dc27 pm27 an27 cd27 ct27), sl27⟩) (c27 : PySem.W.codeIn K cd27 "Pane.press" = true)
    (a28 : PySem.W.findIn K (.ref cP) "rows" = some (some (.ref f28))) (i28 : PySem.W.isFn K (.ref f28) = true) (l28 : K.lookup f28 = some ⟨oc28, od28, .func (PySem.W.fnOf "rows" "Pane.rows" (defArgs sPRo) (defBody sPRo) (defScope sPRo) .none kV28 dc28 pm28 an28 cd28 ct28), sl28⟩) (c28 : PySem.W.codeIn K cd28 "Pane.rows" = true)
    (a29 : PySem.W.findIn K (.ref cP) "line" = some (some (.ref f29))) (i29 : PySem.W.isFn K (.ref f29) = true) (l29 : K.lookup f29 = some ⟨oc29, od29, .func (PySem.W.fnOf "line" "Pane.line" (defArgs sPLi) (defBody sPLi) (defScope sPLi) .none kV29 dc29 pm29 an29 cd29 ct29), sl29⟩) (c29 : PySem.W.codeIn K cd29 "Pane.line" = true)
    (a30 : PySem.W.findIn K (.ref cP) "changes" = some (some (.ref f30))) (i30 : PySem.W.isFn K (.ref f30) = true) (l30 : K.lookup f30 = some ⟨oc30, od30, .func (PySem.W.fnOf "changes" "Pane.changes" (defArgs sPCh) (defBody sPCh) (defScope sPCh) .none kV30 dc30 pm30 an30 cd30 ct30), sl30⟩) (c30 : PySem.W.codeIn K cd30 "Pane.changes" = true)
    (a31 : PySem.W.findIn K (.ref cP) "typed" = some (some (.ref f31))) (i31 : PySem.W.isFn K (.ref f31) = true) (l31 : K.lookup f31 = some ⟨oc31, od31, .func (PySem.W.fnOf "typed" "Pane.typed" (defArgs sPTy) (defBody sPTy) (defScope sPTy) .none kV31 dc31 pm31 an31 cd31 ct31), sl31⟩) (c31 : PySem.W.codeIn K cd31 "Pane.typed" = true)
    (a32 : PySem.W.findIn K (.ref cP) "_do_line" = some (some (.ref f32))) (i32 : PySem.W.isFn K (.ref f32) = true) (l32 : K.lookup f32 = some ⟨oc32, od32, .func (PySem.W.fnOf "_do_line" "Pane._do_line" (defArgs sPDo) (defBody sPDo) (defScope sPDo) .none kV32 dc32 pm32 an32 cd32 ct32), sl32⟩) (c32 : PySem.W.codeIn K cd32 "Pane._do_line" = true)
    (a33 : PySem.W.findIn K (.ref cP) "_add_row" = some (some (.ref f33))) (i33 : PySem.W.isFn K (.ref f33) = true) (l33 : K.lookup f33 = some ⟨oc33, od33, .func (PySem.W.fnOf "_add_row" "Pane._add_row" (defArgs sPAr) (defBody sPAr) (defScope sPAr) .none kV33 dc33 pm33 an33 cd33 ct33), sl33⟩) (c33 : PySem.W.codeIn K cd33 "Pane._add_row" = true)
    (a34 : PySem.W.findIn K (.ref cP) "_clear_rows" = some (some (.ref f34))) (i34 : PySem.W.isFn K (.ref f34) = true) (l34 : K.lookup f34 = some ⟨oc34, od34, .func (PySem.W.fnOf "_clear_rows" "Pane._clear_rows" (defArgs sPCl) (defBody sPCl) (defScope sPCl) .none kV34 dc34 pm34 an34 cd34 ct34), sl34⟩) (c34 : PySem.W.codeIn K cd34 "Pane._clear_rows" = true)
    (a35 : PySem.W.findIn K (.ref cP) "_set_line" = some (some (.ref f35))) (i35 : PySem.W.isFn K (.ref f35) = true) (l35 : K.lookup f35 = some ⟨oc35, od35, .func (PySem.W.fnOf "_set_line" "Pane._set_line" (defArgs sPSl) (defBody sPSl) (defScope sPSl) .none kV35 dc35 pm35 an35 cd35 ct35), sl35⟩) (c35 : PySem.W.codeIn K cd35 "Pane._set_line" = true)
    (a36 : PySem.W.findIn K (.ref cP) "_add_change" = some (some (.ref f36))) (i36 : PySem.W.isFn K (.ref f36) = true) (l36 : K.lookup f36 = some ⟨oc36, od36, .func (PySem.W.fnOf "_add_change" "Pane._add_change" (defArgs sPAc) (defBody sPAc) (defScope sPAc) .none kV36 dc36 pm36 an36 cd36 ct36), sl36⟩) (c36 : PySem.W.codeIn K cd36 "Pane._add_change" = true)
    (aC_Seat : PySem.W.nsIn K mainGlobals "Seat" = some (some (.ref cS))) (pg_Seat : PySem.W.plainGet K cS Str.empty = true) (hd_Seat : PySem.W.hasDictIn K cS = true) (po_Seat : PySem.W.plainOver K cS = true) (sa_Seat : PySem.W.findIn K (.ref cS) "__setattr__" = some (some (.builtin "object.__setattr__"))) (mk_Seat : PySem.W.makesIn K cS = true) (kc_Seat : PySem.W.keepIn K (.ref cS) = true)
    (nf_Seatsession : PySem.W.findIn K (.ref cS) "session" = some none)
    (nf_Seatpane : PySem.W.findIn K (.ref cS) "pane" = some none)
    (nf_Seatdone : PySem.W.findIn K (.ref cS) "done" = some none)
    (nf_Seatleft : PySem.W.findIn K (.ref cS) "left" = some none)
    (a37 : PySem.W.findIn K (.ref cS) "__init__" = some (some (.ref f37))) (i37 : PySem.W.isFn K (.ref f37) = true) (l37 : K.lookup f37 = some ⟨oc37, od37, .func (PySem.W.fnOf "__init__" "Seat.__init__" (defArgs sSIn) (defBody sSIn) (defScope sSIn) .none kV37 dc37 pm37 an37 cd37 ct37), sl37⟩) (c37 : PySem.W.codeIn K cd37 "Seat.__init__" = true)
    (aC_Hall : PySem.W.nsIn K mainGlobals "Hall" = some (some (.ref cH))) (pg_Hall : PySem.W.plainGet K cH Str.empty = true) (hd_Hall : PySem.W.hasDictIn K cH = true) (po_Hall : PySem.W.plainOver K cH = true) (sa_Hall : PySem.W.findIn K (.ref cH) "__setattr__" = some (some (.builtin "object.__setattr__"))) (mk_Hall : PySem.W.makesIn K cH = true) (kc_Hall : PySem.W.keepIn K (.ref cH) = true)
    (nf_Hall_panes : PySem.W.findIn K (.ref cH) "_panes" = some none)
    (nf_Hall_seats : PySem.W.findIn K (.ref cH) "_seats" = some none)
    (a38 : PySem.W.findIn K (.ref cH) "__init__" = some (some (.ref f38))) (i38 : PySem.W.isFn K (.ref f38) = true) (l38 : K.lookup f38 = some ⟨oc38, od38, .func (PySem.W.fnOf "__init__" "Hall.__init__" (defArgs sHIn) (defBody sHIn) (defScope sHIn) .none kV38 dc38 pm38 an38 cd38 ct38), sl38⟩) (c38 : PySem.W.codeIn K cd38 "Hall.__init__" = true)
    (a39 : PySem.W.findIn K (.ref cH) "hear" = some (some (.ref f39))) (i39 : PySem.W.isFn K (.ref f39) = true) (l39 : K.lookup f39 = some ⟨oc39, od39, .func (PySem.W.fnOf "hear" "Hall.hear" (defArgs sHHe) (defBody sHHe) (defScope sHHe) .none kV39 dc39 pm39 an39 cd39 ct39), sl39⟩) (c39 : PySem.W.codeIn K cd39 "Hall.hear" = true)
    (a40 : PySem.W.findIn K (.ref cH) "letters" = some (some (.ref f40))) (i40 : PySem.W.isFn K (.ref f40) = true) (l40 : K.lookup f40 = some ⟨oc40, od40, .func (PySem.W.fnOf "letters" "Hall.letters" (defArgs sHLt) (defBody sHLt) (defScope sHLt) .none kV40 dc40 pm40 an40 cd40 ct40), sl40⟩) (c40 : PySem.W.codeIn K cd40 "Hall.letters" = true)
    (a41 : PySem.W.findIn K (.ref cH) "looks" = some (some (.ref f41))) (i41 : PySem.W.isFn K (.ref f41) = true) (l41 : K.lookup f41 = some ⟨oc41, od41, .func (PySem.W.fnOf "looks" "Hall.looks" (defArgs sHLo) (defBody sHLo) (defScope sHLo) .none kV41 dc41 pm41 an41 cd41 ct41), sl41⟩) (c41 : PySem.W.codeIn K cd41 "Hall.looks" = true)
    (a42 : PySem.W.findIn K (.ref cH) "_names" = some (some (.ref f42))) (i42 : PySem.W.isFn K (.ref f42) = true) (l42 : K.lookup f42 = some ⟨oc42, od42, .func (PySem.W.fnOf "_names" "Hall._names" (defArgs sHNa) (defBody sHNa) (defScope sHNa) .none kV42 dc42 pm42 an42 cd42 ct42), sl42⟩) (c42 : PySem.W.codeIn K cd42 "Hall._names" = true)
    (a43 : PySem.W.findIn K (.ref cH) "_seat" = some (some (.ref f43))) (i43 : PySem.W.isFn K (.ref f43) = true) (l43 : K.lookup f43 = some ⟨oc43, od43, .func (PySem.W.fnOf "_seat" "Hall._seat" (defArgs sHSe) (defBody sHSe) (defScope sHSe) .none kV43 dc43 pm43 an43 cd43 ct43), sl43⟩) (c43 : PySem.W.codeIn K cd43 "Hall._seat" = true)
    (a44 : PySem.W.findIn K (.ref cH) "_do_signs" = some (some (.ref f44))) (i44 : PySem.W.isFn K (.ref f44) = true) (l44 : K.lookup f44 = some ⟨oc44, od44, .func (PySem.W.fnOf "_do_signs" "Hall._do_signs" (defArgs sHDo) (defBody sHDo) (defScope sHDo) .none kV44 dc44 pm44 an44 cd44 ct44), sl44⟩) (c44 : PySem.W.codeIn K cd44 "Hall._do_signs" = true)
    (a45 : PySem.W.findIn K (.ref cH) "_letter" = some (some (.ref f45))) (i45 : PySem.W.isFn K (.ref f45) = true) (l45 : K.lookup f45 = some ⟨oc45, od45, .func (PySem.W.fnOf "_letter" "Hall._letter" (defArgs sHLr) (defBody sHLr) (defScope sHLr) .none kV45 dc45 pm45 an45 cd45 ct45), sl45⟩) (c45 : PySem.W.codeIn K cd45 "Hall._letter" = true)
    (a46 : PySem.W.findIn K (.ref cH) "typed" = some (some (.ref f46))) (i46 : PySem.W.isFn K (.ref f46) = true) (l46 : K.lookup f46 = some ⟨oc46, od46, .func (PySem.W.fnOf "typed" "Hall.typed" (defArgs sHTy) (defBody sHTy) (defScope sHTy) .none kV46 dc46 pm46 an46 cd46 ct46), sl46⟩) (c46 : PySem.W.codeIn K cd46 "Hall.typed" = true)
    (aC_Look : PySem.W.nsIn K mainGlobals "Look" = some (some (.ref cK))) (pg_Look : PySem.W.plainGet K cK Str.empty = true) (hd_Look : PySem.W.hasDictIn K cK = true) (po_Look : PySem.W.plainOver K cK = true) (sa_Look : PySem.W.findIn K (.ref cK) "__setattr__" = some (some (.builtin "object.__setattr__"))) (mk_Look : PySem.W.makesIn K cK = true) (kc_Look : PySem.W.keepIn K (.ref cK) = true)
    (nf_Lookname : PySem.W.findIn K (.ref cK) "name" = some none)
    (nf_Looksession : PySem.W.findIn K (.ref cK) "session" = some none)
    (nf_Lookpane : PySem.W.findIn K (.ref cK) "pane" = some none)
    (nf_Look_wide : PySem.W.findIn K (.ref cK) "_wide" = some none)
    (nf_Look_high : PySem.W.findIn K (.ref cK) "_high" = some none)
    (nf_Look_done : PySem.W.findIn K (.ref cK) "_done" = some none)
    (nf_Look_signs : PySem.W.findIn K (.ref cK) "_signs" = some none)
    (nf_Look_known : PySem.W.findIn K (.ref cK) "_known" = some none)
    (nf_Look_rows : PySem.W.findIn K (.ref cK) "_rows" = some none)
    (nf_Look_line : PySem.W.findIn K (.ref cK) "_line" = some none)
    (nf_Look_left : PySem.W.findIn K (.ref cK) "_left" = some none)
    (nf_Look_over : PySem.W.findIn K (.ref cK) "_over" = some none)
    (a47 : PySem.W.findIn K (.ref cK) "__init__" = some (some (.ref f47))) (i47 : PySem.W.isFn K (.ref f47) = true) (l47 : K.lookup f47 = some ⟨oc47, od47, .func (PySem.W.fnOf "__init__" "Look.__init__" (defArgs sKIn) (defBody sKIn) (defScope sKIn) .none kV47 dc47 pm47 an47 cd47 ct47), sl47⟩) (c47 : PySem.W.codeIn K cd47 "Look.__init__" = true)
    (a48 : PySem.W.findIn K (.ref cK) "letters" = some (some (.ref f48))) (i48 : PySem.W.isFn K (.ref f48) = true) (l48 : K.lookup f48 = some ⟨oc48, od48, .func (PySem.W.fnOf "letters" "Look.letters" (defArgs sKLt) (defBody sKLt) (defScope sKLt) .none kV48 dc48 pm48 an48 cd48 ct48), sl48⟩) (c48 : PySem.W.codeIn K cd48 "Look.letters" = true)
    (a49 : PySem.W.findIn K (.ref cK) "_letter" = some (some (.ref f49))) (i49 : PySem.W.isFn K (.ref f49) = true) (l49 : K.lookup f49 = some ⟨oc49, od49, .func (PySem.W.fnOf "_letter" "Look._letter" (defArgs sKLr) (defBody sKLr) (defScope sKLr) .none kV49 dc49 pm49 an49 cd49 ct49), sl49⟩) (c49 : PySem.W.codeIn K cd49 "Look._letter" = true)
    (a50 : PySem.W.findIn K (.ref cK) "press" = some (some (.ref f50))) (i50 : PySem.W.isFn K (.ref f50) = true) (l50 : K.lookup f50 = some ⟨oc50, od50, .func (PySem.W.fnOf "press" "Look.press" (defArgs sKPx) (defBody sKPx) (defScope sKPx) .none kV50 dc50 pm50 an50 cd50 ct50), sl50⟩) (c50 : PySem.W.codeIn K cd50 "Look.press" = true)
    (a51 : PySem.W.findIn K (.ref cK) "hear" = some (some (.ref f51))) (i51 : PySem.W.isFn K (.ref f51) = true) (l51 : K.lookup f51 = some ⟨oc51, od51, .func (PySem.W.fnOf "hear" "Look.hear" (defArgs sKHe) (defBody sKHe) (defScope sKHe) .none kV51 dc51 pm51 an51 cd51 ct51), sl51⟩) (c51 : PySem.W.codeIn K cd51 "Look.hear" = true)
    (a52 : PySem.W.findIn K (.ref cK) "waiting" = some (some (.ref f52))) (i52 : PySem.W.isFn K (.ref f52) = true) (l52 : K.lookup f52 = some ⟨oc52, od52, .func (PySem.W.fnOf "waiting" "Look.waiting" (defArgs sKWa) (defBody sKWa) (defScope sKWa) .none kV52 dc52 pm52 an52 cd52 ct52), sl52⟩) (c52 : PySem.W.codeIn K cd52 "Look.waiting" = true)
    (a53 : PySem.W.findIn K (.ref cK) "over" = some (some (.ref f53))) (i53 : PySem.W.isFn K (.ref f53) = true) (l53 : K.lookup f53 = some ⟨oc53, od53, .func (PySem.W.fnOf "over" "Look.over" (defArgs sKOv) (defBody sKOv) (defScope sKOv) .none kV53 dc53 pm53 an53 cd53 ct53), sl53⟩) (c53 : PySem.W.codeIn K cd53 "Look.over" = true)
    (a54 : PySem.W.findIn K (.ref cK) "_hear_done" = some (some (.ref f54))) (i54 : PySem.W.isFn K (.ref f54) = true) (l54 : K.lookup f54 = some ⟨oc54, od54, .func (PySem.W.fnOf "_hear_done" "Look._hear_done" (defArgs sKHd) (defBody sKHd) (defScope sKHd) .none kV54 dc54 pm54 an54 cd54 ct54), sl54⟩) (c54 : PySem.W.codeIn K cd54 "Look._hear_done" = true)
    (a55 : PySem.W.findIn K (.ref cK) "_hear_pane" = some (some (.ref f55))) (i55 : PySem.W.isFn K (.ref f55) = true) (l55 : K.lookup f55 = some ⟨oc55, od55, .func (PySem.W.fnOf "_hear_pane" "Look._hear_pane" (defArgs sKHp) (defBody sKHp) (defScope sKHp) .none kV55 dc55 pm55 an55 cd55 ct55), sl55⟩) (c55 : PySem.W.codeIn K cd55 "Look._hear_pane" = true)
    (aH_ : PySem.W.nsIn K mainGlobals "HallError" = some (some (.ref cHE)))
    (aN_ : PySem.W.nsIn K mainGlobals "NoLook" = some (some (.ref cN)))
    (aB1_ : PySem.W.nsIn K mainGlobals "BadCount" = some (some (.ref x1)))
    (aB2_ : PySem.W.nsIn K mainGlobals "BadFields" = some (some (.ref x2)))
    (aB3_ : PySem.W.nsIn K mainGlobals "BadLook" = some (some (.ref x3)))
    (aB4_ : PySem.W.nsIn K mainGlobals "BadSign" = some (some (.ref x4)))
    (aB5_ : PySem.W.nsIn K mainGlobals "BadSize" = some (some (.ref x5)))
    (aB6_ : PySem.W.nsIn K mainGlobals "BadText" = some (some (.ref x6)))
    (xa_ : PySem.W.excIn K cN [.type "ValueError", .type "Exception", .type "BaseException", .type "object"] "ValueError.__new__" = true)
    (xk_ : PySem.W.keepIn K (.ref cN) = true)
    (xb_ : PySem.W.subIn K (.ref cN) (.type "BaseException") = some true)
    (xt_ : PySem.W.typeIn K (.ref cN) = some (.type "type"))
    (xg_ : PySem.W.findIn K (.ref cN) "__getattribute__" = some (some (.builtin "BaseException.__getattribute__")))
    (xh_ : PySem.W.findIn K (.ref cN) "__getattr__" = some none)
    (xd_ : PySem.W.hasDictIn K cN = true)
    (xc_ : PySem.W.findIn K (.ref cN) "__class__" = some (some (.builtin "object.__class__")))
    (xs_ : PySem.W.specialIn K (.builtin "object.__class__") "__get__" = some (some (.builtin "getset_descriptor.__get__")))
    (xe_ : PySem.W.takesIn K (.builtin "object.__class__") = some true)
    (xm_ : PySem.W.mroIn K cN (.type "object") = some true)
    (xp_ : PySem.W.findIn K (.ref cN) "place" = some none)
    (xr_ : PySem.W.findIn K (.ref cN) "row" = some none)
    (kitH : PySem.W.exmOne K (.ref cN) (.ref cHE) = some true)
    (kit0 : PySem.W.kitOne K (.ref cN) (.ref cN) = some true)
    (kit1 : PySem.W.kitOne K (.ref cN) (.ref x1) = some false)
    (kit2 : PySem.W.kitOne K (.ref cN) (.ref x2) = some false)
    (kit3 : PySem.W.kitOne K (.ref cN) (.ref x3) = some false)
    (kit4 : PySem.W.kitOne K (.ref cN) (.ref x4) = some false)
    (kit5 : PySem.W.kitOne K (.ref cN) (.ref x5) = some false)
    (kit6 : PySem.W.kitOne K (.ref cN) (.ref x6) = some false)
    (kitV : PySem.W.kitOne K (.ref cN) (.type "ValueError") = some true)
    (neT1 : ¬ T0 = Ta1)
    (z_isinstance : PySem.W.nsIn K mainGlobals "isinstance" = some none)
    (z_bool : PySem.W.nsIn K mainGlobals "bool" = some none)
    (z_list : PySem.W.nsIn K mainGlobals "list" = some none)
    (z_int : PySem.W.nsIn K mainGlobals "int" = some none)
    (z_len : PySem.W.nsIn K mainGlobals "len" = some none)
    (z_str : PySem.W.nsIn K mainGlobals "str" = some none)
    (z_tuple : PySem.W.nsIn K mainGlobals "tuple" = some none)
    (z_range : PySem.W.nsIn K mainGlobals "range" = some none)
    (z_enumerate : PySem.W.nsIn K mainGlobals "enumerate" = some none)
    (mg_KEYS : PySem.W.nsIn K mainGlobals "KEYS" = some (some (.str KEY t_KEYS)))
    (mg_SAY : PySem.W.nsIn K mainGlobals "SAY" = some (some (.str "say " t_SAY)))
    (mg_MANY : PySem.W.nsIn K mainGlobals "MANY" = some (some (.str "many " t_MANY)))
    (mg_LINE_SIGNS : PySem.W.nsIn K mainGlobals "LINE_SIGNS" = some (some (.int 30 t_LINE_SIGNS)))
    (mg_ROWS_KEPT : PySem.W.nsIn K mainGlobals "ROWS_KEPT" = some (some (.int 40 t_ROWS_KEPT)))
    (mg_TYPED_KEPT : PySem.W.nsIn K mainGlobals "TYPED_KEPT" = some (some (.int 100 t_TYPED_KEPT)))
    (mg_CHANGES_KEPT : PySem.W.nsIn K mainGlobals "CHANGES_KEPT" = some (some (.int 30 t_CHANGES_KEPT)))
    (z_all : PySem.W.nsIn K mainGlobals "all" = some none)
    (mg_SIGNS : PySem.W.nsIn K mainGlobals "SIGNS" = some (some (.str SGN t_SIGNS)))
    (mg_BETWEEN : PySem.W.nsIn K mainGlobals "BETWEEN" = some (some (.str "|" t_BETWEEN)))
    (mg_SUM_TIMES : PySem.W.nsIn K mainGlobals "SUM_TIMES" = some (some (.int 61 t_SUM_TIMES)))
    (mg_SUM_REST : PySem.W.nsIn K mainGlobals "SUM_REST" = some (some (.int 9973 t_SUM_REST)))
    (mg_TYPED : PySem.W.nsIn K mainGlobals "TYPED" = some (some (.str "typed" t_TYPED)))
    (mg_LEFT : PySem.W.nsIn K mainGlobals "LEFT" = some (some (.str "left" t_LEFT)))
    (mg_SHOWN : PySem.W.nsIn K mainGlobals "SHOWN" = some (some (.str "shown" t_SHOWN)))
    (mg_FIGURES : PySem.W.nsIn K mainGlobals "FIGURES" = some (some (.int 20 t_FIGURES)))
    (z_max : PySem.W.nsIn K mainGlobals "max" = some none)
    (mg_NARROWEST : PySem.W.nsIn K mainGlobals "NARROWEST" = some (some (.int 2 t_NARROWEST)))
    (mg_WIDEST : PySem.W.nsIn K mainGlobals "WIDEST" = some (some (.int 40 t_WIDEST)))
    (mg_LOWEST : PySem.W.nsIn K mainGlobals "LOWEST" = some (some (.int 1 t_LOWEST)))
    (mg_HIGHEST : PySem.W.nsIn K mainGlobals "HIGHEST" = some (some (.int 20 t_HIGHEST)))
    (mg_NAMES : PySem.W.nsIn K mainGlobals "NAMES" = some (some (.int 4 t_NAMES)))
    (mg_SESSIONS : PySem.W.nsIn K mainGlobals "SESSIONS" = some (some (.int 100000 t_SESSIONS)))
    (mg_MOST_PANES : PySem.W.nsIn K mainGlobals "MOST_PANES" = some (some (.int 3 t_MOST_PANES)))
    (mg_LETTER_SIGNS : PySem.W.nsIn K mainGlobals "LETTER_SIGNS" = some (some (.int 1000 t_LETTER_SIGNS)))
    (z_sorted : PySem.W.nsIn K mainGlobals "sorted" = some none)
    (z_ValueError : PySem.W.nsIn K mainGlobals "ValueError" = some none)
    : ∃ (cs : List (Addr × Addr)) (fd : FuncData), TabsIn K ["has_only_signs", "_law_is_last"] cs ∧ (∀ (s : Shared) (v : Value), BindsTo s fd ⟨[v], []⟩ [("_law_script", v)]) ∧ ∀ base : Heap, K.In base → base.Ns mainGlobals mg → (∀ p ∈ cs, LamX.TabB base mg p.1 p.2) → FnOk l.prog w K mg base CX0 9 fa fd ["_law_script"] (spLawC cs K) := by
  have e := hfa.symm.trans (PySem.W.mg_of X G a25)
  cases e
  have k1 := keep_of l1
  have FSum := fun_mk (st := sSum) l1 c1 k1
  have bSum := FSum.binds (ps := ["body"]) fun _ _ _ _ _ _ us hl => match us, hl with | [_], _ => rfl
  have mSum := PySem.W.mg_of X G a1
  have k2 := keep_of l2
  have FLet := fun_mk (st := sLet) l2 c2 k2
  have bLet := FLet.binds (ps := ["body"]) fun _ _ _ _ _ _ us hl => match us, hl with | [_], _ => rfl
  have mLet := PySem.W.mg_of X G a2
  have tabH : PySem.W.tabIn K "has_only_signs" = some (c0, T0) := tabIn_of a3 l3 rfl lc v11
  have k3 := keep_of l3
  have FHas := fun_mk (st := sHas) l3 c3 k3
  have bHas := FHas.binds (ps := ["body"]) fun _ _ _ _ _ _ us hl => match us, hl with | [_], _ => rfl
  have mHas := PySem.W.mg_of X G a3
  have k4 := keep_of l4
  have FIsN := fun_mk (st := sIsN) l4 c4 k4
  have bIsN := FIsN.binds (ps := ["number"]) fun _ _ _ _ _ _ us hl => match us, hl with | [_], _ => rfl
  have mIsN := PySem.W.mg_of X G a4
  have k5 := keep_of l5
  have FWit := fun_mk (st := sWit) l5 c5 k5
  have bWit := FWit.binds (ps := ["number", "least", "most"]) fun _ _ _ _ _ _ us hl => match us, hl with | [_, _, _], _ => rfl
  have mWit := PySem.W.mg_of X G a5
  have k6 := keep_of l6
  have FPac := fun_mk (st := sPac) l6 c6 k6
  have bPac := FPac.binds (ps := ["fields"]) fun _ _ _ _ _ _ us hl => match us, hl with | [_], _ => rfl
  have mPac := PySem.W.mg_of X G a6
  have k7 := keep_of l7
  have FUnp := fun_mk (st := sUnp) l7 c7 k7
  have bUnp := FUnp.binds (ps := ["text"]) fun _ _ _ _ _ _ us hl => match us, hl with | [_], _ => rfl
  have mUnp := PySem.W.mg_of X G a7
  have k8 := keep_of l8
  have FBeg := fun_mk (st := sBeg) l8 c8 k8
  have bBeg := FBeg.binds (ps := ["_law_script"]) fun _ _ _ _ _ _ us hl => match us, hl with | [_], _ => rfl
  have mBeg := PySem.W.mg_of X G a8
  have k9 := keep_of l9
  have FTak := fun_mk (st := sTak) l9 c9 k9
  have bTak := FTak.binds (ps := ["_law_box", "_law_many"]) fun _ _ _ _ _ _ us hl => match us, hl with | [_, _], _ => rfl
  have mTak := PySem.W.mg_of X G a9
  have k10 := keep_of l10
  have FAli := fun_mk (st := sAli) l10 c10 k10
  have bAli := FAli.binds (ps := ["_law_found", "_law_due"]) fun _ _ _ _ _ _ us hl => match us, hl with | [_, _], _ => rfl
  have mAli := PySem.W.mg_of X G a10
  have k11 := keep_of l11
  have FNum := fun_mk (st := sNum) l11 c11 k11
  have bNum := FNum.binds (ps := ["text", "most"]) fun _ _ _ _ _ _ us hl => match us, hl with | [_, _], _ => rfl
  have mNum := PySem.W.mg_of X G a11
  have k12 := keep_of l12
  have FWrp := fun_mk (st := sWrp) l12 c12 k12
  have bWrp := FWrp.binds (ps := ["signs"]) fun _ _ _ _ _ _ us hl => match us, hl with | [_], _ => rfl
  have mWrp := PySem.W.mg_of X G a12
  have k13 := keep_of l13
  have FJsz := fun_mk (st := sJsz) l13 c13 k13
  have bJsz := FJsz.binds (ps := ["line"]) fun _ _ _ _ _ _ us hl => match us, hl with | [_], _ => rfl
  have mJsz := PySem.W.mg_of X G a13
  have k14 := keep_of l14
  have FNms := fun_mk (st := sNms) l14 c14 k14
  have bNms := FNms.binds (ps := ["texts", "most"]) fun _ _ _ _ _ _ us hl => match us, hl with | [_, _], _ => rfl
  have mNms := PySem.W.mg_of X G a14
  have k15 := keep_of l15
  have FLle := fun_mk (st := sLle) l15 c15 k15
  have bLle := FLle.binds (ps := ["kind", "name", "session", "pane", "first", "signs"]) fun _ _ _ _ _ _ us hl => match us, hl with | [_, _, _, _, _, _], _ => rfl
  have mLle := PySem.W.mg_of X G a15
  have k16 := keep_of l16
  have FHle := fun_mk (st := sHle) l16 c16 k16
  have bHle := FHle.binds (ps := ["name", "session", "pane", "done", "changes", "line", "rows"]) fun _ _ _ _ _ _ us hl => match us, hl with | [_, _, _, _, _, _, _], _ => rfl
  have mHle := PySem.W.mg_of X G a16
  have k17 := keep_of l17
  have FRll := fun_mk (st := sRll) l17 c17 k17
  have bRll := FRll.binds (ps := ["text"]) fun _ _ _ _ _ _ us hl => match us, hl with | [_], _ => rfl
  have mRll := PySem.W.mg_of X G a17
  have k18 := keep_of l18
  have FRhl := fun_mk (st := sRhl) l18 c18 k18
  have bRhl := FRhl.binds (ps := ["text"]) fun _ _ _ _ _ _ us hl => match us, hl with | [_], _ => rfl
  have mRhl := PySem.W.mg_of X G a18
  have k19 := keep_of l19
  have FChk := fun_mk (st := sChk) l19 c19 k19
  have bChk := FChk.binds (ps := ["wide", "high"]) fun _ _ _ _ _ _ us hl => match us, hl with | [_, _], _ => rfl
  have mChk := PySem.W.mg_of X G a19
  have k20 := keep_of l20
  have FClk := fun_mk (st := sClk) l20 c20 k20
  have bClk := FClk.binds (ps := ["name", "session", "pane"]) fun _ _ _ _ _ _ us hl => match us, hl with | [_, _, _], _ => rfl
  have mClk := PySem.W.mg_of X G a20
  have k21 := keep_of l21
  have FTld := fun_mk (st := sTld) l21 c21 k21
  have bTld := FTld.binds (ps := ["_law_work"]) fun _ _ _ _ _ _ us hl => match us, hl with | [_], _ => rfl
  have mTld := PySem.W.mg_of X G a21
  have k22 := keep_of l22
  have FAll := fun_mk (st := sAll) l22 c22 k22
  have bAll := FAll.binds (ps := ["_law_works", "_law_due"]) fun _ _ _ _ _ _ us hl => match us, hl with | [_, _], _ => rfl
  have mAll := PySem.W.mg_of X G a22
  have k23 := keep_of l23
  have FAhr := fun_mk (st := sAhr) l23 c23 k23
  have bAhr := FAhr.binds (ps := ["_law_hall", "_law_looks", "_law_texts"]) fun _ _ _ _ _ _ us hl => match us, hl with | [_, _, _], _ => rfl
  have mAhr := PySem.W.mg_of X G a23
  have tabH1 : PySem.W.tabIn K "_law_is_last" = some (ca1, Ta1) := tabIn_of a24 l24 rfl lcT1 v11T1
  have lkIsl := l24
  have cdIsl := c24
  have k24 := keep_of l24
  have FIsl := fun_mk (st := sIsl) l24 c24 k24
  have bIsl := FIsl.binds (ps := ["_law_hall", "_law_looks", "_law_name"]) fun _ _ _ _ _ _ us hl => match us, hl with | [_, _, _], _ => rfl
  have mIsl := PySem.W.mg_of X G a24
  have k25 := keep_of l25
  have FL12 := fun_mk (st := sL12) l25 c25 k25
  have bL12 := FL12.binds (ps := ["_law_script"]) fun _ _ _ _ _ _ us hl => match us, hl with | [_], _ => rfl
  have mL12 := PySem.W.mg_of X G a25
  have cl_Pane : Cls K cP := ⟨pg_Pane, hd_Pane, po_Pane, sa_Pane⟩
  have mg_Pane := PySem.W.mg_of X G aC_Pane
  have k26 := keep_of l26
  have FPIn := fun_mk (st := sPIn) l26 c26 k26
  have bPIn := FPIn.binds (ps := ["self"]) fun _ _ _ _ _ _ us hl => match us, hl with | [_], _ => rfl
  have mPIn : Mk K cP f26 := ⟨mk_Pane, a26, i26, kc_Pane⟩
  have k27 := keep_of l27
  have FPPr := fun_mk (st := sPPr) l27 c27 k27
  have bPPr := FPPr.binds (ps := ["self", "look", "session", "sign"]) fun _ _ _ _ _ _ us hl => match us, hl with | [_, _, _, _], _ => rfl
  have mPPr : Meth K cP "press" f27 := ⟨a27, i27, k27⟩
  have k28 := keep_of l28
  have FPRo := fun_mk (st := sPRo) l28 c28 k28
  have bPRo := FPRo.binds (ps := ["self"]) fun _ _ _ _ _ _ us hl => match us, hl with | [_], _ => rfl
  have mPRo : Meth K cP "rows" f28 := ⟨a28, i28, k28⟩
  have k29 := keep_of l29
  have FPLi := fun_mk (st := sPLi) l29 c29 k29
  have bPLi := FPLi.binds (ps := ["self"]) fun _ _ _ _ _ _ us hl => match us, hl with | [_], _ => rfl
  have mPLi : Meth K cP "line" f29 := ⟨a29, i29, k29⟩
  have k30 := keep_of l30
  have FPCh := fun_mk (st := sPCh) l30 c30 k30
  have bPCh := FPCh.binds (ps := ["self"]) fun _ _ _ _ _ _ us hl => match us, hl with | [_], _ => rfl
  have mPCh : Meth K cP "changes" f30 := ⟨a30, i30, k30⟩
  have k31 := keep_of l31
  have FPTy := fun_mk (st := sPTy) l31 c31 k31
  have bPTy := FPTy.binds (ps := ["self"]) fun _ _ _ _ _ _ us hl => match us, hl with | [_], _ => rfl
  have mPTy : Meth K cP "typed" f31 := ⟨a31, i31, k31⟩
  have k32 := keep_of l32
  have FPDo := fun_mk (st := sPDo) l32 c32 k32
  have bPDo := FPDo.binds (ps := ["self"]) fun _ _ _ _ _ _ us hl => match us, hl with | [_], _ => rfl
  have mPDo : Meth K cP "_do_line" f32 := ⟨a32, i32, k32⟩
  have k33 := keep_of l33
  have FPAr := fun_mk (st := sPAr) l33 c33 k33
  have bPAr := FPAr.binds (ps := ["self", "row"]) fun _ _ _ _ _ _ us hl => match us, hl with | [_, _], _ => rfl
  have mPAr : Meth K cP "_add_row" f33 := ⟨a33, i33, k33⟩
  have k34 := keep_of l34
  have FPCl := fun_mk (st := sPCl) l34 c34 k34
  have bPCl := FPCl.binds (ps := ["self"]) fun _ _ _ _ _ _ us hl => match us, hl with | [_], _ => rfl
  have mPCl : Meth K cP "_clear_rows" f34 := ⟨a34, i34, k34⟩
  have k35 := keep_of l35
  have FPSl := fun_mk (st := sPSl) l35 c35 k35
  have bPSl := FPSl.binds (ps := ["self", "line"]) fun _ _ _ _ _ _ us hl => match us, hl with | [_, _], _ => rfl
  have mPSl : Meth K cP "_set_line" f35 := ⟨a35, i35, k35⟩
  have k36 := keep_of l36
  have FPAc := fun_mk (st := sPAc) l36 c36 k36
  have bPAc := FPAc.binds (ps := ["self", "kind", "text"]) fun _ _ _ _ _ _ us hl => match us, hl with | [_, _, _], _ => rfl
  have mPAc : Meth K cP "_add_change" f36 := ⟨a36, i36, k36⟩
  have cl_Seat : Cls K cS := ⟨pg_Seat, hd_Seat, po_Seat, sa_Seat⟩
  have mg_Seat := PySem.W.mg_of X G aC_Seat
  have k37 := keep_of l37
  have FSIn := fun_mk (st := sSIn) l37 c37 k37
  have bSIn := FSIn.binds (ps := ["self", "session", "pane"]) fun _ _ _ _ _ _ us hl => match us, hl with | [_, _, _], _ => rfl
  have mSIn : Mk K cS f37 := ⟨mk_Seat, a37, i37, kc_Seat⟩
  have cl_Hall : Cls K cH := ⟨pg_Hall, hd_Hall, po_Hall, sa_Hall⟩
  have mg_Hall := PySem.W.mg_of X G aC_Hall
  have k38 := keep_of l38
  have FHIn := fun_mk (st := sHIn) l38 c38 k38
  have bHIn := FHIn.binds (ps := ["self", "many"]) fun _ _ _ _ _ _ us hl => match us, hl with | [_, _], _ => rfl
  have mHIn : Mk K cH f38 := ⟨mk_Hall, a38, i38, kc_Hall⟩
  have k39 := keep_of l39
  have FHHe := fun_mk (st := sHHe) l39 c39 k39
  have bHHe := FHHe.binds (ps := ["self", "text"]) fun _ _ _ _ _ _ us hl => match us, hl with | [_, _], _ => rfl
  have mHHe : Meth K cH "hear" f39 := ⟨a39, i39, k39⟩
  have k40 := keep_of l40
  have FHLt := fun_mk (st := sHLt) l40 c40 k40
  have bHLt := FHLt.binds (ps := ["self"]) fun _ _ _ _ _ _ us hl => match us, hl with | [_], _ => rfl
  have mHLt : Meth K cH "letters" f40 := ⟨a40, i40, k40⟩
  have k41 := keep_of l41
  have FHLo := fun_mk (st := sHLo) l41 c41 k41
  have bHLo := FHLo.binds (ps := ["self"]) fun _ _ _ _ _ _ us hl => match us, hl with | [_], _ => rfl
  have mHLo : Meth K cH "looks" f41 := ⟨a41, i41, k41⟩
  have k42 := keep_of l42
  have FHNa := fun_mk (st := sHNa) l42 c42 k42
  have bHNa := FHNa.binds (ps := ["self"]) fun _ _ _ _ _ _ us hl => match us, hl with | [_], _ => rfl
  have mHNa : Meth K cH "_names" f42 := ⟨a42, i42, k42⟩
  have k43 := keep_of l43
  have FHSe := fun_mk (st := sHSe) l43 c43 k43
  have bHSe := FHSe.binds (ps := ["self", "name", "session", "pane"]) fun _ _ _ _ _ _ us hl => match us, hl with | [_, _, _, _], _ => rfl
  have mHSe : Meth K cH "_seat" f43 := ⟨a43, i43, k43⟩
  have k44 := keep_of l44
  have FHDo := fun_mk (st := sHDo) l44 c44 k44
  have bHDo := FHDo.binds (ps := ["self", "name", "seat", "first", "signs"]) fun _ _ _ _ _ _ us hl => match us, hl with | [_, _, _, _, _], _ => rfl
  have mHDo : Meth K cH "_do_signs" f44 := ⟨a44, i44, k44⟩
  have k45 := keep_of l45
  have FHLr := fun_mk (st := sHLr) l45 c45 k45
  have bHLr := FHLr.binds (ps := ["self", "name", "seat"]) fun _ _ _ _ _ _ us hl => match us, hl with | [_, _, _], _ => rfl
  have mHLr : Meth K cH "_letter" f45 := ⟨a45, i45, k45⟩
  have k46 := keep_of l46
  have FHTy := fun_mk (st := sHTy) l46 c46 k46
  have bHTy := FHTy.binds (ps := ["self", "pane"]) fun _ _ _ _ _ _ us hl => match us, hl with | [_, _], _ => rfl
  have mHTy : Meth K cH "typed" f46 := ⟨a46, i46, k46⟩
  have cl_Look : Cls K cK := ⟨pg_Look, hd_Look, po_Look, sa_Look⟩
  have mg_Look := PySem.W.mg_of X G aC_Look
  have k47 := keep_of l47
  have FKIn := fun_mk (st := sKIn) l47 c47 k47
  have bKIn := FKIn.binds (ps := ["self", "name", "session", "pane", "wide", "high"]) fun _ _ _ _ _ _ us hl => match us, hl with | [_, _, _, _, _, _], _ => rfl
  have mKIn : Mk K cK f47 := ⟨mk_Look, a47, i47, kc_Look⟩
  have k48 := keep_of l48
  have FKLt := fun_mk (st := sKLt) l48 c48 k48
  have bKLt := FKLt.binds (ps := ["self"]) fun _ _ _ _ _ _ us hl => match us, hl with | [_], _ => rfl
  have mKLt : Meth K cK "letters" f48 := ⟨a48, i48, k48⟩
  have k49 := keep_of l49
  have FKLr := fun_mk (st := sKLr) l49 c49 k49
  have bKLr := FKLr.binds (ps := ["self", "kind", "first", "signs"]) fun _ _ _ _ _ _ us hl => match us, hl with | [_, _, _, _], _ => rfl
  have mKLr : Meth K cK "_letter" f49 := ⟨a49, i49, k49⟩
  have k50 := keep_of l50
  have FKPx := fun_mk (st := sKPx) l50 c50 k50
  have bKPx := FKPx.binds (ps := ["self", "signs"]) fun _ _ _ _ _ _ us hl => match us, hl with | [_, _], _ => rfl
  have mKPx : Meth K cK "press" f50 := ⟨a50, i50, k50⟩
  have k51 := keep_of l51
  have FKHe := fun_mk (st := sKHe) l51 c51 k51
  have bKHe := FKHe.binds (ps := ["self", "text"]) fun _ _ _ _ _ _ us hl => match us, hl with | [_, _], _ => rfl
  have mKHe : Meth K cK "hear" f51 := ⟨a51, i51, k51⟩
  have k52 := keep_of l52
  have FKWa := fun_mk (st := sKWa) l52 c52 k52
  have bKWa := FKWa.binds (ps := ["self"]) fun _ _ _ _ _ _ us hl => match us, hl with | [_], _ => rfl
  have mKWa : Meth K cK "waiting" f52 := ⟨a52, i52, k52⟩
  have k53 := keep_of l53
  have FKOv := fun_mk (st := sKOv) l53 c53 k53
  have bKOv := FKOv.binds (ps := ["self"]) fun _ _ _ _ _ _ us hl => match us, hl with | [_], _ => rfl
  have mKOv : Meth K cK "over" f53 := ⟨a53, i53, k53⟩
  have k54 := keep_of l54
  have FKHd := fun_mk (st := sKHd) l54 c54 k54
  have bKHd := FKHd.binds (ps := ["self", "done"]) fun _ _ _ _ _ _ us hl => match us, hl with | [_, _], _ => rfl
  have mKHd : Meth K cK "_hear_done" f54 := ⟨a54, i54, k54⟩
  have k55 := keep_of l55
  have FKHp := fun_mk (st := sKHp) l55 c55 k55
  have bKHp := FKHp.binds (ps := ["self", "changes", "line", "rows"]) fun _ _ _ _ _ _ us hl => match us, hl with | [_, _, _, _], _ => rfl
  have mKHp : Meth K cK "_hear_pane" f55 := ⟨a55, i55, k55⟩
  have TBnd_ : TBnd mg := ⟨PySem.W.mg_none_of X G z_isinstance, PySem.W.mg_none_of X G z_bool⟩
  have TBeg_ : TBeg mg := ⟨PySem.W.mg_none_of X G z_list, PySem.W.mg_none_of X G z_int, PySem.W.mg_none_of X G z_len⟩
  have TAli_ : TAli mg := ⟨PySem.W.mg_none_of X G z_bool, PySem.W.mg_none_of X G z_int, PySem.W.mg_none_of X G z_str, PySem.W.mg_none_of X G z_list, PySem.W.mg_none_of X G z_tuple, PySem.W.mg_none_of X G z_isinstance, PySem.W.mg_none_of X G z_len, PySem.W.mg_none_of X G z_range⟩
  have TFig_ : TFig mg := ⟨PySem.W.mg_none_of X G z_enumerate, ⟨_, PySem.W.mg_of X G mg_KEYS⟩, PySem.W.mg_none_of X G z_len, PySem.W.mg_none_of X G z_int⟩
  have TPn_ : TPn mg := ⟨PySem.W.mg_none_of X G z_len, PySem.W.mg_none_of X G z_int, PySem.W.mg_none_of X G z_list, ⟨_, PySem.W.mg_of X G mg_SAY⟩, ⟨_, PySem.W.mg_of X G mg_MANY⟩, ⟨_, PySem.W.mg_of X G mg_LINE_SIGNS⟩, ⟨_, PySem.W.mg_of X G mg_ROWS_KEPT⟩, ⟨_, PySem.W.mg_of X G mg_TYPED_KEPT⟩, ⟨_, PySem.W.mg_of X G mg_CHANGES_KEPT⟩⟩
  have TLet_ : TLet mg := ⟨PySem.W.mg_none_of X G z_len, PySem.W.mg_none_of X G z_all, ⟨_, PySem.W.mg_of X G mg_SIGNS⟩, ⟨_, PySem.W.mg_of X G mg_BETWEEN⟩, ⟨_, PySem.W.mg_of X G mg_SUM_TIMES⟩, ⟨_, PySem.W.mg_of X G mg_SUM_REST⟩⟩
  have TMai_ : TMai mg := ⟨PySem.W.mg_none_of X G z_len, PySem.W.mg_none_of X G z_str, ⟨_, PySem.W.mg_of X G mg_TYPED⟩, ⟨_, PySem.W.mg_of X G mg_LEFT⟩, ⟨_, PySem.W.mg_of X G mg_SHOWN⟩, ⟨_, PySem.W.mg_of X G mg_FIGURES⟩⟩
  have TPic_ : TPic mg := ⟨PySem.W.mg_none_of X G z_len, PySem.W.mg_none_of X G z_max, PySem.W.mg_none_of X G z_range, ⟨_, PySem.W.mg_of X G mg_NARROWEST⟩, ⟨_, PySem.W.mg_of X G mg_WIDEST⟩, ⟨_, PySem.W.mg_of X G mg_LOWEST⟩, ⟨_, PySem.W.mg_of X G mg_HIGHEST⟩⟩
  have TLok_ : TLok mg := ⟨⟨_, PySem.W.mg_of X G mg_NAMES⟩, ⟨_, PySem.W.mg_of X G mg_SESSIONS⟩, ⟨_, PySem.W.mg_of X G mg_MOST_PANES⟩⟩
  have TLok2_ : TLok2 mg := ⟨PySem.W.mg_none_of X G z_len, PySem.W.mg_none_of X G z_max, PySem.W.mg_none_of X G z_range, ⟨_, PySem.W.mg_of X G mg_LETTER_SIGNS⟩, ⟨_, PySem.W.mg_of X G mg_TYPED⟩, ⟨_, PySem.W.mg_of X G mg_LEFT⟩⟩
  have THal_ : THal mg := ⟨PySem.W.mg_none_of X G z_range, ⟨_, PySem.W.mg_of X G mg_MOST_PANES⟩⟩
  have TLaw_ : TLaw mg := ⟨PySem.W.mg_none_of X G z_sorted, PySem.W.mg_none_of X G z_len, PySem.W.mg_none_of X G z_range, PySem.W.mg_none_of X G z_isinstance, PySem.W.mg_none_of X G z_ValueError⟩
  refine ⟨[(c0, T0), (ca1, Ta1)], PySem.W.fnOf "law" "law" (defArgs sL12) (defBody sL12) (defScope sL12) .none kV25 dc25 pm25 an25 cd25 ct25, ⟨⟨tabH, noT⟩, ⟨tabH1, noT1⟩, trivial⟩, fun s v => ?_, fun base _ _ tabB => ?_⟩
  case refine_2 =>
    have tab : TabB base mg c0 T0 := let z := tabB (c0, T0) (by simp); ⟨z.code, z.bm, z.gP⟩
    have tabB1 : LamX.TabB base mg ca1 Ta1 := tabB (ca1, Ta1) (by simp)
    have cIsN : Cal l.prog w K mg base "is_number" 1 _ spIsN := ⟨⟨_, _, ok_isn FIsN TBnd_, mIsN, FIsN.kp, bIsN⟩⟩
    have cWit : Cal l.prog w K mg base "is_within" 2 _ spWit := ⟨⟨_, _, ok_wit FWit TBnd_ ⟨cIsN⟩, mWit, FWit.kp, bWit⟩⟩
    have cBeg : Cal l.prog w K mg base "_law_begun" 1 _ (spBeg K) := ⟨⟨_, _, ok_begun FBeg TBeg_, mBeg, FBeg.kp, bBeg⟩⟩
    have cTak : Cal l.prog w K mg base "_law_take" 1 _ spTak := ⟨⟨_, _, ok_take2 FTak, mTak, FTak.kp, bTak⟩⟩
    have cSum : Cal l.prog w K mg base "sum_of" 1 _ spSum := ⟨⟨_, _, ok_sum FSum TLet_, mSum, FSum.kp, bSum⟩⟩
    have cLet : Cal l.prog w K mg base "letter_of" 2 _ spLet := ⟨⟨_, _, ok_let FLet TLet_ ⟨cSum⟩, mLet, FLet.kp, bLet⟩⟩
    have cHas : Cal l.prog w K mg base "has_only_signs" 1 _ (spHas T0) := ⟨⟨_, _, ok_has l3 c3 tab TLet_, mHas, FHas.kp, bHas⟩⟩
    have cPac : Cal l.prog w K mg base "packed" 3 _ (spPac T0 K) := ⟨⟨_, _, ok_pac FPac TLet_ ⟨cLet, cHas⟩, mPac, FPac.kp, bPac⟩⟩
    have cUnp : Cal l.prog w K mg base "unpacked" 3 _ (spUnp T0) := ⟨⟨_, _, ok_unp FUnp TLet_ ⟨cLet, cHas⟩, mUnp, FUnp.kp, bUnp⟩⟩
    have TP : TPan K mg cP := ⟨TPn_, cl_Pane, nf_Pane_rows, nf_Pane_line, nf_Pane_job, nf_Pane_typed, nf_Pane_changes, nf_Pane_latest⟩
    have cNum : Cal l.prog w K mg base "number_of" 1 _ spNum := ⟨⟨_, _, ok_num FNum TFig_, mNum, FNum.kp, bNum⟩⟩
    have cWrp : Cal l.prog w K mg base "wrong_place" 1 _ spWrp := ⟨⟨_, _, ok_wrp FWrp TFig_, mWrp, FWrp.kp, bWrp⟩⟩
    have cJsz : Cal l.prog w K mg base "job_size" 2 _ spJsz := ⟨⟨_, _, ok_jsz FJsz TPn_ ⟨cNum⟩, mJsz, FJsz.kp, bJsz⟩⟩
    have nPane : NCal l.prog w K mg base cP "Pane" 1 _ (spIn cP) := ⟨⟨_, _, ok_in FPIn TP, mPIn, mg_Pane, bPIn⟩⟩
    have cAc : MCal l.prog w K mg base cP "_add_change" 1 _ (spAc cP) := ⟨⟨_, _, ok_ac FPAc TP, mPAc, bPAc⟩⟩
    have cAr : MCal l.prog w K mg base cP "_add_row" 2 _ (spAr cP) := ⟨⟨_, _, ok_ar FPAr TP ⟨cAc⟩, mPAr, bPAr⟩⟩
    have cCl : MCal l.prog w K mg base cP "_clear_rows" 2 _ (spCl cP) := ⟨⟨_, _, ok_cl FPCl TP ⟨cAc⟩, mPCl, bPCl⟩⟩
    have cSl : MCal l.prog w K mg base cP "_set_line" 2 _ (spSl cP) := ⟨⟨_, _, ok_sl FPSl TP ⟨cAc⟩, mPSl, bPSl⟩⟩
    have cDo : MCal l.prog w K mg base cP "_do_line" 3 _ (spDo cP) := ⟨⟨_, _, ok_do FPDo TP ⟨cJsz, cAr, cSl, cCl⟩, mPDo, bPDo⟩⟩
    have cPr : MCal l.prog w K mg base cP "press" 4 _ (spPr cP) := ⟨⟨_, _, ok_pr FPPr TP ⟨cDo, cSl, cWrp⟩, mPPr, bPPr⟩⟩
    have cRo : MCal l.prog w K mg base cP "rows" 1 _ (spRo cP) := ⟨⟨_, _, ok_ro FPRo TP, mPRo, bPRo⟩⟩
    have cLi : MCal l.prog w K mg base cP "line" 1 _ (spLi cP) := ⟨⟨_, _, ok_li FPLi TP, mPLi, bPLi⟩⟩
    have cCh : MCal l.prog w K mg base cP "changes" 1 _ (spCh cP) := ⟨⟨_, _, ok_ch FPCh TP, mPCh, bPCh⟩⟩
    have cTy : MCal l.prog w K mg base cP "typed" 1 _ (spTy cP) := ⟨⟨_, _, ok_ty FPTy TP, mPTy, bPTy⟩⟩
    have cNms : Cal l.prog w K mg base "numbers_of" 2 _ (spNms K) := ⟨⟨_, _, ok_nms FNms ⟨cNum⟩, mNms, FNms.kp, bNms⟩⟩
    have cLle : Cal l.prog w K mg base "look_letter" 4 _ (spLle T0) := ⟨⟨_, _, ok_lle FLle TMai_ ⟨cPac⟩, mLle, FLle.kp, bLle⟩⟩
    have cHle : Cal l.prog w K mg base "hall_letter" 4 _ (spHle T0 K) := ⟨⟨_, _, ok_hle FHle TMai_ ⟨cPac⟩, mHle, FHle.kp, bHle⟩⟩
    have cRll : Cal l.prog w K mg base "read_look_letter" 4 _ (spRll T0) := ⟨⟨_, _, ok_rll FRll TMai_ ⟨cUnp, cNms⟩, mRll, FRll.kp, bRll⟩⟩
    have cRhl : Cal l.prog w K mg base "read_hall_letter" 4 _ (spRhl T0) := ⟨⟨_, _, ok_rhl FRhl TMai_ ⟨cUnp, cNms⟩, mRhl, FRhl.kp, bRhl⟩⟩
    have TN : TNoL K mg cN := ⟨xa_, PySem.W.mg_of X G aN_, xk_, xb_, xt_⟩
    have TT : TTld K mg cHE cN x1 x2 x3 x4 x5 x6 := ⟨TLaw_.z_isinstance, TLaw_.z_ValueError, PySem.W.mg_of X G aH_, PySem.W.mg_of X G aN_, PySem.W.mg_of X G aB1_, PySem.W.mg_of X G aB2_, PySem.W.mg_of X G aB3_, PySem.W.mg_of X G aB4_, PySem.W.mg_of X G aB5_, PySem.W.mg_of X G aB6_, ⟨xg_, xh_, xb_, xd_, xc_, xs_, xe_, xm_⟩, ⟨xg_, xh_, xb_, xd_⟩, xp_, xr_, kitH, kit0, kit1, kit2, kit3, kit4, kit5, kit6, kitV⟩
    have z_sorted_ := TLaw_.z_sorted
    have cAli : Cal l.prog w K mg base "_law_alike" 5 _ (spAli K 4) := ⟨⟨_, _, ok_alike FAli TAli_ mAli bAli 4, mAli, FAli.kp, bAli⟩⟩
    have NS : ClsN K cS SKK := ⟨cl_Seat, ⟨nf_Seatsession, nf_Seatpane, nf_Seatdone, nf_Seatleft, trivial⟩⟩
    have NH : ClsN K cH HKK := ⟨cl_Hall, ⟨nf_Hall_panes, nf_Hall_seats, trivial⟩⟩
    have nSeat : NCal l.prog w K mg base cS "Seat" 1 _ (spSIn cS) := ⟨⟨_, _, ok_sin FSIn NS, mSIn, mg_Seat, bSIn⟩⟩
    have nHall : NCal l.prog w K mg base cH "Hall" 3 _ (spHIn ⟨cP, cS, cH⟩) := ⟨⟨_, _, ok_hin (cs := ⟨cP, cS, cH⟩) FHIn THal_ NH ⟨nPane, cWit⟩, mHIn, mg_Hall, bHIn⟩⟩
    have cSe : MCal l.prog w K mg base cH "_seat" 3 _ (spHSe ⟨cP, cS, cH⟩) := ⟨⟨_, _, ok_hse (cs := ⟨cP, cS, cH⟩) FHSe ⟨TMai_.z_len, NH, NS⟩ ⟨nSeat⟩, mHSe, bHSe⟩⟩
    have cSg : MCal l.prog w K mg base cH "_do_signs" 5 _ (spHDo ⟨cP, cS, cH⟩) := ⟨⟨_, _, ok_hdo (cs := ⟨cP, cS, cH⟩) FHDo ⟨TMai_.mg_LEFT, NH, NS, cl_Pane⟩ ⟨cPr⟩, mHDo, bHDo⟩⟩
    have cHe : MCal l.prog w K mg base cH "hear" 6 _ (spHHe T0 ⟨cP, cS, cH⟩) := ⟨⟨_, _, ok_hhe (cs := ⟨cP, cS, cH⟩) FHHe ⟨TMai_.mg_LEFT, cl_Hall, NH, NS⟩ ⟨cRll, cSe, cSg⟩, mHHe, bHHe⟩⟩
    have cNa : MCal l.prog w K mg base cH "_names" 1 _ (spHNa ⟨cP, cS, cH⟩) := ⟨⟨_, _, ok_hna (cs := ⟨cP, cS, cH⟩) FHNa ⟨z_sorted_, NH, NS, cl_Hall⟩, mHNa, bHNa⟩⟩
    have cLo : MCal l.prog w K mg base cH "looks" 2 _ (spHLo ⟨cP, cS, cH⟩) := ⟨⟨_, _, ok_hlo (cs := ⟨cP, cS, cH⟩) FHLo ⟨z_sorted_, NH, NS, cl_Hall⟩ ⟨cNa⟩, mHLo, bHLo⟩⟩
    have cHl : MCal l.prog w K mg base cH "_letter" 5 _ (spHLr T0 ⟨cP, cS, cH⟩) := ⟨⟨_, _, ok_hlr (cs := ⟨cP, cS, cH⟩) FHLr ⟨NH, NS, cl_Pane⟩ ⟨cHle, cCh, cLi, cRo⟩, mHLr, bHLr⟩⟩
    have cHt : MCal l.prog w K mg base cH "letters" 6 _ (spHLt T0 ⟨cP, cS, cH⟩) := ⟨⟨_, _, ok_hlt (cs := ⟨cP, cS, cH⟩) FHLt ⟨z_sorted_, NH, NS, cl_Hall⟩ ⟨cNa, cHl⟩, mHLt, bHLt⟩⟩
    have TH6 : THal6 K ⟨cP, cS, cH⟩ := ⟨NH, NS, cl_Pane⟩
    have cHty : MCal l.prog w K mg base cH "typed" 3 _ (spHTy ⟨cP, cS, cH⟩) := ⟨⟨_, _, ok_hty (cs := ⟨cP, cS, cH⟩) FHTy ⟨TH6, TMai_.z_len⟩ ⟨cWit, cTy⟩, mHTy, bHTy⟩⟩
    have NK : ClsN K cK LKK := ⟨cl_Look, ⟨nf_Lookname, nf_Looksession, nf_Lookpane, nf_Look_wide, nf_Look_high, nf_Look_done, nf_Look_signs, nf_Look_known, nf_Look_rows, nf_Look_line, nf_Look_left, nf_Look_over, trivial⟩⟩
    have TK : TLk K mg cK := ⟨TLok2_, NK⟩
    have cChk : Cal l.prog w K mg base "check_size" 3 _ spChk := ⟨⟨_, _, ok_chk FChk TPic_ ⟨cWit⟩, mChk, FChk.kp, bChk⟩⟩
    have cClk : Cal l.prog w K mg base "check_look" 3 _ spClk := ⟨⟨_, _, ok_clk FClk TLok_ ⟨cWit⟩, mClk, FClk.kp, bClk⟩⟩
    have nLook : NCal l.prog w K mg base cK "Look" 4 _ (spKIn cK) := ⟨⟨_, _, ok_kin FKIn NK ⟨cClk, cChk⟩, mKIn, mg_Look, bKIn⟩⟩
    have cKr : MCal l.prog w K mg base cK "_letter" 5 _ (spKLr T0 cK) := ⟨⟨_, _, ok_klr FKLr TK ⟨cLle⟩, mKLr, bKLr⟩⟩
    have cKt : MCal l.prog w K mg base cK "letters" 6 _ (spKLt T0 cK) := ⟨⟨_, _, ok_klt FKLt TK ⟨cKr⟩, mKLt, bKLt⟩⟩
    have cKhd : MCal l.prog w K mg base cK "_hear_done" 1 _ (spKHd cK) := ⟨⟨_, _, ok_khd FKHd NK, mKHd, bKHd⟩⟩
    have cKhp : MCal l.prog w K mg base cK "_hear_pane" 1 _ (spKHp cK) := ⟨⟨_, _, ok_khp FKHp NK, mKHp, bKHp⟩⟩
    have cKhe : MCal l.prog w K mg base cK "hear" 5 _ (spKHe T0 cK) := ⟨⟨_, _, ok_khe FKHe NK ⟨cRhl, cKhd, cKhp⟩, mKHe, bKHe⟩⟩
    have cKwa : MCal l.prog w K mg base cK "waiting" 1 _ (spKWa cK) := ⟨⟨_, _, ok_kwa FKWa TK, mKWa, bKWa⟩⟩
    have cKov : MCal l.prog w K mg base cK "over" 1 _ (spKOv cK) := ⟨⟨_, _, ok_kov FKOv NK, mKOv, bKOv⟩⟩
    have cKpx : MCalX l.prog w K mg base cK "press" 2 _ (spKPx cK cN) := ⟨⟨_, _, ok_kpx FKPx NK TN ⟨cWrp⟩, mKPx, bKPx⟩⟩
    have cKpr : MCal l.prog w K mg base cK "press" 2 _ (spKPr cK) := ⟨⟨_, _, ok_kpr FKPx NK ⟨cWrp⟩, mKPx, bKPx⟩⟩
    have cTld : Cal l.prog w K mg base "_law_told" 5 _ (spTldV l.prog w K mg base cN 4) := ⟨⟨_, _, ok_toldV (k := 4) FTld TT, mTld, FTld.kp, bTld⟩⟩
    have cAll : Cal l.prog w K mg base "_law_all" 6 _ (spAllV l.prog w K mg base cN 4) := ⟨⟨_, _, ok_all (k := 4) (by decide) FAll ⟨cTld, cAli⟩, mAll, FAll.kp, bAll⟩⟩
    have cAhr : Cal l.prog w K mg base "_law_all_hear" 7 _ (spAhr T0 ⟨⟨cP, cS, cH⟩, cK, cK⟩) := ⟨⟨_, _, ok_ahr (cs := ⟨⟨cP, cS, cH⟩, cK, cK⟩) FAhr ⟨cl_Hall, cl_Look⟩ ⟨cHe, cHt, cKhe⟩, mAhr, FAhr.kp, bAhr⟩⟩
    have cIsl : Cal l.prog w K mg base "_law_is_last" 8 _ (spIsl T0 Ta1 ⟨⟨cP, cS, cH⟩, cK, cK⟩) := ⟨⟨_, _, ok_isl (cs := ⟨⟨cP, cS, cH⟩, cK, cK⟩) lkIsl cdIsl tabB1 ⟨TLaw_.z_range, cl_Hall, cl_Look⟩ ⟨cAhr, cAll, cKt, cKov, cKwa, cKpx, cHty, cLo⟩, mIsl, FIsl.kp, bIsl⟩⟩
    exact ok_law (cs := ⟨⟨cP, cS, cH⟩, cK, cK⟩) FL12 neT1 ⟨TLaw_, cl_Hall, cl_Look⟩ ⟨cBeg, cTak, cAhr, cIsl, nHall, nLook, cKt, cKpr, cHty⟩
  case refine_1 => exact .of_eq rfl
end Vf
namespace Vf
open PySem PySem.W PyProof.Rows PySem.Calls HandSHeadRun
abbrev Rw : OpenRow := OpenLaw.row PySem.Challenge.rw_attachhall_k12_sessions_of_one_name
abbrev qv : Program := view Rw.prog [23, 71, 72]
def lo0 : List PySem.Str := ["_wall", "is_number", "is_within", "HallError", "BadSize", "BadSign", "BadFields", "BadLook", "BadCount", "NoLook", "BadText", "number_of", "numbers_of", "BETWEEN", "SIGNS"]
def lo1 : List PySem.Str := ["SUM_TIMES", "SUM_REST", "sum_of", "letter_of", "packed", "unpacked", "TYPED", "LEFT", "SHOWN", "FIGURES", "look_letter", "read_look_letter", "hall_letter", "read_hall_letter", "MOST_PANES"]
def lo2 : List PySem.Str := ["KEYS", "LINE_SIGNS", "ROWS_KEPT", "TYPED_KEPT", "CHANGES_KEPT", "SAY", "MANY", "wrong_place", "job_size", "Pane", "NARROWEST", "WIDEST", "LOWEST", "HIGHEST", "check_size"]
def lo3 : List PySem.Str := ["cut", "view", "NAMES", "SESSIONS", "LETTER_SIGNS", "check_look", "Look", "Seat", "Hall", "_law_begun", "_law_take", "_law_alike", "_law_told", "_law_all", "_law_all_hear"]
def los : List PySem.Str := lo0 ++ lo1 ++ lo2 ++ lo3
theorem run1 (w : World) (os : OsState) : (endF (stepQ (denQ tabQ) Rw.prog w) 20000 Rw.prog w os).map (fun s => looksF Rw.prog (boot_heap w.params) s.abs) = some true := by kernel_rfl
theorem run2 (w : World) (os : OsState) : (endF (stepQ (denQ tabQ) Rw.prog w) 20000 Rw.prog w os).map (fun s => seenQ qv los (importedModules Rw.prog.main.body) (fun s => xlAt qv [] s && recOk Rw.toRowW.records s) s.abs) = some (openGood qv los) := by kernel_rfl
end Vf
open PySem PySem.W PyProof.Rows in
local macro_rules | `(tactic| o_head ($_ $k $a $e)) => `(tactic| refine Vf.head_three (r := OpenLaw.row PySem.Challenge.rw_attachhall_k12_sessions_of_one_name) (q := Vf.qv) (K := $k) (as := $a) (ek := $e) 20000 (loose := Vf.los) (d := HandSHeadRun.topDef (OpenLaw.row PySem.Challenge.rw_attachhall_k12_sessions_of_one_name).prog 72) (kwd := [])
  (by kernel_rfl) (fun s => by kernel_rfl) Vf.run1 Vf.run2 (by intro w os; kernel_rfl) (by kernel_rfl) (by kernel_rfl) (by kernel_rfl) (by rfl) (by first | assumption | decide +kernel) (by decide +kernel) ⟨rfl, rfl, rfl, rfl, rfl, by decide +kernel⟩ ?hw ?hc)
open PySem PySem.W PyProof.Rows in
local macro_rules | `(tactic| o_head ($_ $k $a $e $_)) => `(tactic| refine Vf.head_three (r := OpenLaw.row PySem.Challenge.rw_attachhall_k12_sessions_of_one_name) (q := Vf.qv) (K := $k) (as := $a) (ek := $e) 20000 (loose := Vf.los) (d := HandSHeadRun.topDef (OpenLaw.row PySem.Challenge.rw_attachhall_k12_sessions_of_one_name).prog 72) (kwd := [])
  (by kernel_rfl) (fun s => by kernel_rfl) Vf.run1 Vf.run2 (by intro w os; kernel_rfl) (by kernel_rfl) (by kernel_rfl) (by kernel_rfl) (by rfl) (by first | assumption | decide +kernel) (by decide +kernel) ⟨rfl, rfl, rfl, rfl, rfl, by decide +kernel⟩ ?hw ?hc)
open PySem PySem.W PyProof.Rows in
set_option maxRecDepth 100000 in
set_option maxHeartbeats 0 in
theorem PySem.Challenge.cw_attachhall_k12_sessions_of_one_name_holds : PySem.Challenge.rw_attachhall_k12_sessions_of_one_name.Holds := by
  w_on; o_law; k_head; (case hw => w_witness2)
  k_fill
  refine Vf.walk_tabs (l := PySem.Challenge.rw_attachhall_k12_sessions_of_one_name) (n := 63) (k := 9) (x := "_law_script") (ys := [("has_only_signs", HandSHeadRun.topDef (OpenLaw.row PySem.Challenge.rw_attachhall_k12_sessions_of_one_name).prog 23), ("_law_is_last", HandSHeadRun.topDef (OpenLaw.row PySem.Challenge.rw_attachhall_k12_sessions_of_one_name).prog 71)]) (sp := fun cs K => Vf.spLawC cs K) rfl (by decide) (by kernel_rfl) ⟨rfl, by decide, by decide⟩ (by repeat (first | exact trivial | refine ⟨by kernel_rfl, ?_⟩)) (fun w h Y => PySem.W.kIn_of Y) ?F (fun cs K H a ns hl hlen hT hS => Vf.spLawC_ok hl hlen hT hS)
  case F =>
    intro w mg fa h KX G hmg0
    have hmg : mg ("law" : PySem.Str) = some (.ref fa) := by
      have e : (HandSHeadRun.topDef (OpenLaw.row PySem.Challenge.rw_attachhall_k12_sessions_of_one_name).prog 72).name = ("law" : PySem.Str) := by kernel_rfl
      rw [← e]
      exact hmg0
    refine' Vf.all_mk KX G hmg ?a1 ?l1 ?c1 ?a2 ?l2 ?c2 ?a3 ?l3 ?c3 ?lc ?v11 ?noT ?a4 ?l4 ?c4 ?a5 ?l5 ?c5 ?a6 ?l6 ?c6 ?a7 ?l7 ?c7 ?a8 ?l8 ?c8 ?a9 ?l9 ?c9 ?a10 ?l10 ?c10 ?a11 ?l11 ?c11 ?a12 ?l12 ?c12 ?a13 ?l13 ?c13 ?a14 ?l14 ?c14 ?a15 ?l15 ?c15 ?a16 ?l16 ?c16 ?a17 ?l17 ?c17 ?a18 ?l18 ?c18 ?a19 ?l19 ?c19 ?a20 ?l20 ?c20 ?a21 ?l21 ?c21 ?a22 ?l22 ?c22 ?a23 ?l23 ?c23 ?a24 ?l24 ?c24 ?lcT1 ?v11T1 ?noT1 ?a25 ?l25 ?c25 ?aC_Pane ?pg_Pane ?hd_Pane ?po_Pane ?sa_Pane ?mk_Pane ?kc_Pane ?nf_Pane_rows ?nf_Pane_line ?nf_Pane_job ?nf_Pane_typed ?nf_Pane_changes ?nf_Pane_latest ?a26 ?i26 ?l26 ?c26 ?a27 ?i27 ?l27 ?c27 ?a28 ?i28 ?l28 ?c28 ?a29 ?i29 ?l29 ?c29 ?a30 ?i30 ?l30 ?c30 ?a31 ?i31 ?l31 ?c31 ?a32 ?i32 ?l32 ?c32 ?a33 ?i33 ?l33 ?c33 ?a34 ?i34 ?l34 ?c34 ?a35 ?i35 ?l35 ?c35 ?a36 ?i36 ?l36 ?c36 ?aC_Seat ?pg_Seat ?hd_Seat ?po_Seat ?sa_Seat ?mk_Seat ?kc_Seat ?nf_Seatsession ?nf_Seatpane ?nf_Seatdone ?nf_Seatleft ?a37 ?i37 ?l37 ?c37 ?aC_Hall ?pg_Hall ?hd_Hall ?po_Hall ?sa_Hall ?mk_Hall ?kc_Hall ?nf_Hall_panes ?nf_Hall_seats ?a38 ?i38 ?l38 ?c38 ?a39 ?i39 ?l39 ?c39 ?a40 ?i40 ?l40 ?c40 ?a41 ?i41 ?l41 ?c41 ?a42 ?i42 ?l42 ?c42 ?a43 ?i43 ?l43 ?c43 ?a44 ?i44 ?l44 ?c44 ?a45 ?i45 ?l45 ?c45 ?a46 ?i46 ?l46 ?c46 ?aC_Look ?pg_Look ?hd_Look ?po_Look ?sa_Look ?mk_Look ?kc_Look ?nf_Lookname ?nf_Looksession ?nf_Lookpane ?nf_Look_wide ?nf_Look_high ?nf_Look_done ?nf_Look_signs ?nf_Look_known ?nf_Look_rows ?nf_Look_line ?nf_Look_left ?nf_Look_over ?a47 ?i47 ?l47 ?c47 ?a48 ?i48 ?l48 ?c48 ?a49 ?i49 ?l49 ?c49 ?a50 ?i50 ?l50 ?c50 ?a51 ?i51 ?l51 ?c51 ?a52 ?i52 ?l52 ?c52 ?a53 ?i53 ?l53 ?c53 ?a54 ?i54 ?l54 ?c54 ?a55 ?i55 ?l55 ?c55 ?aH_ ?aN_ ?aB1_ ?aB2_ ?aB3_ ?aB4_ ?aB5_ ?aB6_ ?xa_ ?xk_ ?xb_ ?xt_ ?xg_ ?xh_ ?xd_ ?xc_ ?xs_ ?xe_ ?xm_ ?xp_ ?xr_ ?kitH ?kit0 ?kit1 ?kit2 ?kit3 ?kit4 ?kit5 ?kit6 ?kitV ?neT1 ?z_isinstance ?z_bool ?z_list ?z_int ?z_len ?z_str ?z_tuple ?z_range ?z_enumerate ?mg_KEYS ?mg_SAY ?mg_MANY ?mg_LINE_SIGNS ?mg_ROWS_KEPT ?mg_TYPED_KEPT ?mg_CHANGES_KEPT ?z_all ?mg_SIGNS ?mg_BETWEEN ?mg_SUM_TIMES ?mg_SUM_REST ?mg_TYPED ?mg_LEFT ?mg_SHOWN ?mg_FIGURES ?z_max ?mg_NARROWEST ?mg_WIDEST ?mg_LOWEST ?mg_HIGHEST ?mg_NAMES ?mg_SESSIONS ?mg_MOST_PANES ?mg_LETTER_SIGNS ?z_sorted ?z_ValueError
    (case a1 => k_is)
    (case l1 => k_is)
    (case c1 => k_is)
    (case a2 => k_is)
    (case l2 => k_is)
    (case c2 => k_is)
    (case a3 => k_is)
    (case l3 => k_is)
    (case c3 => k_is)
    (case lc => k_is)
    (case v11 => rfl)
    (case noT => kernel_rfl)
    (case a4 => k_is)
    (case l4 => k_is)
    (case c4 => k_is)
    (case a5 => k_is)
    (case l5 => k_is)
    (case c5 => k_is)
    (case a6 => k_is)
    (case l6 => k_is)
    (case c6 => k_is)
    (case a7 => k_is)
    (case l7 => k_is)
    (case c7 => k_is)
    (case a8 => k_is)
    (case l8 => k_is)
    (case c8 => k_is)
    (case a9 => k_is)
    (case l9 => k_is)
    (case c9 => k_is)
    (case a10 => k_is)
    (case l10 => k_is)
    (case c10 => k_is)
    (case a11 => k_is)
    (case l11 => k_is)
    (case c11 => k_is)
    (case a12 => k_is)
    (case l12 => k_is)
    (case c12 => k_is)
    (case a13 => k_is)
    (case l13 => k_is)
    (case c13 => k_is)
    (case a14 => k_is)
    (case l14 => k_is)
    (case c14 => k_is)
    (case a15 => k_is)
    (case l15 => k_is)
    (case c15 => k_is)
    (case a16 => k_is)
    (case l16 => k_is)
    (case c16 => k_is)
    (case a17 => k_is)
    (case l17 => k_is)
    (case c17 => k_is)
    (case a18 => k_is)
    (case l18 => k_is)
    (case c18 => k_is)
    (case a19 => k_is)
    (case l19 => k_is)
    (case c19 => k_is)
    (case a20 => k_is)
    (case l20 => k_is)
    (case c20 => k_is)
    (case a21 => k_is)
    (case l21 => k_is)
    (case c21 => k_is)
    (case a22 => k_is)
    (case l22 => k_is)
    (case c22 => k_is)
    (case a23 => k_is)
    (case l23 => k_is)
    (case c23 => k_is)
    (case a24 => k_is)
    (case l24 => k_is)
    (case c24 => k_is)
    (case lcT1 => k_is)
    (case v11T1 => rfl)
    (case noT1 => kernel_rfl)
    (case a25 => k_is)
    (case l25 => k_is)
    (case c25 => k_is)
    (case aC_Pane => k_is)
    (case pg_Pane => k_is)
    (case hd_Pane => k_is)
    (case po_Pane => k_is)
    (case sa_Pane => k_is)
    (case mk_Pane => k_is)
    (case kc_Pane => k_is)
    (case nf_Pane_rows => k_is)
    (case nf_Pane_line => k_is)
    (case nf_Pane_job => k_is)
    (case nf_Pane_typed => k_is)
    (case nf_Pane_changes => k_is)
    (case nf_Pane_latest => k_is)
    (case a26 => k_is)
    (case i26 => k_is)
    (case l26 => k_is)
    (case c26 => k_is)
    (case a27 => k_is)
    (case i27 => k_is)
    (case l27 => k_is)
    (case c27 => k_is)
    (case a28 => k_is)
    (case i28 => k_is)
    (case l28 => k_is)
    (case c28 => k_is)
    (case a29 => k_is)
    (case i29 => k_is)
    (case l29 => k_is)
    (case c29 => k_is)
    (case a30 => k_is)
    (case i30 => k_is)
    (case l30 => k_is)
    (case c30 => k_is)
    (case a31 => k_is)
    (case i31 => k_is)
    (case l31 => k_is)
    (case c31 => k_is)
    (case a32 => k_is)
    (case i32 => k_is)
    (case l32 => k_is)
    (case c32 => k_is)
    (case a33 => k_is)
    (case i33 => k_is)
    (case l33 => k_is)
    (case c33 => k_is)
    (case a34 => k_is)
    (case i34 => k_is)
    (case l34 => k_is)
    (case c34 => k_is)
    (case a35 => k_is)
    (case i35 => k_is)
    (case l35 => k_is)
    (case c35 => k_is)
    (case a36 => k_is)
    (case i36 => k_is)
    (case l36 => k_is)
    (case c36 => k_is)
    (case aC_Seat => k_is)
    (case pg_Seat => k_is)
    (case hd_Seat => k_is)
    (case po_Seat => k_is)
    (case sa_Seat => k_is)
    (case mk_Seat => k_is)
    (case kc_Seat => k_is)
    (case nf_Seatsession => k_is)
    (case nf_Seatpane => k_is)
    (case nf_Seatdone => k_is)
    (case nf_Seatleft => k_is)
    (case a37 => k_is)
    (case i37 => k_is)
    (case l37 => k_is)
    (case c37 => k_is)
    (case aC_Hall => k_is)
    (case pg_Hall => k_is)
    (case hd_Hall => k_is)
    (case po_Hall => k_is)
    (case sa_Hall => k_is)
    (case mk_Hall => k_is)
    (case kc_Hall => k_is)
    (case nf_Hall_panes => k_is)
    (case nf_Hall_seats => k_is)
    (case a38 => k_is)
    (case i38 => k_is)
    (case l38 => k_is)
    (case c38 => k_is)
    (case a39 => k_is)
    (case i39 => k_is)
    (case l39 => k_is)
    (case c39 => k_is)
    (case a40 => k_is)
    (case i40 => k_is)
    (case l40 => k_is)
    (case c40 => k_is)
    (case a41 => k_is)
    (case i41 => k_is)
    (case l41 => k_is)
    (case c41 => k_is)
    (case a42 => k_is)
    (case i42 => k_is)
    (case l42 => k_is)
    (case c42 => k_is)
    (case a43 => k_is)
    (case i43 => k_is)
    (case l43 => k_is)
    (case c43 => k_is)
    (case a44 => k_is)
    (case i44 => k_is)
    (case l44 => k_is)
    (case c44 => k_is)
    (case a45 => k_is)
    (case i45 => k_is)
    (case l45 => k_is)
    (case c45 => k_is)
    (case a46 => k_is)
    (case i46 => k_is)
    (case l46 => k_is)
    (case c46 => k_is)
    (case aC_Look => k_is)
    (case pg_Look => k_is)
    (case hd_Look => k_is)
    (case po_Look => k_is)
    (case sa_Look => k_is)
    (case mk_Look => k_is)
    (case kc_Look => k_is)
    (case nf_Lookname => k_is)
    (case nf_Looksession => k_is)
    (case nf_Lookpane => k_is)
    (case nf_Look_wide => k_is)
    (case nf_Look_high => k_is)
    (case nf_Look_done => k_is)
    (case nf_Look_signs => k_is)
    (case nf_Look_known => k_is)
    (case nf_Look_rows => k_is)
    (case nf_Look_line => k_is)
    (case nf_Look_left => k_is)
    (case nf_Look_over => k_is)
    (case a47 => k_is)
    (case i47 => k_is)
    (case l47 => k_is)
    (case c47 => k_is)
    (case a48 => k_is)
    (case i48 => k_is)
    (case l48 => k_is)
    (case c48 => k_is)
    (case a49 => k_is)
    (case i49 => k_is)
    (case l49 => k_is)
    (case c49 => k_is)
    (case a50 => k_is)
    (case i50 => k_is)
    (case l50 => k_is)
    (case c50 => k_is)
    (case a51 => k_is)
    (case i51 => k_is)
    (case l51 => k_is)
    (case c51 => k_is)
    (case a52 => k_is)
    (case i52 => k_is)
    (case l52 => k_is)
    (case c52 => k_is)
    (case a53 => k_is)
    (case i53 => k_is)
    (case l53 => k_is)
    (case c53 => k_is)
    (case a54 => k_is)
    (case i54 => k_is)
    (case l54 => k_is)
    (case c54 => k_is)
    (case a55 => k_is)
    (case i55 => k_is)
    (case l55 => k_is)
    (case c55 => k_is)
    (case aH_ => k_is)
    (case aN_ => k_is)
    (case aB1_ => k_is)
    (case aB2_ => k_is)
    (case aB3_ => k_is)
    (case aB4_ => k_is)
    (case aB5_ => k_is)
    (case aB6_ => k_is)
    (case xa_ => first | kernel_rfl | rfl | decide +kernel)
    (case xk_ => k_is)
    (case xb_ => k_is)
    (case xt_ => k_is)
    (case xg_ => k_is)
    (case xh_ => k_is)
    (case xd_ => k_is)
    (case xc_ => k_is)
    (case xs_ => k_is)
    (case xe_ => k_is)
    (case xm_ => k_is)
    (case xp_ => k_is)
    (case xr_ => k_is)
    (case kitH => first | kernel_rfl | rfl | decide +kernel)
    (case kit0 => first | kernel_rfl | rfl | decide +kernel)
    (case kit1 => first | kernel_rfl | rfl | decide +kernel)
    (case kit2 => first | kernel_rfl | rfl | decide +kernel)
    (case kit3 => first | kernel_rfl | rfl | decide +kernel)
    (case kit4 => first | kernel_rfl | rfl | decide +kernel)
    (case kit5 => first | kernel_rfl | rfl | decide +kernel)
    (case kit6 => first | kernel_rfl | rfl | decide +kernel)
    (case kitV => first | kernel_rfl | rfl | decide +kernel)
    (case neT1 => decide)
    (case z_isinstance => k_is)
    (case z_bool => k_is)
    (case z_list => k_is)
    (case z_int => k_is)
    (case z_len => k_is)
    (case z_str => k_is)
    (case z_tuple => k_is)
    (case z_range => k_is)
    (case z_enumerate => k_is)
    (case mg_KEYS => k_is)
    (case mg_SAY => k_is)
    (case mg_MANY => k_is)
    (case mg_LINE_SIGNS => k_is)
    (case mg_ROWS_KEPT => k_is)
    (case mg_TYPED_KEPT => k_is)
    (case mg_CHANGES_KEPT => k_is)
    (case z_all => k_is)
    (case mg_SIGNS => k_is)
    (case mg_BETWEEN => k_is)
    (case mg_SUM_TIMES => k_is)
    (case mg_SUM_REST => k_is)
    (case mg_TYPED => k_is)
    (case mg_LEFT => k_is)
    (case mg_SHOWN => k_is)
    (case mg_FIGURES => k_is)
    (case z_max => k_is)
    (case mg_NARROWEST => k_is)
    (case mg_WIDEST => k_is)
    (case mg_LOWEST => k_is)
    (case mg_HIGHEST => k_is)
    (case mg_NAMES => k_is)
    (case mg_SESSIONS => k_is)
    (case mg_MOST_PANES => k_is)
    (case mg_LETTER_SIGNS => k_is)
    (case z_sorted => k_is)
    (case z_ValueError => k_is)
#print axioms PySem.Challenge.cw_attachhall_k12_sessions_of_one_name_holds
