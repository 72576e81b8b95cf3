import PyProof.Rows.All
import Wide.All
import OpenK.AllK
import Wide.FinOn
import HandS.ForMost
import HandS.IsInst
import HandS.Wide
import HandS.TupAny
import HandS.Zip
import HandS.Walk
import HandS.Conv
import HandS.CallLocal
import PySem.Challenge.RW_takenover_k10_whole_borders_and_sheets
set_option Elab.async false
set_option linter.all false
set_option maxRecDepth 100000
namespace Pf
open PySem PySem.Spec PyProof.Rows L2
/-! ### frames -/
/-- all but the one list at d stays -/
def Fr (d : Addr) (H H' : Hp) : Prop := ∀ b o, b ≠ d → H b = some o → H' b = some o
/-- all that is no list stays -/
def Tx (H H' : Hp) : Prop := ∀ b o, H b = some o → (∀ z, o ≠ .lst z) → H' b = some o
theorem Fr.refl (d : Addr) (H : Hp) : Fr d H H := fun _ _ _ h => h
theorem Fr.trans {d : Addr} {H H1 H2 : Hp} (x : Fr d H H1) (y : Fr d H1 H2) : Fr d H H2 := fun b o n h => y b o n (x b o n h)
theorem Fr.of {d : Addr} {H H' : Hp} (x : Same H H') : Fr d H H' := fun b o _ h => x b o h
theorem Fr.upd {d : Addr} {H : Hp} {o : HO} : Fr d H (upd H d o) := fun b x n h => by rw [upd_ne n]; exact h
theorem Fr.new {d p : Addr} {H : Hp} {o : HO} (n : H p = none) : Fr d H (L2.upd H p o) := fun b x _ h => by
  rw [upd_ne (ne_of_none h n)]; exact h
theorem same_new {H : Hp} {p : Addr} {o : HO} (h : H p = none) : Same H (upd H p o) := fun b x e => by
  rw [upd_ne (ne_of_none e h)]; exact e
/-- behind a change of what was not there at H -/
theorem Same.put {H H1 : Hp} {p : Addr} {o : HO} (s : Same H H1) (h : H p = none) : Same H (upd H1 p o) := fun b x e => by
  rw [upd_ne (ne_of_none e h)]; exact s b x e
theorem Fr.put {d : Addr} {H H1 : Hp} {p : Addr} {o : HO} (s : Fr d H H1) (h : H p = none) : Fr d H (L2.upd H1 p o) := fun b x n e => by
  rw [upd_ne (ne_of_none e h)]; exact s b x n e
theorem Tx.refl (H : Hp) : Tx H H := fun _ _ h _ => h
theorem Tx.trans {H H1 H2 : Hp} (x : Tx H H1) (y : Tx H1 H2) : Tx H H2 := fun b o h n => y b o (x b o h n) n
theorem Tx.of {H H' : Hp} (x : Same H H') : Tx H H' := fun b o h _ => x b o h
theorem Tx.new {H : Hp} {p : Addr} {o : HO} (h : H p = none) : Tx H (L2.upd H p o) := Tx.of (same_new h)
theorem Tx.lst {H : Hp} {p : Addr} {z : List V} {o : HO} (h : H p = some (.lst z)) : Tx H (L2.upd H p o) := fun b x e n => by
  by_cases hb : b = p
  · subst hb
    rw [h] at e
    exact absurd (Option.some.inj e).symm (n z)
  · rw [upd_ne hb]; exact e
theorem Fr.tx {d : Addr} {H H' : Hp} {z : List V} (f : Fr d H H') (h : H d = some (.lst z)) : Tx H H' := fun b x e n => by
  by_cases hb : b = d
  · subst hb
    rw [h] at e
    exact absurd (Option.some.inj e).symm (n z)
  · exact f b x hb e
theorem Tx.seq {K : PySem.W.Frag} {H H' : Hp} {b : Addr} {xs : List V} (t : Tx H H') (h : SqT K H b xs) : SqT K H' b xs := by
  rcases h with (h | ⟨o, h⟩) | h
  · exact .inl (.inl (t _ _ h (fun z e => by cases e)))
  · exact .inl (.inr ⟨o, t _ _ h (fun z e => by cases e)⟩)
  · exact .inr h
theorem Fr.seqL {K : PySem.W.Frag} {d : Addr} {H H' : Hp} {b : Addr} {xs : List V} (t : Fr d H H') (n : b ≠ d) (h : SqL K H b xs) : SqL K H' b xs := by
  rcases h with (h | ⟨o, h⟩) | h
  · exact .inl (.inl (t _ _ n h))
  · exact .inl (.inr ⟨o, t _ _ n h⟩)
  · exact .inr h
theorem SqL.new {K : PySem.W.Frag} {H : Hp} {p : Addr} {xs : List V} : SqL K (L2.upd H p (.lst xs)) p xs := .inl (.inl upd_same)
theorem SqT.new {K : PySem.W.Frag} {H : Hp} {p : Addr} {xs : List V} : SqT K (L2.upd H p (.tup xs)) p xs := .inl (.inl upd_same)
theorem SqL.at {K : PySem.W.Frag} {H : Hp} {p : Addr} {xs : List V} (h : H p = some (.lst xs)) : SqL K H p xs := .inl (.inl h)
theorem SqT.at {K : PySem.W.Frag} {H : Hp} {p : Addr} {xs : List V} (h : H p = some (.tup xs)) : SqT K H p xs := .inl (.inl h)

/-! ### data without lists: it stays where all that is no list stays -/
mutual
def im : PyData → Bool
  | .tuple ds => imAll ds
  | .list _ => false
  | .dict _ => false
  | _ => true
def imAll : List PyData → Bool
  | [] => true
  | d :: ds => im d && imAll ds
end
theorem imAll_iff : ∀ ds : List PyData, imAll ds = true ↔ ∀ d ∈ ds, im d = true
  | [] => by unfold imAll; simp
  | d :: ds => by unfold imAll; rw [Bool.and_eq_true, imAll_iff ds]; simp
mutual
theorem Dp.tx {K : PySem.W.Frag} {H H' : Hp} (t : Tx H H') : ∀ (d : PyData) (v : V), im d = true → Dp K H v d → Dp K H' v d
  | .none, _, _, h => by cases h; exact .non
  | .bool b, _, _, h => by cases h; exact .bl b
  | .int i, _, _, h => by cases h; exact .int i
  | .str x, _, _, h => by cases h; exact .str x
  | .tuple ds, v, m, h => by
    unfold im at m
    cases h with
    | tup q r => exact .tup (t.seq q) (Dp.txAll t ds _ m r)
theorem Dp.txAll {K : PySem.W.Frag} {H H' : Hp} (t : Tx H H') : ∀ (ds : List PyData) (vs : List V), imAll ds = true → DpAll K H vs ds → DpAll K H' vs ds
  | [], _, _, h => by cases h; exact .nil
  | d :: ds, vs, m, h => by
    unfold imAll at m
    rw [Bool.and_eq_true] at m
    cases h with
    | cons p q => exact .cons (Dp.tx t d _ m.1 p) (Dp.txAll t ds _ m.2 q)
end
mutual
theorem Dp.same {K : PySem.W.Frag} {H H' : Hp} (t : Same H H') : ∀ (d : PyData) (v : V), Dp K H v d → Dp K H' v d
  | .none, _, h => by cases h; exact .non
  | .bool b, _, h => by cases h; exact .bl b
  | .int i, _, h => by cases h; exact .int i
  | .str x, _, h => by cases h; exact .str x
  | .tuple ds, v, h => by
    cases h with
    | tup q r => exact .tup ((Tx.of t).seq q) (Dp.sameAll t ds _ r)
  | .list ds, v, h => by
    cases h with
    | lst q r => exact .lst (t.seq q) (Dp.sameAll t ds _ r)
theorem Dp.sameAll {K : PySem.W.Frag} {H H' : Hp} (t : Same H H') : ∀ (ds : List PyData) (vs : List V), DpAll K H vs ds → DpAll K H' vs ds
  | [], _, h => by cases h; exact .nil
  | d :: ds, vs, h => by
    cases h with
    | cons p q => exact .cons (Dp.same t d _ p) (Dp.sameAll t ds _ q)
end
theorem DpAll.len {K : PySem.W.Frag} {H : Hp} : ∀ {vs : List V} {ds : List PyData}, DpAll K H vs ds → vs.length = ds.length
  | _, _, .nil => rfl
  | _, _, .cons _ q => by rw [List.length_cons, List.length_cons, DpAll.len q]
theorem DpAll.at {K : PySem.W.Frag} {H : Hp} : ∀ {vs : List V} {ds : List PyData} {i : Nat} {v : V} {d : PyData}, DpAll K H vs ds → vs[i]? = some v → ds[i]? = some d → Dp K H v d
  | _, _, 0, _, _, .cons p _, h, k => by cases h; cases k; exact p
  | _, _, i + 1, _, _, .cons _ q, h, k => DpAll.at (i := i) q (by simpa using h) (by simpa using k)
theorem DpAll.snoc {K : PySem.W.Frag} {H : Hp} : ∀ {vs : List V} {ds : List PyData} {v : V} {d : PyData}, DpAll K H vs ds → Dp K H v d → DpAll K H (vs ++ [v]) (ds ++ [d])
  | _, _, _, _, .nil, p => .cons p .nil
  | _, _, _, _, .cons x q, p => .cons x (DpAll.snoc q p)
theorem DpAll.app {K : PySem.W.Frag} {H : Hp} : ∀ {vs us : List V} {ds es : List PyData}, DpAll K H vs ds → DpAll K H us es → DpAll K H (vs ++ us) (ds ++ es)
  | _, _, _, _, .nil, p => p
  | _, _, _, _, .cons x q, p => .cons x (DpAll.app q p)
/-- tuples of whole numbers -/
abbrev tupI (ns : List Int) : PyData := .tuple (ns.map PyData.int)
theorem dpAll_ints {K : PySem.W.Frag} {H : Hp} : ∀ (ns : List Int), DpAll K H (ns.map V.int) (ns.map PyData.int)
  | [] => .nil
  | n :: ns => .cons (.int n) (dpAll_ints ns)
theorem dpAll_ints_eq {K : PySem.W.Frag} {H : Hp} : ∀ {ns : List Int} {vs : List V}, DpAll K H vs (ns.map PyData.int) → vs = ns.map V.int
  | [], _, .nil => rfl
  | n :: ns, _, .cons p q => by
    cases p
    rw [dpAll_ints_eq q]
    rfl
theorem dp_ints {K : PySem.W.Frag} {H : Hp} {p : Addr} {ns : List Int} (h : SqT K H p (ns.map V.int)) : Dp K H (.ref p) (tupI ns) := .tup h (dpAll_ints ns)
theorem of_ints {K : PySem.W.Frag} {H : Hp} {v : V} {ns : List Int} (h : Dp K H v (tupI ns)) : ∃ p, v = .ref p ∧ SqT K H p (ns.map V.int) := by
  cases h with
  | tup q r => rw [dpAll_ints_eq r] at q; exact ⟨_, rfl, q⟩
theorem imAll_ints : ∀ (ns : List Int), imAll (ns.map PyData.int) = true
  | [] => rfl
  | _ :: ns => by
    show (im (.int _) && imAll (ns.map PyData.int)) = true
    rw [imAll_ints ns]; rfl
theorem im_ints (ns : List Int) : im (tupI ns) = true := imAll_ints ns
/-- the class of a value of data -/
def tyD : PyData → String
  | .none => "NoneType"
  | .bool _ => "bool"
  | .int _ => "int"
  | .str _ => "str"
  | .list _ => "list"
  | .tuple _ => "tuple"
  | .dict _ => "dict"
theorem Dp.ty {K : PySem.W.Frag} {H : Hp} {v : V} {d : PyData} (h : Dp K H v d) : TyX K H v (.type (tyD d)) := by
  cases h with
  | non => exact .base .non
  | bl b => exact .base (.bl b)
  | int i => exact .base (.int i)
  | str x => exact .base (.str x)
  | lst q r =>
    rcases q with (q | ⟨o, q⟩) | ⟨o, its, n, e, c, _⟩
    · exact .base (.lst q)
    · exact .base (.frz q)
    · exact .kList e c
  | tup q r =>
    rcases q with (q | ⟨o, q⟩) | ⟨o, its, n, e, c, _⟩
    · exact .base (.tup q)
    · exact .fTuple q
    · exact .kTuple e c
theorem atI_int {cs : List Int} {i : Int} (h0 : 0 ≤ i) (h : i < (cs.map V.int).length) : ∃ z, z ∈ cs ∧ cs[i.toNat]? = some z ∧ atI (cs.map V.int) i = some (.int z) := by
  have hl : i.toNat < cs.length := by rw [List.length_map] at h; omega
  obtain ⟨z, ez⟩ : ∃ z, cs[i.toNat]? = some z := ⟨_, List.getElem?_eq_getElem hl⟩
  refine ⟨z, List.mem_of_getElem? ez, ez, ?_⟩
  have e : i = ((i.toNat : Nat) : Int) := by omega
  rw [e]
  refine atI_nat ?_
  rw [List.getElem?_map, ez]
  rfl
/-! ### walks: zip of two tuples -/
theorem walk_zipT {K : PySem.W.Frag} {a b : Addr} {xs ys : List V} {n : Nat} (hn : n = min xs.length ys.length) : Walk (RZ.ItzT K a b) n (fun H => SqT K H a xs ∧ SqT K H b ys) (YPair (fun i => xs[i]?) (fun i => ys[i]?)) where
  goes := fun i H hi ⟨p, q⟩ => ⟨xs, ys, xs[i]'(by omega), ys[i]'(by omega), p, q, List.getElem?_eq_getElem (by omega), List.getElem?_eq_getElem (by omega)⟩
  stops := fun H ⟨p, q⟩ => ⟨xs, ys, p, q, by omega⟩
  yields := fun i H x H' hi ⟨p, q⟩ ⟨T, x1, x2, e, nT, e2, f1, f2⟩ => ⟨T, x1, x2, e, nT, e2, f1 xs p, f2 ys q⟩

/-! ### readings, step by step -/
section
variable {σ : L2.St} {H : Hp} {Q : VK} {QT : Bool → Hp → Prop} {QA : List V → Hp → Prop} {D : Ends} {ta tb tc te : TE} {t u : TT} {tr : TA} {s1 s2 : TS} {r r' : R2} {v : V} {K : PySem.W.Frag}
theorem g_var {i : Nat} (e : σ[i]? = some (some v)) (q : Q v H) : tVar i σ H Q := ⟨v, e, q⟩
theorem g_c (q : Q v H) : tC v σ H Q := q
theorem g_op (q : ta σ H fun x H1 => tb σ H1 fun y H2 => r x y H2 Q) : tOp r ta tb σ H Q := q
theorem g_rI0 {g : Int → Int → V} {i j : Int} (q : Q (g i j) H) : rI0 g (.int i) (.int j) H Q := ⟨i, j, rfl, rfl, q⟩
theorem g_rI {C : Int → Int → Prop} {g : Int → Int → V} {i j : Int} (c : C i j) (q : Q (g i j) H) : rI C g (.int i) (.int j) H Q := ⟨i, j, rfl, rfl, c, q⟩
theorem g_eqI {i j : Int} (q : Q (.bl (decide (i = j))) H) : rEq (.int i) (.int j) H Q := ⟨rfl, by
  rw [show decide (V.int i = V.int j) = decide (i = j) from by simp only [V.int.injEq]]; exact q⟩
theorem g_neI {i j : Int} (q : Q (.bl (!decide (i = j))) H) : rNe (.int i) (.int j) H Q := ⟨rfl, by
  rw [show decide (V.int i = V.int j) = decide (i = j) from by simp only [V.int.injEq]]; exact q⟩
theorem dec_bl {i j : Bool} : decide (V.bl i = V.bl j) = (i == j) := by cases i <;> cases j <;> rfl
theorem g_eqB {i j : Bool} (q : Q (.bl (i == j)) H) : rEq (.bl i) (.bl j) H Q := ⟨rfl, by rw [dec_bl]; exact q⟩
theorem g_neB {i j : Bool} (q : Q (.bl (!(i == j))) H) : rNe (.bl i) (.bl j) H Q := ⟨rfl, by rw [dec_bl]; exact q⟩
theorem g_test (q : ta σ H fun x H' => ∃ k, x = .bl k ∧ QT k H') : tTest ta σ H QT := q
theorem g_tB (q : ta σ H fun x H' => ∃ k, x = .bl k ∧ QT k H') : tB ta σ H QT := q
theorem g_bl {b : Bool} {P : Bool → Prop} (q : P b) : ∃ k, V.bl b = .bl k ∧ P k := ⟨b, rfl, q⟩
theorem g_and (q : t σ H fun c H1 => if c = true then u σ H1 QT else QT false H1) : tAnd t u σ H QT := q
theorem g_or (q : t σ H fun c H1 => if c = true then QT true H1 else u σ H1 QT) : tOr t u σ H QT := q
theorem g_not (q : t σ H fun c H1 => QT (!c) H1) : tNot t σ H QT := q
theorem g_andV (q : ta σ H fun x H1 => ∃ c, x = .bl c ∧ if c = true then tb σ H1 Q else Q (.bl false) H1) : tAndV ta tb σ H Q := q
theorem g_orV (q : ta σ H fun x H1 => ∃ c, x = .bl c ∧ if c = true then Q (.bl true) H1 else tb σ H1 Q) : tOrV ta tb σ H Q := q
theorem g_notV (q : ta σ H fun x H1 => ∃ c, x = .bl c ∧ Q (.bl (!c)) H1) : tNotV ta σ H Q := q
theorem g_if (q : t σ H fun c H1 => if c = true then ta σ H1 Q else tb σ H1 Q) : tIf t ta tb σ H Q := q
theorem g_un {r : V → Hp → VK → Prop} (q : ta σ H fun x H1 => r x H1 Q) : tUn r ta σ H Q := q
theorem g_rU {g : Int → V} {i : Int} (q : Q (g i) H) : rU g (.int i) H Q := ⟨i, rfl, q⟩
theorem g_chain (q : ta σ H fun x H1 => tb σ H1 fun y H2 => r x y H2 fun z H3 => ∃ k, z = .bl k ∧ (if k = true then tc σ H3 fun w' H4 => r' y w' H4 Q else Q (.bl false) H3)) : tChain r r' ta tb tc σ H Q := q
theorem g_seq (q : s1 { D with nx := s2 D } σ H) : tSeq s1 s2 D σ H := q
theorem g_ifS (q : t σ H fun b H1 => if b = true then s1 D σ H1 else s2 D σ H1) : tIfS t s1 s2 D σ H := q
theorem g_next (q : D.nx σ H) : tNext D σ H := q
theorem g_asg {g : TG} (q : ta σ H fun x H1 => g x σ H1 D.nx) : tAsg ta g D σ H := q
theorem g_name {i : Nat} {P : L2.St → Hp → Prop} (q : P (σ.set i (some v)) H) : gName i v σ H P := q
theorem g_sub {ts : TSet} {P : L2.St → Hp → Prop} (q : ta σ H fun o H1 => tb σ H1 fun i H2 => ts o i v H2 fun H3 => P σ H3) : gSub ta tb ts v σ H P := q
theorem g_setL {p : Addr} {xs : List V} {k : Int} {j : Nat} {P : Hp → Prop} (h : H p = some (.lst xs)) (e : ixN xs.length k = some j) (q : P (upd H p (.lst (xs.set j v)))) : rSetL (.ref p) (.int k) v H P := ⟨p, xs, k, j, rfl, rfl, h, e, q⟩
theorem g_ret (q : ta σ H D.rt) : tRet ta D σ H := q
theorem g_drop (q : ta σ H fun _ H1 => D.nx σ H1) : tDrop ta D σ H := q
theorem g_cons (q : ta σ H fun x H1 => tr σ H1 fun xs H2 => QA (x :: xs) H2) : tCons ta tr σ H QA := q
theorem g_nil (q : QA [] H) : tNil σ H QA := q
theorem g_cb {r : List V → Hp → VK → Prop} (q : tr σ H fun vs H1 => r vs H1 Q) : tCB r tr σ H Q := q
theorem g_tup (q : tr σ H fun xs H1 => xs.length ≤ sizeLine ∧ ∀ p, H1 p = none → Q (.ref p) (upd H1 p (.tup xs))) : tTup tr σ H Q := q
theorem g_lst (q : tr σ H fun xs H1 => xs.length ≤ sizeLine ∧ ∀ p, H1 p = none → Q (.ref p) (upd H1 p (.lst xs))) : tLst tr σ H Q := q
theorem g_sl {r : V → Option Int → Option Int → Hp → VK → Prop} {tl th : TO} (q : ta σ H fun x H1 => tl σ H1 fun l H2 => th σ H2 fun u H3 => r x l u H3 Q) : tSl r ta tl th σ H Q := q
theorem g_nopart {P : Option Int → Hp → Prop} (q : P none H) : tNoPart σ H P := q
theorem g_part {P : Option Int → Hp → Prop} (q : ta σ H fun x H1 => ∃ i, x = .int i ∧ P (some i) H1) : tPart ta σ H P := q
theorem g_part2 {i : Int} {P : Int → Prop} (q : P i) : ∃ k, V.int i = .int k ∧ P k := ⟨i, rfl, q⟩
theorem g_ixL {p : Addr} {xs : List V} {i : Int} (h : SqL K H p xs) (e : atI xs i = some v) (q : Q v H) : rIxL K (.ref p) (.int i) H Q := ⟨p, xs, i, v, rfl, rfl, h, e, q⟩
theorem g_ixT {p : Addr} {xs : List V} {i : Int} (h : SqT K H p xs) (e : atI xs i = some v) (q : Q v H) : rIxT K (.ref p) (.int i) H Q := ⟨p, xs, i, v, rfl, rfl, h, e, q⟩
theorem g_call {sp : Sp} {dvs : List V} {E : XK} (q : tr σ H fun vs H1 => sp (vs ++ dvs) H1 Q E) : tCall sp dvs E tr σ H Q := q
theorem g_int {i : Int} (q : Q (.int i) H) : (∃ k, [V.int i] = [.int k] ∧ Q (.int k) H) ∨ ∃ k : Bool, [V.int i] = [.bl k] ∧ Q (.int (if k = true then 1 else 0)) H := .inl ⟨i, rfl, q⟩
theorem g_list {i : Nat} {P : Addr → Prop} {p : Addr} (q : P p) : ∃ k, V.ref p = .ref k ∧ P k := ⟨p, rfl, q⟩
theorem g_iList {R : It → Hp → Prop} {p : Addr} {xs : List V} (h : SqL K H p xs) (q : R (Itl K p) H) : ∃ a, V.ref p = .ref a ∧ (∃ xs, SqL K H a xs) ∧ R (Itl K a) H := ⟨p, rfl, ⟨xs, h⟩, q⟩
theorem g_iTup {R : It → Hp → Prop} {p : Addr} {xs : List V} (h : SqT K H p xs) (q : R (Itt K p) H) : ∃ a, V.ref p = .ref a ∧ (∃ xs, SqT K H a xs) ∧ R (Itt K a) H := ⟨p, rfl, ⟨xs, h⟩, q⟩
theorem g_lenL {p : Addr} {xs : List V} (h : SqL K H p xs) (q : Q (.int xs.length) H) : ∃ p' ys, [V.ref p] = [.ref p'] ∧ (SqL K H p' ys ∨ SqT K H p' ys) ∧ Q (.int ys.length) H := ⟨p, xs, rfl, .inl h, q⟩
theorem g_lenT {p : Addr} {xs : List V} (h : SqT K H p xs) (q : Q (.int xs.length) H) : ∃ p' ys, [V.ref p] = [.ref p'] ∧ (SqL K H p' ys ∨ SqT K H p' ys) ∧ Q (.int ys.length) H := ⟨p, xs, rfl, .inr h, q⟩
theorem g_ite {c A B : Prop} [Decidable c] (h1 : c → A) (h2 : ¬ c → B) : if decide c = true then A else B := by
  by_cases h : c
  · rw [decide_eq_true h, if_pos rfl]; exact h1 h
  · rw [decide_eq_false h, if_neg Bool.false_ne_true]; exact h2 h
theorem g_iteN {c A B : Prop} [Decidable c] (h1 : ¬ c → A) (h2 : c → B) : if (!decide c) = true then A else B := by
  by_cases h : c
  · rw [decide_eq_true h]; exact (if_neg Bool.false_ne_true) ▸ h2 h
  · rw [decide_eq_false h]; exact (if_pos rfl) ▸ h1 h
theorem g_lc {wi : TI} {g : TG} {tt : TT} {vs : List Nat} (q : wi σ H fun J H1 => ∀ D, H1 D = none → ∃ W : Nat → Nat → Hp → Prop, (∃ m, W 0 m (L2.upd H1 D (.lst []))) ∧ ∀ i m H, W i m H →
  (J.stop i H ∧ Q (.ref D) H) ∨ (J.go i H ∧ ∃ Nx : Hp → Prop, (∀ H', Nx H' → ∃ m', m' < m ∧ W (i + 1) m' H') ∧ ∀ x H', J.yld i H x H' → g x (wipe σ vs) H' fun σ2 H2 => wipe σ2 vs = wipe σ vs ∧ tt σ2 H2 fun b H3 =>
    if b = true then te σ2 H3 fun y H4 => ∃ acc, H4 D = some (.lst acc) ∧ acc.length < sizeLine ∧ Nx (L2.upd H4 D (.lst (acc ++ [y]))) else Nx H3)) : tLc wi g tt te vs σ H Q := q
theorem g_for {wi : TI} {g : TG} {tb : TS} (q : wi σ H fun J H1 => ∃ W : Nat → Nat → L2.St → Hp → Prop, (∃ m, W 0 m σ H1) ∧ ∀ i m σ H, W i m σ H →
  (J.stop i H ∧ D.nx σ H) ∨ (J.go i H ∧ ∃ N : L2.St → Hp → Prop, (∀ σ' H', N σ' H' → ∃ m', m' < m ∧ W (i + 1) m' σ' H') ∧ ∀ x H', J.yld i H x H' → g x σ H' fun σ2 H2 => tb { D with nx := N, ct := N, bk := D.nx } σ2 H2)) : tFor wi g tb D σ H := q
theorem g_iL {R : It → Hp → Prop} (q : ta σ H fun x H1 => ∃ a, x = .ref a ∧ (∃ xs, SqL K H1 a xs) ∧ R (Itl K a) H1) : iList K ta σ H R := q
theorem g_iT {R : It → Hp → Prop} (q : ta σ H fun x H1 => ∃ a, x = .ref a ∧ (∃ xs, SqT K H1 a xs) ∧ R (Itt K a) H1) : iTup K ta σ H R := q
theorem g_iR1 {R : It → Hp → Prop} (q : tr σ H fun vs H1 => ∃ j : Int, vs = [.int j] ∧ -(2 ^ 62) ≤ j ∧ j < 2 ^ 62 ∧ R (Itr 0 j.toNat) H1) : iRng1 tr σ H R := q
theorem g_iR2 {R : It → Hp → Prop} (q : tr σ H fun vs H1 => ∃ i j : Int, vs = [.int i, .int j] ∧ (-(2 ^ 62) ≤ i ∧ i < 2 ^ 62 ∧ -(2 ^ 62) ≤ j ∧ j < 2 ^ 62) ∧ R (Itr i (j - i).toNat) H1) : iRng2 tr σ H R := q
theorem g_iZA {R : It → Hp → Prop} (q : tr σ H fun vs H1 => ∃ a b xs ys, vs = [.ref a, .ref b] ∧ ((SqL K H1 a xs ∧ SqL K H1 b ys ∧ R (Itz K a b) H1) ∨ (SqT K H1 a xs ∧ SqT K H1 b ys ∧ R (RZ.ItzT K a b) H1))) : RZ.iZipA K tr σ H R := q
theorem g_bm {T : String} {rm : V → List V → Hp → VK → Prop} (q : ta σ H fun x H1 => tyV K T x H1 ∧ tr σ H1 fun xs H2 => rm x xs H2 Q) : tBM K T rm ta tr σ H Q := q
theorem g_nT {A B : Prop} (h : B) : if (!true) = true then A else B := h
theorem g_nF {A B : Prop} (h : A) : if (!false) = true then A else B := h
theorem g_oFF {A B : Prop} (h : B) : if (false || false) = true then A else B := h
theorem g_oTx {b : Bool} {A B : Prop} (h : A) : if (true || b) = true then A else B := h
theorem g_oFT {A B : Prop} (h : A) : if (false || true) = true then A else B := h
theorem g_noTx {b : Bool} {A B : Prop} (h : B) : if (!(true || b)) = true then A else B := h
theorem g_noFT {A B : Prop} (h : B) : if (!(false || true)) = true then A else B := h
theorem g_noFF {A B : Prop} (h : A) : if (!(false || false)) = true then A else B := h
theorem g_yes (q : QT true H) : tYes σ H QT := q
/-- one word for what follows a statement -/
theorem seq_cut (R : L2.St → Hp → Prop) (h2 : ∀ σ' H', R σ' H' → s2 D σ' H') (h1 : ∀ N : L2.St → Hp → Prop, (∀ σ' H', R σ' H' → N σ' H') → s1 { D with nx := N } σ H) : tSeq s1 s2 D σ H := h1 (s2 D) h2
end

/-! ### the drawn numbers: the list at d, its cells at c -/
def Dice (d c : Addr) (H : Hp) : Prop := ∃ (cs : List Int) (i q s t : Int), H d = some (.lst [.ref c, .int i, .int q, .int s, .int t]) ∧ H c = some (.lst (cs.map V.int)) ∧ c ≠ d ∧ (∀ x ∈ cs, 0 ≤ x) ∧ 0 ≤ i ∧ 0 ≤ q ∧ 0 ≤ s ∧ s < 2147483648 ∧ 0 ≤ t
theorem Dice.fr {H H' : Hp} {d c : Addr} (D : Dice d c H) (f : Same H H') : Dice d c H' := by
  obtain ⟨cs, i, q, s, t, h1, h2, r⟩ := D
  exact ⟨cs, i, q, s, t, f _ _ h1, f _ _ h2, r⟩
theorem Dice.nd {H : Hp} {d c p : Addr} (D : Dice d c H) (n : H p = none) : p ≠ d := by
  obtain ⟨cs, i, q, s, t, h1, r⟩ := D
  exact (ne_of_none h1 n).symm
theorem Dice.nc {H : Hp} {d c p : Addr} (D : Dice d c H) (n : H p = none) : p ≠ c := by
  obtain ⟨cs, i, q, s, t, h1, h2, r⟩ := D
  exact (ne_of_none h2 n).symm
theorem Dice.tx {H H' : Hp} {d c : Addr} (D : Dice d c H) (f : Fr d H H') : Tx H H' := by
  obtain ⟨cs, i, q, s, t, h1, r⟩ := D
  exact f.tx h1
theorem Dice.new {H : Hp} {d c p : Addr} {o : HO} (D : Dice d c H) (n : H p = none) : Dice d c (L2.upd H p o) := D.fr (same_new n)
theorem Dice.put {H : Hp} {d c p : Addr} {o : HO} (D : Dice d c H) (n : p ≠ d) (n2 : p ≠ c) : Dice d c (L2.upd H p o) := by
  obtain ⟨cs, i, q, s, t, h1, h2, r⟩ := D
  exact ⟨cs, i, q, s, t, by rw [upd_ne n.symm]; exact h1, by rw [upd_ne n2.symm]; exact h2, r⟩
theorem mem_cutV {xs : List V} {lo hi : Option Int} {x : V} (h : x ∈ cutV xs lo hi) : x ∈ xs := List.mem_of_mem_drop (List.mem_of_mem_take h)
theorem cutV_int {ns : List Int} {lo hi : Option Int} {i : Nat} {x : V} (h : (cutV (ns.map V.int) lo hi)[i]? = some x) : ∃ z, x = .int z := by
  have := mem_cutV (List.mem_of_getElem? h)
  obtain ⟨z, _, e⟩ := List.mem_map.mp this
  exact ⟨z, e.symm⟩
theorem take_snoc {α : Type} {xs : List α} {i : Nat} {x : α} (h : xs[i]? = some x) : xs.take (i + 1) = xs.take i ++ [x] := by
  rw [List.take_add_one, h]; rfl
/-! ### list comprehensions -/
section
variable {J : It} {n : Nat} {G : Hp → Prop} {Y : Nat → Hp → V → Hp → Prop} {g : TG} {tt : TT} {te : TE} {vs : List Nat} {σ : L2.St} {H1 : Hp} {D : Addr} {Qd : Hp → Prop}
theorem lc_cps (w : Walk J n G Y) (R : Nat → Hp → List V → Prop) (h0 : R 0 (L2.upd H1 D (.lst [])) []) (hG : ∀ i H acc, i ≤ n → R i H acc → H D = some (.lst acc) → G H)
    (hs : ∀ i x H H' acc (C : V → Hp → Prop) (Cn : Hp → Prop), i < n → R i H acc → H D = some (.lst acc) → Y i H x H' →
      (∀ y H4, H4 D = some (.lst acc) → acc.length < sizeLine → R (i + 1) (L2.upd H4 D (.lst (acc ++ [y]))) (acc ++ [y]) → C y H4) → (∀ H3, H3 D = some (.lst acc) → R (i + 1) H3 acc → Cn H3) →
      g x (wipe σ vs) H' fun σ2 H2 => wipe σ2 vs = wipe σ vs ∧ tt σ2 H2 fun b H3 => if b = true then te σ2 H3 C else Cn H3)
    (hd : ∀ H acc, R n H acc → H D = some (.lst acc) → Qd H) :
    ∃ W : Nat → Nat → Hp → Prop, (∃ m, W 0 m (L2.upd H1 D (.lst []))) ∧ ∀ i m H, W i m H →
      (J.stop i H ∧ Qd H) ∨ (J.go i H ∧ ∃ Nx : Hp → Prop, (∀ H', Nx H' → ∃ m', m' < m ∧ W (i + 1) m' H') ∧ ∀ x H', J.yld i H x H' → g x (wipe σ vs) H' fun σ2 H2 => wipe σ2 vs = wipe σ vs ∧ tt σ2 H2 fun b H3 =>
        if b = true then te σ2 H3 fun y H4 => ∃ acc, H4 D = some (.lst acc) ∧ acc.length < sizeLine ∧ Nx (L2.upd H4 D (.lst (acc ++ [y]))) else Nx H3) :=
  lc_it w (fun i H => ∃ acc, H D = some (.lst acc) ∧ R i H acc) ⟨[], upd_same, h0⟩ (fun i H hi ⟨acc, e, r⟩ => hG i H acc hi r e)
    (fun i x H H' hi ⟨acc, e, r⟩ hy => hs i x H H' acc _ _ hi r e hy (fun y H4 e4 l r4 => ⟨acc, e4, l, _, upd_same, r4⟩) (fun H3 e3 r3 => ⟨acc, e3, r3⟩)) (fun H ⟨acc, e, r⟩ => hd H acc r e)
/-- nothing that stood is changed; what is made is told by the turn -/
theorem lc_same {H0 : Hp} (w : Walk J n G Y) (A : Nat → List V) (a0 : A 0 = []) (hl : ∀ i, i ≤ n → (A i).length < sizeLine) (hH : Same H0 H1) (nD : H0 D = none) (nD1 : H1 D = none) (hG : ∀ H, Same H1 H → G H)
    (hs : ∀ i x H H' (C : V → Hp → Prop) (Cn : Hp → Prop), i < n → Same H1 H → Y i H x H' → (∀ y H4, Same H H4 → A (i + 1) = A i ++ [y] → C y H4) → (∀ H3, Same H H3 → A (i + 1) = A i → Cn H3) →
      g x (wipe σ vs) H' fun σ2 H2 => wipe σ2 vs = wipe σ vs ∧ tt σ2 H2 fun b H3 => if b = true then te σ2 H3 C else Cn H3)
    (hd : ∀ H, Same H0 H → H D = some (.lst (A n)) → Qd H) :
    ∃ W : Nat → Nat → Hp → Prop, (∃ m, W 0 m (L2.upd H1 D (.lst []))) ∧ ∀ i m H, W i m H →
      (J.stop i H ∧ Qd H) ∨ (J.go i H ∧ ∃ Nx : Hp → Prop, (∀ H', Nx H' → ∃ m', m' < m ∧ W (i + 1) m' H') ∧ ∀ x H', J.yld i H x H' → g x (wipe σ vs) H' fun σ2 H2 => wipe σ2 vs = wipe σ vs ∧ tt σ2 H2 fun b H3 =>
        if b = true then te σ2 H3 fun y H4 => ∃ acc, H4 D = some (.lst acc) ∧ acc.length < sizeLine ∧ Nx (L2.upd H4 D (.lst (acc ++ [y]))) else Nx H3) := by
  refine lc_cps w (fun i H acc => Same H1 H ∧ acc = A i) ⟨same_new nD1, a0.symm⟩ (fun i H acc hi r e => hG H r.1) (fun i x H H' acc C Cn hi r e hy hC hN => ?_) (fun H acc r e => hd H (hH.trans r.1) (by rw [e, r.2]))
  obtain ⟨r1, rfl⟩ := r
  exact hs i x H H' C Cn hi r1 hy (fun y H4 s4 e4 => hC y H4 (s4 _ _ e) (hl i (by omega)) ⟨Same.put (r1.trans s4) nD1, e4.symm⟩) (fun H3 s3 e3 => hN H3 (s3 _ _ e) ⟨r1.trans s3, e3.symm⟩)
/-- data made at each turn, told by the turn -/
theorem lc_data {K : PySem.W.Frag} (w : Walk J n G Y) (A : Nat → List PyData) (a0 : A 0 = []) (hl : ∀ i, i ≤ n → (A i).length < sizeLine) (hi' : ∀ i, i ≤ n → imAll (A i) = true) (nD1 : H1 D = none) (hG : ∀ H, Same H1 H → G H)
    (hs : ∀ i x H H' (C : V → Hp → Prop) (Cn : Hp → Prop), i < n → Same H1 H → Y i H x H' → (∀ y e H4, Same H H4 → Dp K H4 y e → A (i + 1) = A i ++ [e] → C y H4) → (∀ H3, Same H H3 → A (i + 1) = A i → Cn H3) →
      g x (wipe σ vs) H' fun σ2 H2 => wipe σ2 vs = wipe σ vs ∧ tt σ2 H2 fun b H3 => if b = true then te σ2 H3 C else Cn H3)
    (hd : ∀ H xs, Same H1 H → H D = some (.lst xs) → DpAll K H xs (A n) → Qd H) :
    ∃ W : Nat → Nat → Hp → Prop, (∃ m, W 0 m (L2.upd H1 D (.lst []))) ∧ ∀ i m H, W i m H →
      (J.stop i H ∧ Qd H) ∨ (J.go i H ∧ ∃ Nx : Hp → Prop, (∀ H', Nx H' → ∃ m', m' < m ∧ W (i + 1) m' H') ∧ ∀ x H', J.yld i H x H' → g x (wipe σ vs) H' fun σ2 H2 => wipe σ2 vs = wipe σ vs ∧ tt σ2 H2 fun b H3 =>
        if b = true then te σ2 H3 fun y H4 => ∃ acc, H4 D = some (.lst acc) ∧ acc.length < sizeLine ∧ Nx (L2.upd H4 D (.lst (acc ++ [y]))) else Nx H3) := by
  refine lc_cps w (fun i H acc => Same H1 H ∧ DpAll K H acc (A i)) ⟨same_new nD1, by rw [a0]; exact .nil⟩ (fun i H acc hi r e => hG H r.1) (fun i x H H' acc C Cn hi r e hy hC hN => ?_) (fun H acc r e => hd H acc r.1 e r.2)
  obtain ⟨r1, r2⟩ := r
  refine hs i x H H' C Cn hi r1 hy (fun y ee H4 s4 dy e4 => hC y H4 (s4 _ _ e) (by rw [DpAll.len r2]; exact hl i (by omega)) ⟨Same.put (r1.trans s4) nD1, ?_⟩) (fun H3 s3 e3 => hN H3 (s3 _ _ e) ⟨r1.trans s3, by rw [e3]; exact Dp.sameAll s3 _ _ r2⟩)
  rw [e4]
  have im1 := hi' (i + 1) hi
  rw [e4] at im1
  exact Dp.txAll (Tx.lst (s4 _ _ e)) _ _ im1 (DpAll.snoc (Dp.sameAll s4 _ _ r2) dy)
/-- data drawn at each turn, all of one kind -/
theorem lc_draw {K : PySem.W.Frag} {d c : Addr} (w : Walk J n G Y) (PD : PyData → Prop) (hn : n < sizeLine) (him : ∀ e, PD e → im e = true) (nD1 : H1 D = none) (hD : Dice d c H1) (hG : ∀ H, Fr d H1 H → G H)
    (hs : ∀ i x H H' (C : V → Hp → Prop) (Cn : Hp → Prop), i < n → Fr d H1 H → Dice d c H → Y i H x H' → (∀ y e H4, Fr d H H4 → Dice d c H4 → Dp K H4 y e → PD e → C y H4) →
      g x (wipe σ vs) H' fun σ2 H2 => wipe σ2 vs = wipe σ vs ∧ tt σ2 H2 fun b H3 => if b = true then te σ2 H3 C else Cn H3)
    (hd : ∀ H xs ds, Fr d H1 H → Dice d c H → H D = some (.lst xs) → DpAll K H xs ds → ds.length = n → (∀ e ∈ ds, PD e) → Qd H) :
    ∃ W : Nat → Nat → Hp → Prop, (∃ m, W 0 m (L2.upd H1 D (.lst []))) ∧ ∀ i m H, W i m H →
      (J.stop i H ∧ Qd H) ∨ (J.go i H ∧ ∃ Nx : Hp → Prop, (∀ H', Nx H' → ∃ m', m' < m ∧ W (i + 1) m' H') ∧ ∀ x H', J.yld i H x H' → g x (wipe σ vs) H' fun σ2 H2 => wipe σ2 vs = wipe σ vs ∧ tt σ2 H2 fun b H3 =>
        if b = true then te σ2 H3 fun y H4 => ∃ acc, H4 D = some (.lst acc) ∧ acc.length < sizeLine ∧ Nx (L2.upd H4 D (.lst (acc ++ [y]))) else Nx H3) := by
  refine lc_cps w (fun i H acc => Fr d H1 H ∧ Dice d c H ∧ ∃ ds, DpAll K H acc ds ∧ ds.length = i ∧ ∀ e ∈ ds, PD e) ⟨Fr.new nD1, hD.new nD1, [], .nil, rfl, fun e h => by cases h⟩ (fun i H acc hi r e => hG H r.1) (fun i x H H' acc C Cn hi r e hy hC hN => ?_)
    (fun H acc ⟨r1, r2, ds, r3, r4, r5⟩ e => hd H acc ds r1 r2 e r3 r4 r5)
  obtain ⟨r1, r2, ds, r3, r4, r5⟩ := r
  refine hs i x H H' C Cn hi r1 r2 hy (fun y ee H4 f4 d4 dy pe => ?_)
  have e4 : H4 D = some (.lst acc) := f4 _ _ (hD.nd nD1) e
  refine hC y H4 e4 (by rw [DpAll.len r3]; omega) ⟨Fr.put (r1.trans f4) nD1, d4.put (hD.nd nD1) (hD.nc nD1), ds ++ [ee], ?_, by rw [List.length_append, r4]; rfl, fun e he => ?_⟩
  · have im1 : imAll (ds ++ [ee]) = true := (imAll_iff _).mpr fun z hz => by
      rcases List.mem_append.mp hz with hz | hz
      · exact him z (r5 z hz)
      · rw [List.mem_singleton.mp hz]; exact him _ pe
    have im0 : imAll ds = true := (imAll_iff _).mpr fun z hz => him z (r5 z hz)
    exact Dp.txAll (Tx.lst e4) _ _ im1 (DpAll.snoc (Dp.txAll (r2.tx f4) _ _ im0 r3) dy)
  · rcases List.mem_append.mp he with he | he
    · exact r5 e he
    · rw [List.mem_singleton.mp he]; exact pe
end

/-! ### whole numbers among all things -/
def IntK (K : PySem.W.Frag) (H : Hp) (v : V) (b : Bool) : Prop := ∃ (t : Value) (b1 b2 : Bool), TyX K H v t ∧ PySem.W.kitOne K t (.type "int") = some b1 ∧ PySem.W.kitOne K t (.type "bool") = some b2 ∧ b = (b1 && !b2)
theorem IntK.int {K : PySem.W.Frag} {H : Hp} (i : Int) : IntK K H (.int i) true := ⟨.type "int", true, false, .base (.int i), kit_ty (by decide +kernel), kit_ty (by decide +kernel), rfl⟩
/-- an integer i, or none -/
def Itm (K : PySem.W.Frag) (H : Hp) (v : V) : Option Int → Prop
  | some i => v = .int i
  | none => IntK K H v false
theorem g_isi {K : PySem.W.Frag} {H : Hp} {Q : VK} {x : V} {n : String} {t : Value} {b : Bool} (ty : TyX K H x t) (k : PySem.W.kitOne K t (.type n) = some b) (q : Q (.bl b) H) : rIsi K [x, .ty n] H Q := ⟨x, .ty n, t, .type n, b, rfl, .ty n, ty, k, q⟩
theorem kitAny2 {K : PySem.W.Frag} {t c c2 : Value} {b b2 : Bool} (h : PySem.W.kitOne K t c = some b) (h2 : PySem.W.kitOne K t c2 = some b2) : PySem.W.kitAny K t [c, c2] = some (b || b2) := by
  unfold PySem.W.kitAny
  rw [h]
  cases b with
  | true => rfl
  | false =>
    unfold PySem.W.kitAny
    rw [h2]
    cases b2 <;> rfl

theorem g_slA {K : PySem.W.Frag} {H : Hp} {Q : VK} {p : Addr} {xs : List V} {lo hi : Option Int} (h : SqT K H p xs) (q : ∀ p' H', Same H H' → SqT K H' p' (cutV xs lo hi) → Q (.ref p') H') : rSlA K (.ref p) lo hi H Q := by
  refine ⟨p, xs, rfl, h, fun hw => ?_, fun _ p' n' => q p' _ (same_new n') SqT.new⟩
  refine q p H (Same.refl H) ?_
  unfold cutV
  rw [hw.1, hw.2]
  simpa using h
theorem cutV1 (xs : List V) : cutV xs (some 1) none = xs.drop 1 := by
  unfold cutV
  rw [show HT.sIx xs.length 0 (some 1) = min 1 xs.length from HT.sIx_nat xs.length 0 1, HT.sIx_none]
  cases xs with
  | nil => rfl
  | cons x r =>
    rw [show min 1 (x :: r).length = 1 by
      rw [List.length_cons]
      omega]
    show (List.take ((x :: r).length - 1) r) = r
    rw [List.length_cons, Nat.add_sub_cancel]
    exact List.take_length
/-- rising along -/
def risesB : List Int → Bool
  | x :: y :: r => decide (x ≤ y) && risesB (y :: r)
  | _ => true
def zipUp (ns : List Int) : List Bool := (ns.zip (ns.drop 1)).map fun p => decide (p.1 ≤ p.2)
theorem risesB_zip : ∀ ns : List Int, risesB ns = (zipUp ns).all id
  | [] => rfl
  | [_] => rfl
  | x :: y :: r => by
    unfold risesB
    rw [risesB_zip (y :: r)]
    unfold zipUp
    simp
theorem risesB_of : ∀ {ns : List Int}, ns.Pairwise (· ≤ ·) → risesB ns = true
  | [], _ => rfl
  | [_], _ => rfl
  | x :: y :: r, h => by
    unfold risesB
    rw [List.pairwise_cons] at h
    rw [risesB_of h.2, decide_eq_true (h.1 y (by simp))]
    rfl
theorem zipUp_len (ns : List Int) : (zipUp ns).length = min ns.length (ns.drop 1).length := by
  unfold zipUp
  rw [List.length_map, List.length_zip]
theorem zipUp_at {ns : List Int} {i : Nat} {x y : Int} (h : ns[i]? = some x) (k : (ns.drop 1)[i]? = some y) : (zipUp ns)[i]? = some (decide (x ≤ y)) := by
  unfold zipUp
  rw [List.getElem?_map, (List.getElem?_zip_eq_some (z := (x, y))).mpr ⟨h, k⟩]
  rfl
theorem map_at {α β : Type} {f : α → β} {xs : List α} {i : Nat} {y : β} (h : (xs.map f)[i]? = some y) : ∃ x, xs[i]? = some x ∧ y = f x := by
  rw [List.getElem?_map] at h
  cases hz : xs[i]? with
  | none => rw [hz] at h; cases h
  | some z =>
    rw [hz] at h
    cases h
    exact ⟨z, rfl, rfl⟩

/-! ### the written part by its letter -/
def rLenS (K : PySem.W.Frag) : List V → Hp → VK → Prop := fun xs H Q => ∃ p ys, xs = [.ref p] ∧ (SqL K H p ys ∨ SqT K H p ys) ∧ Q (.int ys.length) H
def rTupOf (K : PySem.W.Frag) : List V → Hp → VK → Prop := fun xs H Q => ∃ p ys, xs = [.ref p] ∧ ((SqL K H p ys ∧ ∀ l, H l = none → Q (.ref l) (L2.upd H l (.tup ys))) ∨ (SqT K H p ys ∧ Q (.ref p) H))
def rLstOf (K : PySem.W.Frag) : List V → Hp → VK → Prop := fun xs H Q => ∃ p ys, xs = [.ref p] ∧ (SqL K H p ys ∨ SqT K H p ys) ∧ ∀ l, H l = none → Q (.ref l) (L2.upd H l (.lst ys))
section
variable {X : Cx} (K : PySem.W.Frag)
theorem kC {f : Value} {r : PySem.W.Frag → List V → Hp → VK → Prop} (h : X.K = K) (c : CallR X f (r X.K)) : CallR X f (r K) := h ▸ c
theorem kM {id : String} {r : PySem.W.Frag → V → List V → Hp → VK → Prop} (h : X.K = K) (c : MtR X id (r X.K)) : MtR X id (r K) := h ▸ c
theorem kO {f : Value → Value → Sem Value} {r : PySem.W.Frag → R2} (h : X.K = K) (c : OpR X f (r X.K)) : OpR X f (r K) := h ▸ c
theorem kI {r : PySem.W.Frag → R2} (h : X.K = K) (c : IxR X (r X.K)) : IxR X (r K) := h ▸ c
theorem kS {r : PySem.W.Frag → V → Option Int → Option Int → Hp → VK → Prop} (h : X.K = K) (c : SlR X (r X.K)) : SlR X (r K) := h ▸ c
theorem kLen (h : X.K = K) : CallR X (.builtin "len") (rLenS K) := kC K (r := rLenS) h call_len_seq
theorem kTupOf (h : X.K = K) : CallR X (.type "tuple") (rTupOf K) := kC K (r := rTupOf) h call_tuple_of
theorem kLstOf (h : X.K = K) : CallR X (.type "list") (rLstOf K) := kC K (r := rLstOf) h call_list_of
theorem kIsi (h : X.K = K) : CallR X (.builtin "isinstance") (rIsi K) := kC K (r := rIsi) h call_isi
theorem kIsiT (h : X.K = K) : CallR X (.builtin "isinstance") (rIsiT K) := kC K (r := rIsiT) h call_isiT
theorem kAll (hc : X.calm = true) (h : X.K = K) : CallR X (.builtin "all") (rAll K) := kC K (r := rAll) h (cr_all hc)
theorem kSorted (h : X.K = K) : CallR X (.builtin "sorted") (rSorted K) := kC K (r := rSorted) h cr_sorted
theorem kIxL (h : X.K = K) : IxR X (rIxL K) := kI K (r := rIxL) h ix_list
theorem kIxT (h : X.K = K) : IxR X (rIxT K) := kI K (r := rIxT) h ix_tup
theorem kSlL (h : X.K = K) : SlR X (rSlL K) := kS K (r := rSlL) h sl_list
theorem kSlA (h : X.K = K) : SlR X (rSlA K) := kS K (r := rSlA) h sl_tupA
theorem kCatA (h : X.K = K) : OpR X (binaryOp .Add) (rCatA K) := kO K (r := rCatA) h op_catA
theorem kEqD (h : X.K = K) (hu : X.A.units + 64 < cLine) : OpR X (compareOp .Eq) (rEqD K) := kO K (r := rEqD) h (op_eqD hu)
theorem kNeD (h : X.K = K) (hu : X.A.units + 64 < cLine) : OpR X (compareOp .NotEq) (rNeD K) := kO K (r := rNeD) h (op_neD hu)
theorem kIn (h : X.K = K) : OpR X (compareOp .In) (rIn K false) := kO K (r := fun K => rIn K false) h op_in_seq
theorem kNotIn (h : X.K = K) : OpR X (compareOp .NotIn) (rIn K true) := kO K (r := fun K => rIn K true) h op_notIn_seq
theorem kiList {tg l : Expr} {tl : TE} (h : X.K = K) (hl : PE X l tl) : PI X tg l (iList K tl) := h ▸ pi_list hl
theorem kiTup {tg l : Expr} {tl : TE} (h : X.K = K) (hl : PE X l tl) : PI X tg l (iTup K tl) := h ▸ pi_tup hl
theorem kpFld {e : Expr} {f : Str} {ta : TE} {pos : Pos} (h : X.K = K) (he : PE X e ta) (hb : attributeBase e f X.env (eval e X.env) = eval e X.env) : PE X (.Attribute e f pos) (tFld K ta f) := h ▸ pe_fld he hb
theorem kiZip {e e2 : Expr} {ta : TA} {p pos tpos : Pos} {elts : List Expr} {kk : Nat} (h : X.K = K) (hg : Gl X "zip") (hm : X.mg "zip" = none) (ha : PA X [e, e2] ta)
    (hs : starEach [e, e2] X.env = (false, eval e X.env) :: starEach [e2] X.env := by rfl) (hpl : (backTo pos (starEach [e2] X.env)).any (·.1) = false := by rfl) :
    PI X (.Tuple elts kk tpos) (.Call (.Name "zip" p) [e, e2] [] pos) (RZ.iZipA K ta) := h ▸ RZ.pi_zipA hg hm ha hs hpl
theorem kiEnum {e : Expr} {ta : TA} {p pos tpos : Pos} {elts : List Expr} {kk : Nat} (h : X.K = K) (hg : Gl X "enumerate") (hm : X.mg "enumerate" = none) (ha : PA X [e] ta) (hs : starEach [e] X.env = [(false, eval e X.env)] := by rfl) :
    PI X (.Tuple elts kk tpos) (.Call (.Name "enumerate" p) [e] [] pos) (iEnum K ta) := h ▸ pi_enum hg hm ha hs
theorem kgTup {es : List Expr} {k : Nat} {t : TGs} {n : Nat} {pos : Pos} (h : X.K = K) (hc : X.calm = true) (ht : PGs X es t)
    (hn : (assignEach es X.env).length = n := by rfl) (hst : (assignEach es X.env).findIdx? (·.1) = none := by rfl) : PG X (.Tuple es k pos) (gTup K n t) := h ▸ pg_tup hc ht hn hst
end
theorem filt1 {α : Type} {p : α → Bool} {z : α} (h : p z = true) : [z].filter p = [z] := by simp [h]
theorem filt0 {α : Type} {p : α → Bool} {z : α} (h : ¬ p z = true) : [z].filter p = [] := by simp [h]
end Pf
namespace Pf
open PySem PySem.Spec PyProof.Rows L2
theorem canLay_ints : ∀ ns : List Int, PyData.canLayAll0 (ns.map PyData.int) = true
  | [] => rfl
  | _ :: r => by
    show (PyData.canLay0 (.int _) && PyData.canLayAll0 (r.map PyData.int)) = true
    rw [canLay_ints r]
    rfl
theorem depth_ints : ∀ ns : List Int, PyData.depthAll (ns.map PyData.int) = 0
  | [] => rfl
  | _ :: r => by
    show max (PyData.depth (.int _)) (PyData.depthAll (r.map PyData.int)) = 0
    rw [depth_ints r]
    rfl
theorem shaped_tupI (ns : List Int) : SeqAt.shaped (tupI ns) = true := by
  unfold SeqAt.shaped
  rw [Bool.and_eq_true]
  refine ⟨canLay_ints ns, decide_eq_true ?_⟩
  show PyData.depthAll (ns.map PyData.int) + 1 ≤ 64
  rw [depth_ints]
  decide
theorem eqv_ints : ∀ ns ms : List Int, PyData.eqvAll (ns.map PyData.int) (ms.map PyData.int) = decide (ns = ms)
  | [], [] => rfl
  | [], _ :: _ => rfl
  | _ :: _, [] => rfl
  | x :: r, y :: q => by
    show ((x == y) && PyData.eqvAll (r.map PyData.int) (q.map PyData.int)) = _
    rw [eqv_ints r q, Bool.eq_iff_iff]
    simp
theorem eqv_tupI (ns ms : List Int) : PyData.eqv (tupI ns) (tupI ms) = decide (ns = ms) := eqv_ints ns ms
theorem atI_snoc {cs : List Int} {z : Int} (h : cs.getLast? = some z) : atI (cs.map V.int) (-1) = some (.int z) := by
  have hl : cs ≠ [] := fun e => by rw [e] at h; cases h
  have e : cs = cs.dropLast ++ [cs.getLast hl] := (List.dropLast_concat_getLast hl).symm
  have ez : cs.getLast hl = z := by
    rw [List.getLast?_eq_getLast hl] at h
    exact Option.some.inj h
  rw [e, ez, List.map_append]
  exact atI_last _ _
theorem g_catA {K : PySem.W.Frag} {H : Hp} {Q : VK} {a b : Addr} {xs ys : List V} (ha : SqT K H a xs) (hb : SqT K H b ys) (hl : xs.length + ys.length ≤ sizeLine) (q : ∀ p H', Same H H' → SqT K H' p (xs ++ ys) → Q (.ref p) H') : rCatA K (.ref a) (.ref b) H Q :=
  ⟨a, b, xs, ys, rfl, rfl, ha, hb, hl, fun e => by subst e; exact q b H (Same.refl H) hb, fun _ e => by subst e; exact q a H (Same.refl H) (by simpa using ha), fun _ _ p np => q p _ (same_new np) SqT.new⟩
theorem dec_ite {c : Prop} [Decidable c] {A B : Prop} {b : Bool} (e : b = decide c) (h1 : c → A) (h2 : ¬ c → B) : if b = true then A else B := by
  subst e
  exact g_ite h1 h2
theorem walk_rng0 {n : Nat} : Walk (Itr 0 n) n (fun _ => True) (fun i H x H' => H' = H ∧ x = .int ((i : Nat) : Int)) :=
  walk_range.mono (fun _ h => h) fun i H x H' _ _ h => ⟨h.1, by rw [h.2]; show V.int (0 + (i : Int)) = _; rw [Int.zero_add]⟩
end Pf
namespace Pf
open PySem PySem.Spec PyProof.Rows L2
theorem ksFld {X : Cx} (K : PySem.W.Frag) {o value : Expr} {f : Str} {ta tv : TE} {pos pos' : Pos} (h : X.K = K) (ha : PE X o ta) (hv : PE X value tv) (hs : swapsWith value (some (.Attribute o f pos')) pos.line X.env = pure false) : PS X (.Assign [.Attribute o f pos'] value pos) (sFld K ta tv f) := h ▸ ps_fld ha hv hs
end Pf

namespace Pf
open PySem PySem.Spec PyProof.Rows L2
theorem g_sfld {K : PySem.W.Frag} {σ : L2.St} {H : Hp} {D : Ends} {ta tv : TE} {f : Str} (q : tv σ H fun y H1 => ta σ H1 fun x H2 => ∃ a C dx fs, x = .ref a ∧ H2 a = some (.ins C dx fs) ∧ Cls K C ∧ NoAttr K C f ∧ fs.length < 1000 ∧ D.nx σ (L2.upd H2 a (.ins C dx (putF f y fs)))) : sFld K ta tv f D σ H := q
theorem g_fld {K : PySem.W.Frag} {σ : L2.St} {H : Hp} {Q : VK} {ta : TE} {f : Str} (q : ta σ H fun x H1 => ∃ a C dx fs v, x = .ref a ∧ H1 a = some (.ins C dx fs) ∧ Cls K C ∧ NoAttr K C f ∧ fs.lookup f = some v ∧ Q v H1) : tFld K ta f σ H Q := q
theorem g_make {C : Addr} {sp : Sp} {dvs : List V} {E : XK} {t : TA} {σ : L2.St} {H : Hp} {Q : VK} (q : t σ H fun vs H1 => ∀ x dx, H1 x = none → H1 dx = none → dx ≠ x →
  sp (.ref x :: (vs ++ dvs)) (L2.upd (L2.upd H1 dx (.own x)) x (.ins C dx [])) (fun v H2 => v = .non ∧ Q (.ref x) H2) E) : tMake C sp dvs E t σ H Q := q
theorem g_lstRg {te : L2.St → Hp → (Int → Int → Hp → Prop) → Prop} {σ : L2.St} {H : Hp} {Q : VK} (q : te σ H fun a b H1 => RgOk a b ∧ ∀ q, H1 q = none → Q (.ref q) (L2.upd H1 q (.lst (rgV a b)))) : tLstRg te σ H Q := q
theorem g_tupRg {te : L2.St → Hp → (Int → Int → Hp → Prop) → Prop} {σ : L2.St} {H : Hp} {Q : VK} (q : te σ H fun a b H1 => RgOk a b ∧ ∀ q, H1 q = none → Q (.ref q) (L2.upd H1 q (.tup (rgV a b)))) : tTupRg te σ H Q := q
theorem g_rg1 {ta : TE} {σ : L2.St} {H : Hp} {Q : Int → Int → Hp → Prop} (q : ta σ H fun x H1 => ∃ n, x = .int n ∧ Q 0 n H1) : tRg1 ta σ H Q := q
end Pf

namespace Pf
open PySem PySem.Spec PyProof.Rows L2
local macro_rules | `(tactic| walk_at "one") => `(tactic| first
  | refine g_var rfl ?_ | refine g_c ?_ | refine g_op ?_ | refine g_rI0 ?_ | refine g_eqI ?_ | refine g_neI ?_ | refine g_eqB ?_ | refine g_neB ?_ | refine g_test ?_ | refine g_tB ?_ | refine g_bl ?_
  | refine g_and ?_ | refine g_or ?_ | refine g_not ?_ | refine g_andV ?_ | refine g_orV ?_ | refine g_notV ?_ | refine g_if ?_ | refine g_un ?_ | refine g_rU ?_ | refine g_chain ?_
  | refine g_ifS ?_ | refine g_next ?_ | refine g_asg ?_ | refine g_name ?_ | refine g_sub ?_ | refine g_ret ?_ | refine g_drop ?_ | refine g_cons ?_ | refine g_nil ?_ | refine g_cb ?_
  | refine g_tup ?_ | refine g_lst ?_ | refine g_sl ?_ | refine g_nopart ?_ | refine g_part ?_ | refine g_part2 ?_ | refine g_call ?_ | (show (∃ k, [V.int _] = [V.int k] ∧ _) ∨ _; refine .inl ⟨_, rfl, ?_⟩) | refine g_yes ?_ | refine g_oFF ?_ | refine g_oTx ?_ | refine g_oFT ?_ | refine g_noTx ?_ | refine g_noFT ?_ | refine g_noFF ?_ | refine g_nT ?_ | refine g_nF ?_ | refine g_sfld ?_ | refine g_fld ?_ | refine g_make ?_ | refine g_lstRg ?_ | refine g_tupRg ?_ | refine g_rg1 ?_ | refine g_lc ?_ | refine g_for ?_ | refine g_iL ?_ | refine g_iT ?_ | refine g_iR1 ?_ | refine g_iR2 ?_ | refine g_iZA ?_ | refine g_bm ?_ | refine iteT ?_ | refine iteF ?_)
local macro_rules | `(tactic| walk_at "go") => `(tactic| repeat (with_reducible first | walk_at "one" | refine g_seq ?_))
local macro_rules | `(tactic| walk_at "gs") => `(tactic| ((repeat (with_reducible walk_at "one")); try dsimp only))
def topS (i : Nat) : Stmt := PySem.Challenge.pw_takenover_k10_whole_borders_and_sheets.main.body.getD i (.Pass ⟨0, 0, 0, 0⟩)
abbrev s_is_integer : Stmt := topS 5
theorem sc_is_integer : FnScope ["thing"] ["thing"] (defScope s_is_integer) := ⟨rfl, rfl, rfl, by decide +kernel, rfl, by decide +kernel, by decide +kernel⟩
abbrev s_is_between : Stmt := topS 6
theorem sc_is_between : FnScope ["thing", "least", "most"] ["thing", "least", "most"] (defScope s_is_between) := ⟨rfl, rfl, rfl, by decide +kernel, rfl, by decide +kernel, by decide +kernel⟩
abbrev s_is_number : Stmt := topS 7
theorem sc_is_number : FnScope ["thing", "many"] ["thing", "many"] (defScope s_is_number) := ⟨rfl, rfl, rfl, by decide +kernel, rfl, by decide +kernel, by decide +kernel⟩
abbrev s_are_numbers : Stmt := topS 8
theorem sc_are_numbers : FnScope ["things", "many", "thing"] ["things", "many"] (defScope s_are_numbers) := ⟨rfl, rfl, rfl, by decide +kernel, rfl, by decide +kernel, by decide +kernel⟩
abbrev s_never_falls : Stmt := topS 9
theorem sc_never_falls : FnScope ["numbers", "one", "other"] ["numbers"] (defScope s_never_falls) := ⟨rfl, rfl, rfl, by decide +kernel, rfl, by decide +kernel, by decide +kernel⟩
abbrev s_are_sheets : Stmt := topS 10
theorem sc_are_sheets : FnScope ["thing"] ["thing"] (defScope s_are_sheets) := ⟨rfl, rfl, rfl, by decide +kernel, rfl, by decide +kernel, by decide +kernel⟩
abbrev s_check_sheets : Stmt := topS 12
theorem sc_check_sheets : FnScope ["sheets"] ["sheets"] (defScope s_check_sheets) := ⟨rfl, rfl, rfl, by decide +kernel, rfl, by decide +kernel, by decide +kernel⟩
abbrev s_borders : Stmt := topS 13
theorem sc_borders : FnScope ["sheets", "border", "edition"] ["sheets"] (defScope s_borders) := ⟨rfl, rfl, rfl, by decide +kernel, rfl, by decide +kernel, by decide +kernel⟩
abbrev s_are_cuts : Stmt := topS 14
theorem sc_are_cuts : FnScope ["thing"] ["thing"] (defScope s_are_cuts) := ⟨rfl, rfl, rfl, by decide +kernel, rfl, by decide +kernel, by decide +kernel⟩
abbrev s_read_off : Stmt := topS 15
theorem sc_read_off : FnScope ["cuts", "office", "cut"] ["cuts"] (defScope s_read_off) := ⟨rfl, rfl, rfl, by decide +kernel, rfl, by decide +kernel, by decide +kernel⟩
abbrev s_law_dice : Stmt := topS 17
theorem sc_law_dice : FnScope ["_law_script", "_law_cell"] ["_law_script"] (defScope s_law_dice) := ⟨rfl, rfl, rfl, by decide +kernel, rfl, by decide +kernel, by decide +kernel⟩
abbrev s_law_draw : Stmt := topS 18
theorem sc_law_draw : FnScope ["_law_dice_here", "_law_sides", "_law_cell", "_law_digit", "_law_mixed"] ["_law_dice_here", "_law_sides"] (defScope s_law_draw) := ⟨rfl, rfl, rfl, by decide +kernel, rfl, by decide +kernel, by decide +kernel⟩
abbrev s_law_is : Stmt := topS 19
theorem sc_law_is : FnScope ["_law_told", "_law_due", "_law_one", "_law_two"] ["_law_told", "_law_due"] (defScope s_law_is) := ⟨rfl, rfl, rfl, by decide +kernel, rfl, by decide +kernel, by decide +kernel⟩
abbrev s_law_cuts : Stmt := topS 20
theorem sc_law_cuts : FnScope ["_law_editions", "_law_border", "_law_own"] ["_law_editions"] (defScope s_law_cuts) := ⟨rfl, rfl, rfl, by decide +kernel, rfl, by decide +kernel, by decide +kernel⟩
abbrev s_law_rising : Stmt := topS 21
theorem sc_law_rising : FnScope ["_law_most", "_law_many", "_law_found", "_law_k", "_law_longer", "_law_row", "_law_number"] ["_law_most", "_law_many"] (defScope s_law_rising) := ⟨rfl, rfl, rfl, by decide +kernel, rfl, by decide +kernel, by decide +kernel⟩
abbrev s_law_right : Stmt := topS 22
theorem sc_law_right : FnScope ["_law_here", "_law_told", "_law_office", "_law_edition"] ["_law_here"] (defScope s_law_right) := ⟨rfl, rfl, rfl, by decide +kernel, rfl, by decide +kernel, by decide +kernel⟩
abbrev s_law : Stmt := topS 23
theorem sc_law : FnScope ["_law_script", "_law_dice_here", "_law_offices", "_law_here", "_law_inner", "_law_cuts_here", "_law_turn", "_law_many", "_law_k"] ["_law_script"] (defScope s_law) := ⟨rfl, rfl, rfl, by decide +kernel, rfl, by decide +kernel, by decide +kernel⟩
/-- where the defs stand behind the top -/
structure Ad where
  f_is_integer : Addr
  d_is_integer : FuncData
  f_is_between : Addr
  d_is_between : FuncData
  f_is_number : Addr
  d_is_number : FuncData
  f_are_numbers : Addr
  d_are_numbers : FuncData
  f_never_falls : Addr
  d_never_falls : FuncData
  f_are_sheets : Addr
  d_are_sheets : FuncData
  f_check_sheets : Addr
  d_check_sheets : FuncData
  f_borders : Addr
  d_borders : FuncData
  f_are_cuts : Addr
  d_are_cuts : FuncData
  f_read_off : Addr
  d_read_off : FuncData
  f_law_dice : Addr
  d_law_dice : FuncData
  f_law_draw : Addr
  d_law_draw : FuncData
  f_law_is : Addr
  d_law_is : FuncData
  f_law_cuts : Addr
  d_law_cuts : FuncData
  f_law_rising : Addr
  d_law_rising : FuncData
  f_law_right : Addr
  d_law_right : FuncData
  f_law : Addr
  d_law : FuncData
/-- what the top has left -/
structure Txt (K : PySem.W.Frag) (mg : Str → Option Value) (a : Ad) : Prop where
  F_is_integer : Fun K "is_integer" "is_integer" s_is_integer a.f_is_integer a.d_is_integer
  g_is_integer : mg "is_integer" = some (.ref a.f_is_integer)
  b_is_integer : Binds K a.d_is_integer ["thing"] []
  F_is_between : Fun K "is_between" "is_between" s_is_between a.f_is_between a.d_is_between
  g_is_between : mg "is_between" = some (.ref a.f_is_between)
  b_is_between : Binds K a.d_is_between ["thing", "least", "most"] []
  F_is_number : Fun K "is_number" "is_number" s_is_number a.f_is_number a.d_is_number
  g_is_number : mg "is_number" = some (.ref a.f_is_number)
  b_is_number : Binds K a.d_is_number ["thing", "many"] []
  F_are_numbers : Fun K "are_numbers" "are_numbers" s_are_numbers a.f_are_numbers a.d_are_numbers
  g_are_numbers : mg "are_numbers" = some (.ref a.f_are_numbers)
  b_are_numbers : Binds K a.d_are_numbers ["things", "many"] []
  F_never_falls : Fun K "never_falls" "never_falls" s_never_falls a.f_never_falls a.d_never_falls
  g_never_falls : mg "never_falls" = some (.ref a.f_never_falls)
  b_never_falls : Binds K a.d_never_falls ["numbers"] []
  F_are_sheets : Fun K "are_sheets" "are_sheets" s_are_sheets a.f_are_sheets a.d_are_sheets
  g_are_sheets : mg "are_sheets" = some (.ref a.f_are_sheets)
  b_are_sheets : Binds K a.d_are_sheets ["thing"] []
  F_check_sheets : Fun K "check_sheets" "check_sheets" s_check_sheets a.f_check_sheets a.d_check_sheets
  g_check_sheets : mg "check_sheets" = some (.ref a.f_check_sheets)
  b_check_sheets : Binds K a.d_check_sheets ["sheets"] []
  F_borders : Fun K "borders" "borders" s_borders a.f_borders a.d_borders
  g_borders : mg "borders" = some (.ref a.f_borders)
  b_borders : Binds K a.d_borders ["sheets"] []
  F_are_cuts : Fun K "are_cuts" "are_cuts" s_are_cuts a.f_are_cuts a.d_are_cuts
  g_are_cuts : mg "are_cuts" = some (.ref a.f_are_cuts)
  b_are_cuts : Binds K a.d_are_cuts ["thing"] []
  F_read_off : Fun K "read_off" "read_off" s_read_off a.f_read_off a.d_read_off
  g_read_off : mg "read_off" = some (.ref a.f_read_off)
  b_read_off : Binds K a.d_read_off ["cuts"] []
  F_law_dice : Fun K "_law_dice" "_law_dice" s_law_dice a.f_law_dice a.d_law_dice
  g_law_dice : mg "_law_dice" = some (.ref a.f_law_dice)
  b_law_dice : Binds K a.d_law_dice ["_law_script"] []
  F_law_draw : Fun K "_law_draw" "_law_draw" s_law_draw a.f_law_draw a.d_law_draw
  g_law_draw : mg "_law_draw" = some (.ref a.f_law_draw)
  b_law_draw : Binds K a.d_law_draw ["_law_dice_here", "_law_sides"] []
  F_law_is : Fun K "_law_is" "_law_is" s_law_is a.f_law_is a.d_law_is
  g_law_is : mg "_law_is" = some (.ref a.f_law_is)
  b_law_is : Binds K a.d_law_is ["_law_told", "_law_due"] []
  F_law_cuts : Fun K "_law_cuts" "_law_cuts" s_law_cuts a.f_law_cuts a.d_law_cuts
  g_law_cuts : mg "_law_cuts" = some (.ref a.f_law_cuts)
  b_law_cuts : Binds K a.d_law_cuts ["_law_editions"] []
  F_law_rising : Fun K "_law_rising" "_law_rising" s_law_rising a.f_law_rising a.d_law_rising
  g_law_rising : mg "_law_rising" = some (.ref a.f_law_rising)
  b_law_rising : Binds K a.d_law_rising ["_law_most", "_law_many"] []
  F_law_right : Fun K "_law_right" "_law_right" s_law_right a.f_law_right a.d_law_right
  g_law_right : mg "_law_right" = some (.ref a.f_law_right)
  b_law_right : Binds K a.d_law_right ["_law_here"] []
  F_law : Fun K "law" "law" s_law a.f_law a.d_law
  g_law : mg "law" = some (.ref a.f_law)
  b_law : Binds K a.d_law ["_law_script"] []
  z_isinstance : mg "isinstance" = none
  z_int : mg "int" = none
  z_bool : mg "bool" = none
  z_tuple : mg "tuple" = none
  z_list : mg "list" = none
  z_len : mg "len" = none
  z_abs : mg "abs" = none
  z_all : mg "all" = none
  z_zip : mg "zip" = none
  z_range : mg "range" = none
  z_sorted : mg "sorted" = none
section
variable {P : Program} {w : World} {K : PySem.W.Frag} {mg : Str → Option Value} {base : Heap} {a : Ad}
/-! ### the drawn numbers -/
def sp_law_dice (K : PySem.W.Frag) : Sp := fun vs H Q _ => ∃ (s : Addr) (ns : List Int), vs = [.ref s] ∧ SqL K H s (ns.map V.int) ∧ ns.length ≤ 63 ∧ ∀ H' d c, Same H H' → H d = none → Dice d c H' → Q (.ref d) H'
theorem ok_law_dice (T : Txt K mg a) : FnOk P w K mg base CX0 1 a.f_law_dice a.d_law_dice ["_law_script"] (sp_law_dice K) := by
  refine T.F_law_dice.ok sc_law_dice (fun vs H Q E h => ?_) (fun cdv A outer s H vs Q E hr h => ?_)
  · obtain ⟨s, ns, rfl, _⟩ := h
    rfl
  · obtain ⟨s0, ns, rfl, hS, hlen, q⟩ := h
    refine ⟨_, (pss_one (ps_ret (pe_lst (pa_cons (pe_lc (own := [("_law_cell", 1)]) (g := (gName 1)) rfl sc_law_dice.nd (kiList K rfl (pe_slice (kSlL K rfl) (pv 0) po_none (po_some pe_int))) (blkOk_by (own := [("_law_cell", 1)]) (N := ["_law_script", "_law_cell"]) (sc := defScope s_law_dice) (by decide +kernel)) (fun _ _ _ _ _ => (pg_name (i := 1) sc_law_dice.nd rfl (.inl rfl))) (fun _ _ _ _ _ => pts_nil) (fun _ _ _ _ _ => (pe_callB call_abs (by rfl) T.z_abs (by decide +kernel) (pa_cons (pe_callTy call_int1 (by rfl) T.z_int (by decide +kernel) (pa_cons (pv 1) pa_nil)) pa_nil)))) (pa_cons pe_int (pa_cons pe_int (pa_cons pe_int (pa_cons pe_int pa_nil)))))))), ?_⟩
    refine ⟨.ref s0, rfl, 63, rfl, s0, ns.map V.int, rfl, hS, fun p np => ?_⟩
    refine ⟨p, rfl, ⟨_, SqL.new⟩, fun D nD => ?_⟩
    have npD : p ≠ D := fun e => by
      rw [← e, upd_same] at nD
      cases nD
    have nD0 : H D = none := by
      rw [upd_ne npD.symm] at nD
      exact nD
    refine lc_it (walk_list (K := K) (a := p) (xs := cutV (ns.map V.int) none (some 63))) (fun i H' => Same H H' ∧ H' p = some (.lst (cutV (ns.map V.int) none (some 63))) ∧ ∃ cs : List Int, H' D = some (.lst (cs.map V.int)) ∧ cs.length = i ∧ ∀ x ∈ cs, 0 ≤ x)
      ⟨Same.put (same_new np) nD0, ?_, [], upd_same, rfl, fun x hx => by cases hx⟩ (fun i H' _ h => SqL.at h.2.1) (fun i x H1 H2 hi h hy => ?_) (fun H' h => ?_)
    · rw [upd_ne npD, upd_same]
    · obtain ⟨sm, hp, cs, hD, hl, h0⟩ := h
      obtain ⟨rfl, hx⟩ := hy
      obtain ⟨z, rfl⟩ := cutV_int hx
      refine ⟨rfl, g_yes (iteT ?_)⟩
      refine ⟨.int z, rfl, .inl ⟨z, rfl, z, rfl, cs.map V.int, hD, ?_, Same.put sm nD0, ?_, cs ++ [if z < 0 then -z else z], ?_, ?_, ?_⟩⟩
      · rw [List.length_map, hl]
        have := cutV_length (ns.map V.int) none (some 63)
        rw [List.length_map] at this
        exact small1000 (by omega)
      · rw [upd_ne npD]
        exact hp
      · rw [upd_same, List.map_append]
        rfl
      · rw [List.length_append, hl]
        rfl
      · intro x hx
        rcases List.mem_append.mp hx with hx | hx
        · exact h0 x hx
        · rw [List.mem_singleton.mp hx]
          split <;> omega
    · obtain ⟨sm, hp, cs, hD, hl, h0⟩ := h
      refine ⟨by show 5 ≤ sizeLine; decide, fun d nd => ?_⟩
      refine q _ d D (sm.trans (same_new nd)) ?_ ⟨cs, 0, 0, 1, 0, upd_same, ?_, ?_, h0, by decide, by decide, by decide, by decide, by decide⟩
      · exact sm.free nd
      · rw [upd_ne (ne_of_none hD nd)]
        exact hD
      · exact ne_of_none hD nd
def sp_law_draw : Sp := fun vs H Q _ => ∃ (d c : Addr) (n : Int), vs = [.ref d, .int n] ∧ Dice d c H ∧ 0 < n ∧ n ≤ 1000000000000 ∧ ∀ H' r, Fr d H H' → Dice d c H' → 0 ≤ r → r < n → Q (.int r) H'
theorem ok_law_draw (T : Txt K mg a) : FnOk P w K mg base CX0 1 a.f_law_draw a.d_law_draw ["_law_dice_here", "_law_sides"] sp_law_draw := by
  refine T.F_law_draw.ok sc_law_draw (fun vs H Q E h => ?_) (fun cdv A outer s H vs Q E hr h => ?_)
  · obtain ⟨d, c, n, rfl, _⟩ := h
    rfl
  · obtain ⟨d, c, n, rfl, hD, n0, n1, q⟩ := h
    refine ⟨_, (pss_cons (ps_if (PW.pt (pw_and (pt_cmpR op_eq (pe_ix (kIxL K rfl) (pv 0) pe_int (fun _ _ => rfl)) pe_int (nomark _)) (pw_and1 (pt_cmpR op_lt (pe_ix (kIxL K rfl) (pv 0) pe_int (fun _ _ => rfl)) (pe_callB (kLen K rfl) (by rfl) T.z_len (by decide +kernel) (pa_cons (pe_ix (kIxL K rfl) (pv 0) pe_int (fun _ _ => rfl)) pa_nil)) (nomark _)))))
  (pss_cons (ps_set (i := 2) sc_law_draw.nd rfl (.inl rfl) (pe_ix (kIxL K rfl) (pe_ix (kIxL K rfl) (pv 0) pe_int (fun _ _ => rfl)) (pe_ix (kIxL K rfl) (pv 0) pe_int (fun _ _ => rfl)) (fun _ _ => rfl)))
  (pss_cons (ps_asg (pe_op op_add (pe_ix (kIxL K rfl) (pv 0) pe_int (fun _ _ => rfl)) pe_int) (pg_sub (pv 0) pe_int set_list))
  (pss_one (ps_if (pt_cmpR op_ge (pv 2) (pe_op op_pow pe_int pe_int) (nomark _))
  (pss_one (ps_asg (pv 2) (pg_sub (pv 0) pe_int set_list)))
  (pss_one (ps_asg (pe_op op_mod (pe_callTy call_int1 (by rfl) T.z_int (by decide +kernel) (pa_cons (pe_op op_add (pe_op op_add (pe_op op_mul (pe_ix (kIxL K rfl) (pv 0) pe_int (fun _ _ => rfl)) pe_int) (pe_op op_mul (pv 2) pe_int)) (pe_ix (kIxL K rfl) (pv 0) pe_int (fun _ _ => rfl))) pa_nil)) pe_int) (pg_sub (pv 0) pe_int set_list)))))))
  pss_nil)
  (pss_cons (ps_if (pt_cmpR op_gt (pe_ix (kIxL K rfl) (pv 0) pe_int (fun _ _ => rfl)) pe_int (nomark _))
  (pss_cons (ps_set (i := 3) sc_law_draw.nd rfl (.inl rfl) (pe_op op_mod (pe_callTy call_int1 (by rfl) T.z_int (by decide +kernel) (pa_cons (pe_ix (kIxL K rfl) (pv 0) pe_int (fun _ _ => rfl)) pa_nil)) (pv 1)))
  (pss_cons (ps_asg (pe_op op_fdivW (pe_callTy call_int1 (by rfl) T.z_int (by decide +kernel) (pa_cons (pe_ix (kIxL K rfl) (pv 0) pe_int (fun _ _ => rfl)) pa_nil)) (pv 1)) (pg_sub (pv 0) pe_int set_list))
  (pss_one (ps_ret (pv 3)))))
  pss_nil)
  (pss_cons (ps_asg (pe_op op_add (pe_ix (kIxL K rfl) (pv 0) pe_int (fun _ _ => rfl)) pe_int) (pg_sub (pv 0) pe_int set_list))
  (pss_cons (ps_asg (pe_op op_mod (pe_callTy call_int1 (by rfl) T.z_int (by decide +kernel) (pa_cons (pe_op op_add (pe_op op_add (pe_op op_mul (pe_ix (kIxL K rfl) (pv 0) pe_int (fun _ _ => rfl)) pe_int) (pe_op op_mul (pe_ix (kIxL K rfl) (pv 0) pe_int (fun _ _ => rfl)) pe_int)) pe_int) pa_nil)) pe_int) (pg_sub (pv 0) pe_int set_list))
  (pss_cons (ps_set (i := 4) sc_law_draw.nd rfl (.inl rfl) (pe_op op_mod (pe_callTy call_int1 (by rfl) T.z_int (by decide +kernel) (pa_cons (pe_op op_mul (pe_ix (kIxL K rfl) (pv 0) pe_int (fun _ _ => rfl)) (pe_op op_add (pe_op op_fdiv (pe_ix (kIxL K rfl) (pv 0) pe_int (fun _ _ => rfl)) pe_int) pe_int)) pa_nil)) pe_int))
  (pss_cons (ps_set (i := 4) sc_law_draw.nd rfl (.inl rfl) (pe_op op_mod (pe_callTy call_int1 (by rfl) T.z_int (by decide +kernel) (pa_cons (pe_op op_mul (pv 4) (pe_op op_add (pe_op op_fdiv (pv 4) pe_int) pe_int)) pa_nil)) pe_int))
  (pss_one (ps_ret (pe_op op_mod (pe_callTy call_int1 (by rfl) T.z_int (by decide +kernel) (pa_cons (pe_op op_fdiv (pv 4) pe_int) pa_nil)) (pv 1)))))))))), ?_⟩
    obtain ⟨cs, i, qq, s1, t, h1, h2, ncd, h0, hi, hq, hs, hs2, ht⟩ := hD
    refine seq_cut (fun σ' H' => ∃ y2 i' q' s', σ' = [some (.ref d), some (.int n), y2, none, none] ∧ H' d = some (.lst [.ref c, .int i', .int q', .int s', .int t]) ∧ H' c = some (.lst (cs.map V.int)) ∧ Fr d H H' ∧ 0 ≤ i' ∧ 0 ≤ q' ∧ 0 ≤ s' ∧ s' < 2147483648) ?rest ?first
    case first =>
      intro N hN
      walk_at "go"
      refine g_ixL (SqL.at h1) rfl ?_
      walk_at "go"
      refine g_ite (fun e0 => ?_) (fun e0 => ?_)
      · walk_at "go"
        refine g_ixL (SqL.at h1) rfl ?_
        walk_at "go"
        refine g_ixL (SqL.at h1) rfl ?_
        walk_at "go"
        refine ⟨_, _, rfl, .inl (SqL.at h2), ?_⟩
        walk_at "go"
        refine g_ite (fun e1 => ?_) (fun e1 => ?_)
        · obtain ⟨z, hz, _, ez⟩ := atI_int hi e1
          walk_at "go"
          refine g_ixL (SqL.at h1) rfl ?_
          walk_at "go"
          refine g_ixL (SqL.at h1) rfl ?_
          walk_at "go"
          refine g_ixL (SqL.at h2) ez ?_
          walk_at "go"
          refine g_ixL (SqL.at h1) rfl ?_
          walk_at "go"
          refine g_setL h1 rfl ?_
          have h1' : upd H d (.lst [.ref c, .int (i + 1), .int qq, .int s1, .int t]) d = some (.lst [.ref c, .int (i + 1), .int qq, .int s1, .int t]) := upd_same
          have h2' : upd H d (.lst [.ref c, .int (i + 1), .int qq, .int s1, .int t]) c = some (.lst (cs.map V.int)) := by rw [upd_ne ncd]; exact h2
          walk_at "go"
          refine g_rI ⟨by decide, by decide, by decide⟩ ?_
          walk_at "go"
          have z0 := h0 z hz
          refine g_ite (fun e2 => ?_) (fun e2 => ?_)
          · walk_at "go"
            refine g_setL h1' rfl ?_
            refine hN _ _ ⟨_, i + 1, z, s1, rfl, upd_same, by rw [upd_ne ncd]; exact h2', Fr.upd.trans Fr.upd, by omega, z0, hs, hs2⟩
          · have e3 : z < 10 ^ 18 := by
              rw [show (10 : Int) ^ (Int.toNat 18) = 1000000000000000000 from rfl] at e2
              omega
            walk_at "go"
            refine g_ixL (SqL.at h1') rfl ?_
            walk_at "go"
            refine g_rI (.inl ⟨by omega, by omega⟩) ?_
            walk_at "go"
            refine g_rI (.inl ⟨by omega, by omega⟩) ?_
            walk_at "go"
            refine g_ixL (SqL.at h1') rfl ?_
            walk_at "go"
            refine g_rI (by decide) ?_
            walk_at "go"
            refine g_setL h1' rfl ?_
            refine hN _ _ ⟨_, i + 1, qq, _, rfl, upd_same, by rw [upd_ne ncd]; exact h2', Fr.upd.trans Fr.upd, by omega, hq, ?_, ?_⟩
            · exact Int.emod_nonneg _ (by decide)
            · have := Int.emod_lt_of_pos (s1 * 69621 + z * 40692 + (i + 1)) (show (0 : Int) < 2147483647 by decide)
              omega
        · walk_at "go"
          exact hN _ _ ⟨_, i, qq, s1, rfl, h1, h2, Fr.refl d H, hi, hq, hs, hs2⟩
      · walk_at "go"
        exact hN _ _ ⟨_, i, qq, s1, rfl, h1, h2, Fr.refl d H, hi, hq, hs, hs2⟩
    case rest =>
      rintro σ' H1 ⟨y2, i, qq, s1, rfl, h1, h2, fr, hi, hq, hs, hs2⟩
      walk_at "go"
      refine g_ixL (SqL.at h1) rfl ?_
      walk_at "go"
      refine g_ite (fun e0 => ?_) (fun e0 => ?_)
      · walk_at "go"
        refine g_ixL (SqL.at h1) rfl ?_
        walk_at "go"
        refine g_rI n0 ?_
        walk_at "go"
        refine g_ixL (SqL.at h1) rfl ?_
        walk_at "go"
        refine g_rI (wide_div n0 (b := 60) (by omega) (by decide) (by decide)) ?_
        walk_at "go"
        refine g_setL h1 rfl ?_
        walk_at "go"
        exact q _ _ (fr.trans Fr.upd) ⟨cs, i, _, s1, t, upd_same, by rw [upd_ne ncd]; exact h2, ncd, h0, hi, Int.ediv_nonneg hq (by omega), hs, hs2, ht⟩ (Int.emod_nonneg _ (by omega)) (Int.emod_lt_of_pos _ n0)
      · walk_at "go"
        refine g_ixL (SqL.at h1) rfl ?_
        walk_at "go"
        refine g_setL h1 rfl ?_
        have h1' : upd H1 d (.lst [.ref c, .int i, .int qq, .int s1, .int (t + 1)]) d = some (.lst [.ref c, .int i, .int qq, .int s1, .int (t + 1)]) := upd_same
        walk_at "go"
        refine g_ixL (SqL.at h1') rfl ?_
        walk_at "go"
        refine g_rI (.inl ⟨by omega, by omega⟩) ?_
        walk_at "go"
        refine g_ixL (SqL.at h1') rfl ?_
        walk_at "go"
        refine g_rI (.inr ⟨by decide, by decide⟩) ?_
        walk_at "go"
        refine g_rI (by decide) ?_
        walk_at "go"
        refine g_setL h1' rfl ?_
        generalize hw : (s1 * 48271 + (t + 1) * 7919 + 1) % 2147483647 = w1
        have w0 : 0 ≤ w1 := by rw [← hw]; exact Int.emod_nonneg _ (by decide)
        have w2 : w1 < 2147483647 := by rw [← hw]; exact Int.emod_lt_of_pos _ (by decide)
        have h1'' : upd (upd H1 d (.lst [.ref c, .int i, .int qq, .int s1, .int (t + 1)])) d (.lst [.ref c, .int i, .int qq, .int w1, .int (t + 1)]) d = some (.lst [.ref c, .int i, .int qq, .int w1, .int (t + 1)]) := upd_same
        walk_at "go"
        refine g_ixL (SqL.at h1'') rfl ?_
        walk_at "go"
        refine g_ixL (SqL.at h1'') rfl ?_
        walk_at "go"
        refine g_rI ⟨by decide, by decide⟩ ?_
        walk_at "go"
        refine g_rI (.inl ⟨by omega, by omega⟩) ?_
        walk_at "go"
        refine g_rI (by decide) ?_
        generalize hm : (w1 * (w1 / 1009 + 69623)) % 2147483399 = m1
        have m0 : 0 ≤ m1 := by rw [← hm]; exact Int.emod_nonneg _ (by decide)
        have m2 : m1 < 2147483399 := by rw [← hm]; exact Int.emod_lt_of_pos _ (by decide)
        walk_at "go"
        refine g_rI ⟨by decide, by decide⟩ ?_
        walk_at "go"
        refine g_rI (.inl ⟨by omega, by omega⟩) ?_
        walk_at "go"
        refine g_rI (by decide) ?_
        walk_at "go"
        refine g_rI ⟨by decide, by decide⟩ ?_
        walk_at "go"
        refine g_rI n0 ?_
        exact q _ _ ((fr.trans Fr.upd).trans Fr.upd) ⟨cs, i, qq, w1, t + 1, upd_same, by rw [upd_ne ncd, upd_ne ncd]; exact h2, ncd, h0, hi, hq, w0, by omega, by omega⟩ (Int.emod_nonneg _ (by omega)) (Int.emod_lt_of_pos _ n0)

end

section
variable {P : Program} {w : World} {K : PySem.W.Frag} {mg : Str → Option Value} {base : Heap} {a : Ad}
/-! ### kinds -/
def sp_is_integer (K : PySem.W.Frag) : Sp := fun vs H Q _ => ∃ v b, vs = [v] ∧ IntK K H v b ∧ Q (.bl b) H
theorem ok_is_integer (T : Txt K mg a) : FnOk P w K mg base CX0 1 a.f_is_integer a.d_is_integer ["thing"] (sp_is_integer K) := by
  refine T.F_is_integer.ok sc_is_integer (fun vs H Q E h => ?_) (fun cdv A outer s H vs Q E hr h => ?_)
  · obtain ⟨v, b, rfl, _⟩ := h
    rfl
  · obtain ⟨v, b, rfl, ⟨t, b1, b2, ty, k1, k2, rfl⟩, q⟩ := h
    refine ⟨_, (pss_one (ps_ret (pe_and (pe_callB (kIsi K rfl) (by rfl) T.z_isinstance (by decide +kernel) (pa_cons (pv 0) (pa_cons (pe_bltn (v := .ty "int") (by rfl) T.z_int (by decide +kernel) rfl) pa_nil))) (pe_one (pe_not (pe_callB (kIsi K rfl) (by rfl) T.z_isinstance (by decide +kernel) (pa_cons (pv 0) (pa_cons (pe_bltn (v := .ty "bool") (by rfl) T.z_bool (by decide +kernel) rfl) pa_nil)))))))), ?_⟩
    walk_at "go"
    refine g_isi ty k1 ?_
    walk_at "go"
    cases b1 with
    | true =>
      walk_at "go"
      refine g_isi ty k2 ?_
      walk_at "go"
      exact q
    | false =>
      walk_at "go"
      exact q
def sp_is_between (K : PySem.W.Frag) : Sp := fun vs H Q _ => ∃ v lo hi, vs = [v, .int lo, .int hi] ∧ ((∃ i, v = .int i ∧ Q (.bl (decide (lo ≤ i ∧ i ≤ hi))) H) ∨ (IntK K H v false ∧ Q (.bl false) H))
theorem ok_is_between (T : Txt K mg a) : FnOk P w K mg base CX0 2 a.f_is_between a.d_is_between ["thing", "least", "most"] (sp_is_between K) := by
  refine T.F_is_between.ok sc_is_between (fun vs H Q E h => ?_) (fun cdv A outer s H vs Q E hr h => ?_)
  · obtain ⟨v, lo, hi, rfl, _⟩ := h
    rfl
  · obtain ⟨v, lo, hi, rfl, h⟩ := h
    refine ⟨_, (pss_one (ps_ret (pe_and (pe_call (ok_is_integer T) (hr.mono (by first | decide | omega)) (by rfl) T.g_is_integer T.F_is_integer.kp (T.b_is_integer) .nil pass0 (pa_cons (pv 0) pa_nil)) (pe_one (pe_chain op_le op_le (pv 1) (pv 0) (pv 2)))))), ?_⟩
    rcases h with ⟨i, rfl, q⟩ | ⟨k, q⟩
    · walk_at "go"
      refine ⟨_, _, rfl, IntK.int i, ?_⟩
      walk_at "go"
      refine g_ite (fun e1 => ?_) (fun e1 => ?_)
      · walk_at "go"
        rw [show decide (i ≤ hi) = decide (lo ≤ i ∧ i ≤ hi) from by simp [e1]]
        exact q
      · walk_at "go"
        rw [show false = decide (lo ≤ i ∧ i ≤ hi) from by simp [e1]]
        exact q
    · walk_at "go"
      refine ⟨_, _, rfl, k, ?_⟩
      walk_at "go"
      exact q
def sp_is_number (K : PySem.W.Frag) : Sp := fun vs H Q _ => ∃ v n, vs = [v, .int n] ∧ ((∃ i, v = .int i ∧ Q (.bl (decide (0 ≤ i ∧ i < n))) H) ∨ (IntK K H v false ∧ Q (.bl false) H))
theorem ok_is_number (T : Txt K mg a) : FnOk P w K mg base CX0 3 a.f_is_number a.d_is_number ["thing", "many"] (sp_is_number K) := by
  refine T.F_is_number.ok sc_is_number (fun vs H Q E h => ?_) (fun cdv A outer s H vs Q E hr h => ?_)
  · obtain ⟨v, n, rfl, _⟩ := h
    rfl
  · obtain ⟨v, n, rfl, h⟩ := h
    refine ⟨_, (pss_one (ps_ret (pe_call (ok_is_between T) (hr.mono (by first | decide | omega)) (by rfl) T.g_is_between T.F_is_between.kp (T.b_is_between) .nil pass0 (pa_cons (pv 0) (pa_cons pe_int (pa_cons (pe_op op_sub (pv 1) pe_int) pa_nil)))))), ?_⟩
    rcases h with ⟨i, rfl, q⟩ | ⟨k, q⟩
    · walk_at "go"
      refine ⟨_, _, _, rfl, .inl ⟨i, rfl, ?_⟩⟩
      rw [show decide (0 ≤ i ∧ i ≤ n - 1) = decide (0 ≤ i ∧ i < n) from by
        rw [Bool.eq_iff_iff, decide_eq_true_iff, decide_eq_true_iff]; omega]
      exact q
    · walk_at "go"
      exact ⟨_, _, _, rfl, .inr ⟨k, q⟩⟩
/-- of a tuple of whole numbers -/
def sp_are_numbers (K : PySem.W.Frag) : Sp := fun vs H Q _ => ∃ (p : Addr) (ns : List Int) (n : Int), vs = [.ref p, .int n] ∧ SqT K H p (ns.map V.int) ∧ ns.length ≤ 1000 ∧ ∀ H', Same H H' → Q (.bl (ns.all fun i => decide (0 ≤ i ∧ i < n))) H'
theorem ok_are_numbers (T : Txt K mg a) : FnOk P w K mg base CX0 4 a.f_are_numbers a.d_are_numbers ["things", "many"] (sp_are_numbers K) := by
  refine T.F_are_numbers.ok sc_are_numbers (fun vs H Q E h => ?_) (fun cdv A outer s H vs Q E hr h => ?_)
  · obtain ⟨p, ns, n, rfl, _⟩ := h
    rfl
  · obtain ⟨p, ns, n, rfl, hp, hl, q⟩ := h
    refine ⟨_, (pss_one (ps_ret (pe_callB (kAll K rfl rfl) (by rfl) T.z_all (by decide +kernel) (pa_cons (pe_lc (own := [("thing", 2)]) (g := (gName 2)) rfl sc_are_numbers.nd (kiTup K rfl (pv 0)) (blkOk_by (own := [("thing", 2)]) (N := ["things", "many", "thing"]) (sc := defScope s_are_numbers) (by decide +kernel)) (fun _ _ _ _ _ => (pg_name (i := 2) sc_are_numbers.nd rfl (.inl rfl))) (fun _ _ _ _ _ => pts_nil) (fun _ _ _ _ _ => (pe_call (ok_is_number T) (hr.mono (by first | decide | omega)) (by rfl) T.g_is_number T.F_is_number.kp (T.b_is_number) .nil pass0 (pa_cons (pv 2) (pa_cons (pv 1) pa_nil))))) pa_nil)))), ?_⟩
    walk_at "go"
    refine ⟨_, rfl, ⟨_, hp⟩, fun D nD => ?_⟩
    refine lc_same (H0 := H) (walk_tup (K := K) (a := p) (xs := ns.map V.int)) (fun i => ((ns.take i).map fun i => decide (0 ≤ i ∧ i < n)).map V.bl) rfl (fun i _ => ?_) (Same.refl H) nD nD (fun H' s => (Tx.of s).seq hp) (fun i x H1 H2 C Cn hi s hy hC hN => ?_) (fun H' s hD => ?_)
    · rw [List.length_map, List.length_map, List.length_take]
      exact small1000 (by omega)
    · obtain ⟨rfl, hx⟩ := hy
      rw [List.getElem?_map] at hx
      cases hz : ns[i]? with
      | none => rw [hz] at hx; cases hx
      | some z =>
        rw [hz] at hx
        cases hx
        refine ⟨rfl, ?_⟩
        walk_at "go"
        refine ⟨_, _, rfl, .inl ⟨z, rfl, hC _ _ (Same.refl _) ?_⟩⟩
        rw [take_snoc hz, List.map_append, List.map_append]
        rfl
    · walk_at "go"
      rw [List.length_map] at hD
      refine ⟨D, _, rfl, SqL.at hD, ?_⟩
      rw [List.take_length, List.all_map]
      exact q _ s
def sp_never_falls (K : PySem.W.Frag) : Sp := fun vs H Q _ => ∃ (p : Addr) (ns : List Int), vs = [.ref p] ∧ SqT K H p (ns.map V.int) ∧ ns.length ≤ 1000 ∧ ∀ H', Same H H' → Q (.bl (risesB ns)) H'
theorem ok_never_falls (T : Txt K mg a) : FnOk P w K mg base CX0 1 a.f_never_falls a.d_never_falls ["numbers"] (sp_never_falls K) := by
  refine T.F_never_falls.ok sc_never_falls (fun vs H Q E h => ?_) (fun cdv A outer s H vs Q E hr h => ?_)
  · obtain ⟨p, ns, rfl, _⟩ := h
    rfl
  · obtain ⟨p, ns, rfl, hp, hl, q⟩ := h
    refine ⟨_, (pss_one (ps_ret (pe_callB (kAll K rfl rfl) (by rfl) T.z_all (by decide +kernel) (pa_cons (pe_lc (own := [("one", 1), ("other", 2)]) (g := (gTup K 2 (gCons (gName 1) (gCons (gName 2) gNil)))) rfl sc_never_falls.nd (kiZip K rfl (by rfl) T.z_zip (pa_cons (pv 0) (pa_cons (pe_slice (kSlA K rfl) (pv 0) (po_some pe_int) po_none) pa_nil))) (blkOk_by (own := [("one", 1), ("other", 2)]) (N := ["numbers", "one", "other"]) (sc := defScope s_never_falls) (by decide +kernel)) (fun _ _ _ _ _ => (kgTup K rfl rfl (pgs_cons (pg_name (i := 1) sc_never_falls.nd rfl (.inl rfl)) (pgs_cons (pg_name (i := 2) sc_never_falls.nd rfl (.inl rfl)) pgs_nil)))) (fun _ _ _ _ _ => pts_nil) (fun _ _ _ _ _ => (pe_cmpR op_le (pv 1) (pv 2) (nomark _)))) pa_nil)))), ?_⟩
    walk_at "go"
    refine g_slA hp (fun p' H1 s1 h1 => ?_)
    rw [cutV1, ← List.map_drop] at h1
    walk_at "go"
    refine ⟨_, _, _, _, rfl, .inr ⟨(Tx.of s1).seq hp, h1, fun D nD => ?_⟩⟩
    refine lc_same (H0 := H) (walk_zipT (K := K) (a := p) (b := p') (xs := ns.map V.int) (ys := (ns.drop 1).map V.int) rfl) (fun i => ((zipUp ns).take i).map V.bl) rfl (fun i _ => ?_) s1 (s1.free nD) nD (fun H' s => ⟨(Tx.of (s1.trans s)).seq hp, (Tx.of s).seq h1⟩) (fun i x H2 H3 C Cn hi s hy hC hN => ?_) (fun H' s hD => ?_)
    · rw [List.length_map, List.length_take, zipUp_len]
      exact small1000 (by omega)
    · obtain ⟨Tp, x1, y1, rfl, nT, rfl, e1, e2⟩ := hy
      obtain ⟨z1, q1, rfl⟩ := map_at e1
      obtain ⟨z2, q2, rfl⟩ := map_at e2
      refine ⟨Tp, _, rfl, SqT.new, rfl, _, _, rfl, _, _, rfl, rfl, rfl, ?_⟩
      walk_at "go"
      refine hC _ _ (same_new nT) ?_
      rw [take_snoc (zipUp_at q1 q2), List.map_append]
      rfl
    · walk_at "go"
      refine ⟨D, _, rfl, SqL.at hD, ?_⟩
      rw [List.length_map, List.length_map, ← zipUp_len, List.take_length, ← risesB_zip]
      exact q _ s
/-- of editions of one to twelve offices -/
def Sheets (ns : List Int) : Prop := 1 ≤ ns.length ∧ ns.length ≤ 12 ∧ (∀ x ∈ ns, 0 ≤ x ∧ x < ns.length) ∧ ns.Pairwise (· ≤ ·)
theorem Sheets.all {ns : List Int} (h : Sheets ns) : (ns.all fun i => decide (0 ≤ i ∧ i < (ns.length : Int))) = true := by
  rw [List.all_eq_true]
  intro x hx
  exact decide_eq_true (h.2.2.1 x hx)
def sp_are_sheets (K : PySem.W.Frag) : Sp := fun vs H Q _ => ∃ (p : Addr) (ns : List Int), vs = [.ref p] ∧ SqT K H p (ns.map V.int) ∧ Sheets ns ∧ ∀ H', Same H H' → Q (.bl true) H'
theorem ok_are_sheets (T : Txt K mg a) : FnOk P w K mg base CX0 5 a.f_are_sheets a.d_are_sheets ["thing"] (sp_are_sheets K) := by
  refine T.F_are_sheets.ok sc_are_sheets (fun vs H Q E h => ?_) (fun cdv A outer s H vs Q E hr h => ?_)
  · obtain ⟨p, ns, rfl, _⟩ := h
    rfl
  · obtain ⟨p, ns, rfl, hp, hs, q⟩ := h
    have hl1 := hs.1
    have hl2 := hs.2.1
    refine ⟨_, (pss_cons (ps_if (PW.pt (pw_or (pt_not (pt_val (pe_callB (kIsi K rfl) (by rfl) T.z_isinstance (by decide +kernel) (pa_cons (pv 0) (pa_cons (pe_bltn (v := .ty "tuple") (by rfl) T.z_tuple (by decide +kernel) rfl) pa_nil))))) (pw_or1 (pt_not (pt_chain op_le op_le pe_int (pe_callB (kLen K rfl) (by rfl) T.z_len (by decide +kernel) (pa_cons (pv 0) pa_nil)) pe_int)))))
  (pss_one (ps_ret pe_bl))
  pss_nil)
  (pss_one (ps_ret (pe_and (pe_call (ok_are_numbers T) (hr.mono (by first | decide | omega)) (by rfl) T.g_are_numbers T.F_are_numbers.kp (T.b_are_numbers) .nil pass0 (pa_cons (pv 0) (pa_cons (pe_callB (kLen K rfl) (by rfl) T.z_len (by decide +kernel) (pa_cons (pv 0) pa_nil)) pa_nil))) (pe_one (pe_call (ok_never_falls T) (hr.mono (by first | decide | omega)) (by rfl) T.g_never_falls T.F_never_falls.kp (T.b_never_falls) .nil pass0 (pa_cons (pv 0) pa_nil))))))), ?_⟩
    walk_at "go"
    refine g_isi (Dp.ty (dp_ints hp)) (b := true) (kit_ty (a := "tuple") (by decide +kernel)) ?_
    walk_at "go"
    refine ⟨_, _, rfl, .inr hp, ?_⟩
    rw [List.length_map]
    walk_at "go"
    refine g_ite (fun e1 => ?_) (fun e1 => absurd (show (1 : Int) ≤ ns.length by omega) e1)
    walk_at "go"
    rw [decide_eq_true (show (ns.length : Int) ≤ 12 by omega)]
    walk_at "go"
    refine ⟨_, _, rfl, .inr hp, ?_⟩
    rw [List.length_map]
    walk_at "go"
    refine ⟨p, ns, _, rfl, hp, by omega, fun H1 s1 => ?_⟩
    rw [hs.all]
    walk_at "go"
    refine ⟨p, ns, rfl, (Tx.of s1).seq hp, by omega, fun H2 s2 => ?_⟩
    rw [risesB_of hs.2.2.2]
    exact q _ (s1.trans s2)

end

section
variable {P : Program} {w : World} {K : PySem.W.Frag} {mg : Str → Option Value} {base : Heap} {a : Ad}
/-! ### borders -/
def sp_check_sheets (K : PySem.W.Frag) : Sp := fun vs H Q _ => ∃ (p : Addr) (ns : List Int), vs = [.ref p] ∧ SqT K H p (ns.map V.int) ∧ Sheets ns ∧ ∀ H', Same H H' → Q .non H'
theorem ok_check_sheets (T : Txt K mg a) : FnOk P w K mg base CX0 6 a.f_check_sheets a.d_check_sheets ["sheets"] (sp_check_sheets K) := by
  refine T.F_check_sheets.ok sc_check_sheets (fun vs H Q E h => ?_) (fun cdv A outer s H vs Q E hr h => ?_)
  · obtain ⟨p, ns, rfl, _⟩ := h
    rfl
  · obtain ⟨p, ns, rfl, hp, hs, q⟩ := h
    refine ⟨_, (pss_one (ps_if (pt_not (pt_val (pe_call (ok_are_sheets T) (hr.mono (by first | decide | omega)) (by rfl) T.g_are_sheets T.F_are_sheets.kp (T.b_are_sheets) .nil pass0 (pa_cons (pv 0) pa_nil))))
  (pss_one ps_never)
  pss_nil)), ?_⟩
    walk_at "go"
    refine ⟨p, ns, rfl, hp, hs, fun H1 s1 => ?_⟩
    walk_at "go"
    exact q _ s1
def cutAt (ns : List Int) (b : Int) : Int := ((ns.filter fun x => decide (x < b)).length : Int)
def cutsOf (ns : List Int) : List Int := (List.range (ns.length + 1)).map fun (b : Nat) => cutAt ns (b : Int)
def sp_borders (K : PySem.W.Frag) : Sp := fun vs H Q _ => ∃ (p : Addr) (ns : List Int), vs = [.ref p] ∧ SqT K H p (ns.map V.int) ∧ Sheets ns ∧ ∀ H' p', Same H H' → SqT K H' p' ((cutsOf ns).map V.int) → Q (.ref p') H'
theorem ok_borders (T : Txt K mg a) : FnOk P w K mg base CX0 9 a.f_borders a.d_borders ["sheets"] (sp_borders K) := by
  refine T.F_borders.ok sc_borders (fun vs H Q E h => ?_) (fun cdv A outer s H vs Q E hr h => ?_)
  · obtain ⟨p, ns, rfl, _⟩ := h
    rfl
  · obtain ⟨p, ns, rfl, hp, hs, q⟩ := h
    have hl2 := hs.2.1
    refine ⟨_, (pss_cons (ps_expr (pe_call (ok_check_sheets T) (hr.mono (by first | decide | omega)) (by rfl) T.g_check_sheets T.F_check_sheets.kp (T.b_check_sheets) .nil pass0 (pa_cons (pv 0) pa_nil)))
  (pss_one (ps_ret (pe_callTy (kTupOf K rfl) (by rfl) T.z_tuple (by decide +kernel) (pa_cons (pe_lc (own := [("border", 1)]) (g := (gName 1)) rfl sc_borders.nd (pi_range1 rfl T.z_range (pa_cons (pe_op op_add (pe_callB (kLen K rfl) (by rfl) T.z_len (by decide +kernel) (pa_cons (pv 0) pa_nil)) pe_int) pa_nil)) (blkOk_by (own := [("border", 1)]) (N := ["sheets", "border", "edition"]) (sc := defScope s_borders) (by decide +kernel)) (fun _ _ _ _ _ => (pg_name (i := 1) sc_borders.nd rfl (.inr rfl))) (fun _ _ _ _ _ => pts_nil) (fun _ _ _ _ _ => (pe_callB (kLen K rfl) (by rfl) T.z_len (by decide +kernel) (pa_cons (pe_lc (own := [("edition", 2)]) (g := (gName 2)) rfl sc_borders.nd (kiTup K rfl (pv 0)) (blkOk_by (own := [("edition", 2)]) (N := ["sheets", "border", "edition"]) (sc := { kind := .function, names := [(PySem.Str.ofString ".0", PySem.NameKind.local), (PySem.Str.ofString "border", PySem.NameKind.cell), (PySem.Str.ofString "len", PySem.NameKind.globalImplicit), (PySem.Str.ofString "sheets", PySem.NameKind.cell)], isGenerator := false, isCoroutine := false, more := [] : Scope }) (by decide +kernel)) (fun _ _ _ _ _ => (pg_name (i := 2) sc_borders.nd rfl (.inl rfl))) (fun _ _ _ _ _ => (pts_one (pt_cmpR op_lt (pv 2) (pv 1) (nomark _)))) (fun _ _ _ _ _ => (pv 2))) pa_nil)))) pa_nil))))), ?_⟩
    walk_at "go"
    refine ⟨p, ns, rfl, hp, hs, fun H1 s1 => ?_⟩
    have hp1 := (Tx.of s1).seq hp
    walk_at "go"
    refine ⟨_, _, rfl, .inr hp1, ?_⟩
    rw [List.length_map]
    walk_at "go"
    refine ⟨_, rfl, by omega, by omega, fun D nD => ?_⟩
    refine lc_same (H0 := H1) walk_range (fun i => ((List.range i).map fun (b : Nat) => cutAt ns (b : Int)).map V.int) rfl (fun i hi => ?_) (Same.refl H1) nD nD (fun _ _ => trivial) (fun i x H2 H3 C Cn hi s hy hC hN => ?_) (fun H' s hD => ?_)
    · rw [List.length_map, List.length_map, List.length_range]
      exact small1000 (by omega)
    · obtain ⟨rfl, rfl⟩ := hy
      have hp2 := (Tx.of s).seq hp1
      refine ⟨rfl, ?_⟩
      walk_at "go"
      refine ⟨_, rfl, ⟨_, hp2⟩, fun D2 nD2 => ?_⟩
      refine lc_same (H0 := H3) (walk_tup (K := K) (a := p) (xs := ns.map V.int)) (fun j => ((ns.take j).filter fun x => decide (x < (i : Int))).map V.int) rfl (fun j _ => ?_) (Same.refl H3) nD2 nD2 (fun H' s' => (Tx.of s').seq hp2) (fun j y H4 H5 C' Cn' hj s' hy' hC' hN' => ?_) (fun H' s' hD' => ?_)
      · rw [List.length_map]
        exact Nat.lt_of_le_of_lt (List.length_filter_le _ _) (small1000 (by rw [List.length_take]; omega))
      · obtain ⟨rfl, hx⟩ := hy'
        obtain ⟨z, hz, rfl⟩ := map_at hx
        refine ⟨rfl, ?_⟩
        walk_at "go"
        refine g_ite (fun e1 => ?_) (fun e1 => ?_)
        · walk_at "go"
          refine hC' _ _ (Same.refl _) ?_
          rw [take_snoc hz, List.filter_append, filt1 (by simpa using e1), List.map_append]
          rfl
        · refine hN' _ (Same.refl _) ?_
          rw [take_snoc hz, List.filter_append, filt0 (by simpa using e1), List.append_nil]
      · walk_at "go"
        refine ⟨_, _, rfl, .inl (SqL.at hD'), ?_⟩
        refine hC _ _ s' ?_
        rw [List.range_succ, List.map_append, List.map_append, List.length_map, List.length_map, List.take_length]
        rfl
    · walk_at "go"
      refine ⟨D, _, rfl, .inl ⟨SqL.at hD, fun p' np' => ?_⟩⟩
      refine q _ p' ((s1.trans s).trans (same_new np')) ?_
      have e : ((ns.length : Int) + 1).toNat = ns.length + 1 := by omega
      rw [e]
      exact SqT.new
/-- cuts at which all borders of some sheets can stand -/
def Cuts (cs : List Int) : Prop := 2 ≤ cs.length ∧ cs.length ≤ 13 ∧ (∀ x ∈ cs, 0 ≤ x ∧ x < cs.length) ∧ cs.Pairwise (· ≤ ·) ∧ cs[0]? = some 0 ∧ cs[cs.length - 1]? = some ((cs.length : Int) - 1)
def sp_are_cuts (K : PySem.W.Frag) : Sp := fun vs H Q _ => ∃ (p : Addr) (ns : List Int), vs = [.ref p] ∧ SqT K H p (ns.map V.int) ∧ Cuts ns ∧ ∀ H', Same H H' → Q (.bl true) H'
theorem atI_end {cs : List Int} {z : Int} (h : cs[cs.length - 1]? = some z) : atI (cs.map V.int) (-1) = some (.int z) := by
  have hl : cs ≠ [] := fun e => by rw [e] at h; cases h
  have e : cs = cs.dropLast ++ [cs.getLast hl] := (List.dropLast_concat_getLast hl).symm
  have ez : cs.getLast hl = z := by
    rw [← List.getLast?_eq_getElem?, List.getLast?_eq_getLast hl] at h
    exact Option.some.inj h
  rw [e, ez, List.map_append]
  exact atI_last _ _
theorem ok_are_cuts (T : Txt K mg a) : FnOk P w K mg base CX0 5 a.f_are_cuts a.d_are_cuts ["thing"] (sp_are_cuts K) := by
  refine T.F_are_cuts.ok sc_are_cuts (fun vs H Q E h => ?_) (fun cdv A outer s H vs Q E hr h => ?_)
  · obtain ⟨p, ns, rfl, _⟩ := h
    rfl
  · obtain ⟨p, ns, rfl, hp, ⟨c1, c2, c3, c4, c5, c6⟩, q⟩ := h
    refine ⟨_, (pss_cons (ps_if (PW.pt (pw_or (pt_not (pt_val (pe_callB (kIsi K rfl) (by rfl) T.z_isinstance (by decide +kernel) (pa_cons (pv 0) (pa_cons (pe_bltn (v := .ty "tuple") (by rfl) T.z_tuple (by decide +kernel) rfl) pa_nil))))) (pw_or1 (pt_not (pt_chain op_le op_le pe_int (pe_callB (kLen K rfl) (by rfl) T.z_len (by decide +kernel) (pa_cons (pv 0) pa_nil)) pe_int)))))
  (pss_one (ps_ret pe_bl))
  pss_nil)
  (pss_cons (ps_if (PW.pt (pw_or (pt_not (pt_val (pe_call (ok_are_numbers T) (hr.mono (by first | decide | omega)) (by rfl) T.g_are_numbers T.F_are_numbers.kp (T.b_are_numbers) .nil pass0 (pa_cons (pv 0) (pa_cons (pe_callB (kLen K rfl) (by rfl) T.z_len (by decide +kernel) (pa_cons (pv 0) pa_nil)) pa_nil))))) (pw_or1 (pt_not (pt_val (pe_call (ok_never_falls T) (hr.mono (by first | decide | omega)) (by rfl) T.g_never_falls T.F_never_falls.kp (T.b_never_falls) .nil pass0 (pa_cons (pv 0) pa_nil)))))))
  (pss_one (ps_ret pe_bl))
  pss_nil)
  (pss_one (ps_ret (pe_and (pe_cmpR op_eq (pe_ix (kIxT K rfl) (pv 0) pe_int (fun _ _ => rfl)) pe_int (nomark _)) (pe_one (pe_cmpR op_eq (pe_ix (kIxT K rfl) (pv 0) (pe_un un_neg pe_int) (fun _ _ => rfl)) (pe_op op_sub (pe_callB (kLen K rfl) (by rfl) T.z_len (by decide +kernel) (pa_cons (pv 0) pa_nil)) pe_int) (nomark _)))))))), ?_⟩
    walk_at "go"
    refine g_isi (Dp.ty (dp_ints hp)) (b := true) (kit_ty (a := "tuple") (by decide +kernel)) ?_
    walk_at "go"
    refine ⟨_, _, rfl, .inr hp, ?_⟩
    rw [List.length_map]
    walk_at "go"
    refine g_ite (fun e1 => ?_) (fun e1 => absurd (show (2 : Int) ≤ ns.length by omega) e1)
    walk_at "go"
    rw [decide_eq_true (show (ns.length : Int) ≤ 13 by omega)]
    walk_at "go"
    refine ⟨_, _, rfl, .inr hp, ?_⟩
    rw [List.length_map]
    walk_at "go"
    refine ⟨p, ns, _, rfl, hp, by omega, fun H1 s1 => ?_⟩
    rw [show (ns.all fun i => decide (0 ≤ i ∧ i < (ns.length : Int))) = true from by
      rw [List.all_eq_true]; exact fun x hx => decide_eq_true (c3 x hx)]
    have hp1 := (Tx.of s1).seq hp
    walk_at "go"
    refine ⟨p, ns, rfl, hp1, by omega, fun H2 s2 => ?_⟩
    rw [risesB_of c4]
    have hp2 := (Tx.of s2).seq hp1
    walk_at "go"
    refine g_ixT hp2 (atI_nat (j := 0) (v := .int 0) (by rw [List.getElem?_map, c5]; rfl)) ?_
    walk_at "go"
    rw [decide_eq_true (show (0 : Int) = 0 from rfl)]
    walk_at "go"
    refine g_ixT hp2 (atI_end c6) ?_
    walk_at "go"
    refine ⟨_, _, rfl, .inr hp2, ?_⟩
    rw [List.length_map]
    walk_at "go"
    rw [decide_eq_true (show (ns.length : Int) - 1 = (ns.length : Int) - 1 from rfl)]
    exact q _ (s1.trans s2)

end

section
variable {P : Program} {w : World} {K : PySem.W.Frag} {mg : Str → Option Value} {base : Heap} {a : Ad}
def offAt (cs : List Int) (o : Int) : Int := ((cs.filter fun x => decide (x ≤ o)).length : Int) - 1
def readOff (cs : List Int) : List Int := (List.range (cs.length - 1)).map fun (o : Nat) => offAt cs (o : Int)
def sp_read_off (K : PySem.W.Frag) : Sp := fun vs H Q _ => ∃ (p : Addr) (ns : List Int), vs = [.ref p] ∧ SqT K H p (ns.map V.int) ∧ Cuts ns ∧ ∀ H' p', Same H H' → SqT K H' p' ((readOff ns).map V.int) → Q (.ref p') H'
theorem ok_read_off (T : Txt K mg a) : FnOk P w K mg base CX0 6 a.f_read_off a.d_read_off ["cuts"] (sp_read_off K) := by
  refine T.F_read_off.ok sc_read_off (fun vs H Q E h => ?_) (fun cdv A outer s H vs Q E hr h => ?_)
  · obtain ⟨p, ns, rfl, _⟩ := h
    rfl
  · obtain ⟨p, ns, rfl, hp, hs, q⟩ := h
    have hl1 := hs.1
    have hl2 := hs.2.1
    refine ⟨_, (pss_cons (ps_if (pt_not (pt_val (pe_call (ok_are_cuts T) (hr.mono (by first | decide | omega)) (by rfl) T.g_are_cuts T.F_are_cuts.kp (T.b_are_cuts) .nil pass0 (pa_cons (pv 0) pa_nil))))
  (pss_one ps_never)
  pss_nil)
  (pss_one (ps_ret (pe_callTy (kTupOf K rfl) (by rfl) T.z_tuple (by decide +kernel) (pa_cons (pe_lc (own := [("office", 1)]) (g := (gName 1)) rfl sc_read_off.nd (pi_range1 rfl T.z_range (pa_cons (pe_op op_sub (pe_callB (kLen K rfl) (by rfl) T.z_len (by decide +kernel) (pa_cons (pv 0) pa_nil)) pe_int) pa_nil)) (blkOk_by (own := [("office", 1)]) (N := ["cuts", "office", "cut"]) (sc := defScope s_read_off) (by decide +kernel)) (fun _ _ _ _ _ => (pg_name (i := 1) sc_read_off.nd rfl (.inr rfl))) (fun _ _ _ _ _ => pts_nil) (fun _ _ _ _ _ => (pe_op op_sub (pe_callB (kLen K rfl) (by rfl) T.z_len (by decide +kernel) (pa_cons (pe_lc (own := [("cut", 2)]) (g := (gName 2)) rfl sc_read_off.nd (kiTup K rfl (pv 0)) (blkOk_by (own := [("cut", 2)]) (N := ["cuts", "office", "cut"]) (sc := { kind := .function, names := [(PySem.Str.ofString ".0", PySem.NameKind.local), (PySem.Str.ofString "office", PySem.NameKind.cell), (PySem.Str.ofString "len", PySem.NameKind.globalImplicit), (PySem.Str.ofString "cuts", PySem.NameKind.cell)], isGenerator := false, isCoroutine := false, more := [] : Scope }) (by decide +kernel)) (fun _ _ _ _ _ => (pg_name (i := 2) sc_read_off.nd rfl (.inl rfl))) (fun _ _ _ _ _ => (pts_one (pt_cmpR op_le (pv 2) (pv 1) (nomark _)))) (fun _ _ _ _ _ => (pv 2))) pa_nil)) pe_int))) pa_nil))))), ?_⟩
    walk_at "go"
    refine ⟨p, ns, rfl, hp, hs, fun H1 s1 => ?_⟩
    have hp1 := (Tx.of s1).seq hp
    walk_at "go"
    refine ⟨_, _, rfl, .inr hp1, ?_⟩
    rw [List.length_map]
    walk_at "go"
    refine ⟨_, rfl, by omega, by omega, fun D nD => ?_⟩
    refine lc_same (H0 := H1) walk_range (fun i => ((List.range i).map fun (b : Nat) => offAt ns (b : Int)).map V.int) rfl (fun i hi => ?_) (Same.refl H1) nD nD (fun _ _ => trivial) (fun i x H2 H3 C Cn hi s hy hC hN => ?_) (fun H' s hD => ?_)
    · rw [List.length_map, List.length_map, List.length_range]
      exact small1000 (by omega)
    · obtain ⟨rfl, rfl⟩ := hy
      have hp2 := (Tx.of s).seq hp1
      refine ⟨rfl, ?_⟩
      walk_at "go"
      refine ⟨_, rfl, ⟨_, hp2⟩, fun D2 nD2 => ?_⟩
      refine lc_same (H0 := H3) (walk_tup (K := K) (a := p) (xs := ns.map V.int)) (fun j => ((ns.take j).filter fun x => decide (x ≤ (i : Int))).map V.int) rfl (fun j _ => ?_) (Same.refl H3) nD2 nD2 (fun H' s' => (Tx.of s').seq hp2) (fun j y H4 H5 C' Cn' hj s' hy' hC' hN' => ?_) (fun H' s' hD' => ?_)
      · rw [List.length_map]
        exact Nat.lt_of_le_of_lt (List.length_filter_le _ _) (small1000 (by rw [List.length_take]; omega))
      · obtain ⟨rfl, hx⟩ := hy'
        obtain ⟨z, hz, rfl⟩ := map_at hx
        refine ⟨rfl, ?_⟩
        walk_at "go"
        refine g_ite (fun e1 => ?_) (fun e1 => ?_)
        · walk_at "go"
          refine hC' _ _ (Same.refl _) ?_
          rw [take_snoc hz, List.filter_append, filt1 (by simpa using e1), List.map_append]
          rfl
        · refine hN' _ (Same.refl _) ?_
          rw [take_snoc hz, List.filter_append, filt0 (by simpa using e1), List.append_nil]
      · walk_at "go"
        refine ⟨_, _, rfl, .inl (SqL.at hD'), ?_⟩
        walk_at "go"
        refine hC _ _ s' ?_
        rw [List.range_succ, List.map_append, List.map_append, List.length_map, List.length_map, List.take_length]
        rfl
    · walk_at "go"
      refine ⟨D, _, rfl, .inl ⟨SqL.at hD, fun p' np' => ?_⟩⟩
      refine q _ p' ((s1.trans s).trans (same_new np')) ?_
      have e : ((ns.length : Int) - 1).toNat = ns.length - 1 := by omega
      rw [e]
      exact SqT.new

end

section
variable {P : Program} {w : World} {K : PySem.W.Frag} {mg : Str → Option Value} {base : Heap} {a : Ad}
/-! ### alike -/
mutual
def dep : PyData → Nat
  | .tuple ds => depAll ds + 1
  | .list ds => depAll ds + 1
  | _ => 0
def depAll : List PyData → Nat
  | [] => 0
  | d :: ds => max (dep d) (depAll ds)
end
mutual
def sm : PyData → Bool
  | .tuple ds => decide (ds.length ≤ 1000000) && smAll ds
  | .list ds => decide (ds.length ≤ 1000000) && smAll ds
  | _ => true
def smAll : List PyData → Bool
  | [] => true
  | d :: ds => sm d && smAll ds
end
theorem dep_at : ∀ {ds : List PyData} {i : Nat} {d : PyData}, ds[i]? = some d → dep d ≤ depAll ds
  | [], _, _, h => by simp at h
  | e :: ds, 0, _, h => by
    cases h
    unfold depAll
    omega
  | e :: ds, i + 1, _, h => by
    have := dep_at (ds := ds) (i := i) (by simpa using h)
    unfold depAll
    omega
theorem sm_at : ∀ {ds : List PyData} {i : Nat} {d : PyData}, smAll ds = true → ds[i]? = some d → sm d = true
  | [], _, _, _, h => by simp at h
  | e :: ds, 0, _, s, h => by
    cases h
    unfold smAll at s
    rw [Bool.and_eq_true] at s
    exact s.1
  | e :: ds, i + 1, _, s, h => by
    unfold smAll at s
    rw [Bool.and_eq_true] at s
    exact sm_at (ds := ds) (i := i) s.2 (by simpa using h)
theorem DpAll.get {K : PySem.W.Frag} {H : Hp} {vs : List V} {ds : List PyData} {i : Nat} {v : V} (h : DpAll K H vs ds) (e : vs[i]? = some v) : ∃ d, ds[i]? = some d ∧ Dp K H v d := by
  have hl : i < ds.length := by rw [← DpAll.len h]; exact (List.getElem?_eq_some_iff.mp e).1
  exact ⟨_, List.getElem?_eq_getElem hl, DpAll.at h e (List.getElem?_eq_getElem hl)⟩
theorem g_isiT {K : PySem.W.Frag} {H : Hp} {Q : VK} {x : V} {p : Addr} {n m : String} {t : Value} {b b2 : Bool} (hp : H p = some (.tup [.ty n, .ty m])) (ty : TyX K H x t) (k : PySem.W.kitOne K t (.type n) = some b) (k2 : PySem.W.kitOne K t (.type m) = some b2) (q : Q (.bl (b || b2)) H) : rIsiT K [x, .ref p] H Q :=
  ⟨x, p, _, t, [.type n, .type m], _, rfl, hp, .cons (.ty n) (.cons (.ty m) .nil), ty, kitAny2 k k2, q⟩
/-- what tells that data are no tuple and no list -/
def leafD : PyData → Bool
  | .tuple _ => false
  | .list _ => false
  | .dict _ => false
  | _ => true
theorem leaf_kit {K : PySem.W.Frag} {d : PyData} (h : leafD d = true) : PySem.W.kitOne K (.type (tyD d)) (.type "tuple") = some false ∧ PySem.W.kitOne K (.type (tyD d)) (.type "list") = some false ∧ ∃ b, PySem.W.kitOne K (.type (tyD d)) (.type "bool") = some b := by
  cases d with
  | none => exact ⟨kit_ty (a := "NoneType") (by decide +kernel), kit_ty (a := "NoneType") (by decide +kernel), false, kit_ty (a := "NoneType") (by decide +kernel)⟩
  | bool z => exact ⟨kit_ty (a := "bool") (by decide +kernel), kit_ty (a := "bool") (by decide +kernel), true, kit_ty (a := "bool") (by decide +kernel)⟩
  | int z => exact ⟨kit_ty (a := "int") (by decide +kernel), kit_ty (a := "int") (by decide +kernel), false, kit_ty (a := "int") (by decide +kernel)⟩
  | str z => exact ⟨kit_ty (a := "str") (by decide +kernel), kit_ty (a := "str") (by decide +kernel), false, kit_ty (a := "str") (by decide +kernel)⟩
  | tuple z => cases h
  | list z => cases h
  | dict z => cases h
theorem all_rep (n : Nat) : (List.replicate n true).all id = true := by
  rw [List.all_eq_true]
  intro x hx
  exact (List.mem_replicate.mp hx).2
def sp_law_is (K : PySem.W.Frag) (n : Nat) : Sp := fun vs H Q _ => ∃ x y d, vs = [x, y] ∧ Dp K H x d ∧ Dp K H y d ∧ dep d ≤ n ∧ sm d = true ∧ ∀ H', Same H H' → Q (.bl true) H'
theorem ok_law_is0 (T : Txt K mg a) {k : Nat} : FnOk P w K mg base CX0 (k + 1) a.f_law_is a.d_law_is ["_law_told", "_law_due"] (fun vs H Q _ => ∃ x y d, vs = [x, y] ∧ Dp K H x d ∧ Dp K H y d ∧ leafD d = true ∧ ∀ H', Same H H' → Q (.bl true) H') := by
  refine T.F_law_is.ok sc_law_is (fun vs H Q E h => ?_) (fun cdv A outer s H vs Q E hr h => ?_)
  · obtain ⟨x, y, d, rfl, _⟩ := h
    rfl
  · obtain ⟨x, y, d, rfl, hx, hy, lf, q⟩ := h
    refine ⟨_, (pss_cons (ps_if (pt_val (pe_callB (kIsiT K rfl) (by rfl) T.z_isinstance (by decide +kernel) (pa_cons (pv 1) (pa_cons (pe_tup (pa_cons (pe_bltn (v := .ty "tuple") (by rfl) T.z_tuple (by decide +kernel) rfl) (pa_cons (pe_bltn (v := .ty "list") (by rfl) T.z_list (by decide +kernel) rfl) pa_nil))) pa_nil)))) pss_never pss_nil)
  (pss_one (ps_ret (pe_and (pe_cmpR op_eq (pe_callB (kIsi K rfl) (by rfl) T.z_isinstance (by decide +kernel) (pa_cons (pv 0) (pa_cons (pe_bltn (v := .ty "bool") (by rfl) T.z_bool (by decide +kernel) rfl) pa_nil))) (pe_callB (kIsi K rfl) (by rfl) T.z_isinstance (by decide +kernel) (pa_cons (pv 1) (pa_cons (pe_bltn (v := .ty "bool") (by rfl) T.z_bool (by decide +kernel) rfl) pa_nil))) (nomark _)) (pe_one (pe_cmpR op_eq (pv 0) (pv 1) (nomark _))))))), ?_⟩
    walk_at "go"
    refine ⟨by show 2 ≤ sizeLine; decide, fun p np => ?_⟩
    walk_at "go"
    have s1 : Same H (upd H p (.tup [.ty "tuple", .ty "list"])) := same_new np
    have hy1 := Dp.same s1 _ _ hy
    have hx1 := Dp.same s1 _ _ hx
    obtain ⟨k1, k2, b, kb⟩ := leaf_kit (K := K) lf
    refine g_isiT upd_same (Dp.ty hy1) k1 k2 ?_
    · walk_at "go"
      refine g_isi (Dp.ty hx1) kb ?_
      walk_at "go"
      refine g_isi (Dp.ty hy1) kb ?_
      walk_at "go"
      rw [show (b == b) = true from by cases b <;> rfl]
      walk_at "go"
      have : x = y ∧ scal x y = true := by
        cases hx <;> cases hy <;> first | exact ⟨rfl, rfl⟩ | cases lf
      obtain ⟨rfl, sc⟩ := this
      refine ⟨sc, ?_⟩
      rw [decide_eq_true rfl]
      exact q _ s1
theorem ok_law_is_tuple (T : Txt K mg a) {n : Nat} (G : FnOk P w K mg base CX0 (n + 1) a.f_law_is a.d_law_is ["_law_told", "_law_due"] (sp_law_is K n)) : FnOk P w K mg base CX0 (n + 2) a.f_law_is a.d_law_is ["_law_told", "_law_due"] (fun vs H Q _ => ∃ x y ds, vs = [x, y] ∧ Dp K H x (.tuple ds) ∧ Dp K H y (.tuple ds) ∧ dep (.tuple ds) ≤ n + 1 ∧ sm (.tuple ds) = true ∧ ∀ H', Same H H' → Q (.bl true) H') := by
  refine T.F_law_is.ok sc_law_is (fun vs H Q E h => ?_) (fun cdv A outer s H vs Q E hr h => ?_)
  · obtain ⟨x, y, d, rfl, _⟩ := h
    rfl
  · obtain ⟨x, y, ds, rfl, hx, hy, hd, hsm, q⟩ := h
    refine ⟨_, (pss_cons (ps_if (pt_val (pe_callB (kIsiT K rfl) (by rfl) T.z_isinstance (by decide +kernel) (pa_cons (pv 1) (pa_cons (pe_tup (pa_cons (pe_bltn (v := .ty "tuple") (by rfl) T.z_tuple (by decide +kernel) rfl) (pa_cons (pe_bltn (v := .ty "list") (by rfl) T.z_list (by decide +kernel) rfl) pa_nil))) pa_nil))))
  (pss_cons (ps_if (PW.pt (pw_or (pt_cmpR op_ne (pe_callB (kIsi K rfl) (by rfl) T.z_isinstance (by decide +kernel) (pa_cons (pv 0) (pa_cons (pe_bltn (v := .ty "tuple") (by rfl) T.z_tuple (by decide +kernel) rfl) pa_nil))) (pe_callB (kIsi K rfl) (by rfl) T.z_isinstance (by decide +kernel) (pa_cons (pv 1) (pa_cons (pe_bltn (v := .ty "tuple") (by rfl) T.z_tuple (by decide +kernel) rfl) pa_nil))) (nomark _)) (pw_or1 (pt_not (pt_val (pe_callB (kIsiT K rfl) (by rfl) T.z_isinstance (by decide +kernel) (pa_cons (pv 0) (pa_cons (pe_tup (pa_cons (pe_bltn (v := .ty "tuple") (by rfl) T.z_tuple (by decide +kernel) rfl) (pa_cons (pe_bltn (v := .ty "list") (by rfl) T.z_list (by decide +kernel) rfl) pa_nil))) pa_nil))))))))
  (pss_one (ps_ret pe_bl))
  pss_nil)
  (pss_one (ps_ret (pe_and (pe_cmpR op_eq (pe_callB (kLen K rfl) (by rfl) T.z_len (by decide +kernel) (pa_cons (pv 0) pa_nil)) (pe_callB (kLen K rfl) (by rfl) T.z_len (by decide +kernel) (pa_cons (pv 1) pa_nil)) (nomark _)) (pe_one (pe_callB (kAll K rfl rfl) (by rfl) T.z_all (by decide +kernel) (pa_cons (pe_lc (own := [("_law_one", 2), ("_law_two", 3)]) (g := (gTup K 2 (gCons (gName 2) (gCons (gName 3) gNil)))) rfl sc_law_is.nd (kiZip K rfl (by rfl) T.z_zip (pa_cons (pv 0) (pa_cons (pv 1) pa_nil))) (blkOk_by (own := [("_law_one", 2), ("_law_two", 3)]) (N := ["_law_told", "_law_due", "_law_one", "_law_two"]) (sc := defScope s_law_is) (by decide +kernel)) (fun _ _ _ _ _ => (kgTup K rfl rfl (pgs_cons (pg_name (i := 2) sc_law_is.nd rfl (.inl rfl)) (pgs_cons (pg_name (i := 3) sc_law_is.nd rfl (.inl rfl)) pgs_nil)))) (fun _ _ _ _ _ => pts_nil) (fun _ _ _ _ _ => (pe_call G (hr.mono (by first | decide | omega)) (by rfl) T.g_law_is T.F_law_is.kp (T.b_law_is) .nil pass0 (pa_cons (pv 2) (pa_cons (pv 3) pa_nil))))) pa_nil)))))))
  pss_nil)
  (pss_one (ps_ret (pe_and (pe_cmpR op_eq (pe_callB (kIsi K rfl) (by rfl) T.z_isinstance (by decide +kernel) (pa_cons (pv 0) (pa_cons (pe_bltn (v := .ty "bool") (by rfl) T.z_bool (by decide +kernel) rfl) pa_nil))) (pe_callB (kIsi K rfl) (by rfl) T.z_isinstance (by decide +kernel) (pa_cons (pv 1) (pa_cons (pe_bltn (v := .ty "bool") (by rfl) T.z_bool (by decide +kernel) rfl) pa_nil))) (nomark _)) (pe_one (pe_cmpR op_eq (pv 0) (pv 1) (nomark _))))))), ?_⟩
    walk_at "go"
    refine ⟨by show 2 ≤ sizeLine; decide, fun p np => ?_⟩
    walk_at "go"
    have s1 : Same H (upd H p (.tup [.ty "tuple", .ty "list"])) := same_new np
    have hy1 := Dp.same s1 _ _ hy
    have hx1 := Dp.same s1 _ _ hx
    refine g_isiT (b := true) (b2 := false) upd_same (Dp.ty hy1) (kit_ty (a := "tuple") (by decide +kernel)) (kit_ty (a := "tuple") (by decide +kernel)) ?_
    walk_at "go"
    refine g_isi (b := true) (Dp.ty hx1) (kit_ty (a := "tuple") (b := "tuple") (by decide +kernel)) ?_
    walk_at "go"
    refine g_isi (b := true) (Dp.ty hy1) (kit_ty (a := "tuple") (b := "tuple") (by decide +kernel)) ?_
    walk_at "go"
    rw [show (true == true) = true from rfl]
    walk_at "go"
    refine ⟨by show 2 ≤ sizeLine; decide, fun p2 np2 => ?_⟩
    walk_at "go"
    have s2 := s1.trans (same_new (o := .tup [.ty "tuple", .ty "list"]) np2)
    have hy2 := Dp.same s2 _ _ hy
    have hx2 := Dp.same s2 _ _ hx
    refine g_isiT (b := true) (b2 := false) upd_same (Dp.ty hx2) (kit_ty (a := "tuple") (by decide +kernel)) (kit_ty (a := "tuple") (by decide +kernel)) ?_
    walk_at "go"
    cases hx2 with
    | tup qx rx =>
    cases hy2 with
    | tup qy ry =>
      refine ⟨_, _, rfl, .inr qx, ?_⟩
      walk_at "go"
      refine ⟨_, _, rfl, .inr qy, ?_⟩
      walk_at "go"
      rw [DpAll.len rx, DpAll.len ry, decide_eq_true rfl]
      walk_at "go"
      refine ⟨_, _, _, _, rfl, .inr ⟨qx, qy, fun D nD => ?_⟩⟩
      have hlen : ds.length ≤ 1000000 := by
        unfold sm at hsm
        rw [Bool.and_eq_true] at hsm
        exact of_decide_eq_true hsm.1
      have hall : smAll ds = true := by
        unfold sm at hsm
        rw [Bool.and_eq_true] at hsm
        exact hsm.2
      have hda : depAll ds ≤ n := by
        unfold dep at hd
        omega
      refine lc_same (H0 := upd (upd H p (.tup [.ty "tuple", .ty "list"])) p2 (.tup [.ty "tuple", .ty "list"])) (walk_zipT (K := K) (n := ds.length) (by rw [DpAll.len rx, DpAll.len ry, Nat.min_self])) (fun i => (List.replicate i true).map V.bl) rfl (fun i hi => ?_) (Same.refl _) nD nD (fun H' s' => ⟨(Tx.of s').seq qx, (Tx.of s').seq qy⟩) (fun i x' H2 H3 C Cn hi s3 hy' hC hN => ?_) (fun H' s3 hD => ?_)
      · rw [List.length_map, List.length_replicate]
        exact Nat.lt_of_le_of_lt (show i ≤ 1000000 by omega) (by decide)
      · obtain ⟨Tp, x1, y1, rfl, nT, rfl, e1, e2⟩ := hy'
        obtain ⟨d1, g1, r1⟩ := DpAll.get rx e1
        obtain ⟨d2, g2, r2⟩ := DpAll.get ry e2
        have ed : d2 = d1 := Option.some.inj (g2.symm.trans g1)
        subst ed
        have sT : Same _ (upd H2 Tp (.tup [x1, y1])) := s3.trans (same_new nT)
        refine ⟨Tp, _, rfl, SqT.new, rfl, _, _, rfl, _, _, rfl, rfl, rfl, ?_⟩
        walk_at "go"
        refine ⟨x1, y1, d2, rfl, Dp.same sT _ _ r1, Dp.same sT _ _ r2, Nat.le_trans (dep_at g1) hda, sm_at hall g1, fun H4 s4 => hC _ _ ((same_new nT).trans s4) ?_⟩
        rw [List.replicate_succ', List.map_append]
        rfl
      · walk_at "go"
        refine ⟨D, _, rfl, SqL.at hD, ?_⟩
        rw [all_rep]
        exact q _ (s2.trans s3)
theorem ok_law_is_list (T : Txt K mg a) {n : Nat} (G : FnOk P w K mg base CX0 (n + 1) a.f_law_is a.d_law_is ["_law_told", "_law_due"] (sp_law_is K n)) : FnOk P w K mg base CX0 (n + 2) a.f_law_is a.d_law_is ["_law_told", "_law_due"] (fun vs H Q _ => ∃ x y ds, vs = [x, y] ∧ Dp K H x (.list ds) ∧ Dp K H y (.list ds) ∧ dep (.list ds) ≤ n + 1 ∧ sm (.list ds) = true ∧ ∀ H', Same H H' → Q (.bl true) H') := by
  refine T.F_law_is.ok sc_law_is (fun vs H Q E h => ?_) (fun cdv A outer s H vs Q E hr h => ?_)
  · obtain ⟨x, y, d, rfl, _⟩ := h
    rfl
  · obtain ⟨x, y, ds, rfl, hx, hy, hd, hsm, q⟩ := h
    refine ⟨_, (pss_cons (ps_if (pt_val (pe_callB (kIsiT K rfl) (by rfl) T.z_isinstance (by decide +kernel) (pa_cons (pv 1) (pa_cons (pe_tup (pa_cons (pe_bltn (v := .ty "tuple") (by rfl) T.z_tuple (by decide +kernel) rfl) (pa_cons (pe_bltn (v := .ty "list") (by rfl) T.z_list (by decide +kernel) rfl) pa_nil))) pa_nil))))
  (pss_cons (ps_if (PW.pt (pw_or (pt_cmpR op_ne (pe_callB (kIsi K rfl) (by rfl) T.z_isinstance (by decide +kernel) (pa_cons (pv 0) (pa_cons (pe_bltn (v := .ty "tuple") (by rfl) T.z_tuple (by decide +kernel) rfl) pa_nil))) (pe_callB (kIsi K rfl) (by rfl) T.z_isinstance (by decide +kernel) (pa_cons (pv 1) (pa_cons (pe_bltn (v := .ty "tuple") (by rfl) T.z_tuple (by decide +kernel) rfl) pa_nil))) (nomark _)) (pw_or1 (pt_not (pt_val (pe_callB (kIsiT K rfl) (by rfl) T.z_isinstance (by decide +kernel) (pa_cons (pv 0) (pa_cons (pe_tup (pa_cons (pe_bltn (v := .ty "tuple") (by rfl) T.z_tuple (by decide +kernel) rfl) (pa_cons (pe_bltn (v := .ty "list") (by rfl) T.z_list (by decide +kernel) rfl) pa_nil))) pa_nil))))))))
  (pss_one (ps_ret pe_bl))
  pss_nil)
  (pss_one (ps_ret (pe_and (pe_cmpR op_eq (pe_callB (kLen K rfl) (by rfl) T.z_len (by decide +kernel) (pa_cons (pv 0) pa_nil)) (pe_callB (kLen K rfl) (by rfl) T.z_len (by decide +kernel) (pa_cons (pv 1) pa_nil)) (nomark _)) (pe_one (pe_callB (kAll K rfl rfl) (by rfl) T.z_all (by decide +kernel) (pa_cons (pe_lc (own := [("_law_one", 2), ("_law_two", 3)]) (g := (gTup K 2 (gCons (gName 2) (gCons (gName 3) gNil)))) rfl sc_law_is.nd (kiZip K rfl (by rfl) T.z_zip (pa_cons (pv 0) (pa_cons (pv 1) pa_nil))) (blkOk_by (own := [("_law_one", 2), ("_law_two", 3)]) (N := ["_law_told", "_law_due", "_law_one", "_law_two"]) (sc := defScope s_law_is) (by decide +kernel)) (fun _ _ _ _ _ => (kgTup K rfl rfl (pgs_cons (pg_name (i := 2) sc_law_is.nd rfl (.inl rfl)) (pgs_cons (pg_name (i := 3) sc_law_is.nd rfl (.inl rfl)) pgs_nil)))) (fun _ _ _ _ _ => pts_nil) (fun _ _ _ _ _ => (pe_call G (hr.mono (by first | decide | omega)) (by rfl) T.g_law_is T.F_law_is.kp (T.b_law_is) .nil pass0 (pa_cons (pv 2) (pa_cons (pv 3) pa_nil))))) pa_nil)))))))
  pss_nil)
  (pss_one (ps_ret (pe_and (pe_cmpR op_eq (pe_callB (kIsi K rfl) (by rfl) T.z_isinstance (by decide +kernel) (pa_cons (pv 0) (pa_cons (pe_bltn (v := .ty "bool") (by rfl) T.z_bool (by decide +kernel) rfl) pa_nil))) (pe_callB (kIsi K rfl) (by rfl) T.z_isinstance (by decide +kernel) (pa_cons (pv 1) (pa_cons (pe_bltn (v := .ty "bool") (by rfl) T.z_bool (by decide +kernel) rfl) pa_nil))) (nomark _)) (pe_one (pe_cmpR op_eq (pv 0) (pv 1) (nomark _))))))), ?_⟩
    walk_at "go"
    refine ⟨by show 2 ≤ sizeLine; decide, fun p np => ?_⟩
    walk_at "go"
    have s1 : Same H (upd H p (.tup [.ty "tuple", .ty "list"])) := same_new np
    have hy1 := Dp.same s1 _ _ hy
    have hx1 := Dp.same s1 _ _ hx
    refine g_isiT (b := false) (b2 := true) upd_same (Dp.ty hy1) (kit_ty (a := "list") (by decide +kernel)) (kit_ty (a := "list") (by decide +kernel)) ?_
    walk_at "go"
    refine g_isi (b := false) (Dp.ty hx1) (kit_ty (a := "list") (b := "tuple") (by decide +kernel)) ?_
    walk_at "go"
    refine g_isi (b := false) (Dp.ty hy1) (kit_ty (a := "list") (b := "tuple") (by decide +kernel)) ?_
    walk_at "go"
    rw [show (false == false) = true from rfl]
    walk_at "go"
    refine ⟨by show 2 ≤ sizeLine; decide, fun p2 np2 => ?_⟩
    walk_at "go"
    have s2 := s1.trans (same_new (o := .tup [.ty "tuple", .ty "list"]) np2)
    have hy2 := Dp.same s2 _ _ hy
    have hx2 := Dp.same s2 _ _ hx
    refine g_isiT (b := false) (b2 := true) upd_same (Dp.ty hx2) (kit_ty (a := "list") (by decide +kernel)) (kit_ty (a := "list") (by decide +kernel)) ?_
    walk_at "go"
    cases hx2 with
    | lst qx rx =>
    cases hy2 with
    | lst qy ry =>
      refine ⟨_, _, rfl, .inl qx, ?_⟩
      walk_at "go"
      refine ⟨_, _, rfl, .inl qy, ?_⟩
      walk_at "go"
      rw [DpAll.len rx, DpAll.len ry, decide_eq_true rfl]
      walk_at "go"
      refine ⟨_, _, _, _, rfl, .inl ⟨qx, qy, fun D nD => ?_⟩⟩
      have hlen : ds.length ≤ 1000000 := by
        unfold sm at hsm
        rw [Bool.and_eq_true] at hsm
        exact of_decide_eq_true hsm.1
      have hall : smAll ds = true := by
        unfold sm at hsm
        rw [Bool.and_eq_true] at hsm
        exact hsm.2
      have hda : depAll ds ≤ n := by
        unfold dep at hd
        omega
      refine lc_same (H0 := upd (upd H p (.tup [.ty "tuple", .ty "list"])) p2 (.tup [.ty "tuple", .ty "list"])) (walk_zip (K := K) (n := ds.length) (by rw [DpAll.len rx, DpAll.len ry, Nat.min_self])) (fun i => (List.replicate i true).map V.bl) rfl (fun i hi => ?_) (Same.refl _) nD nD (fun H' s' => ⟨s'.seq qx, s'.seq qy⟩) (fun i x' H2 H3 C Cn hi s3 hy' hC hN => ?_) (fun H' s3 hD => ?_)
      · rw [List.length_map, List.length_replicate]
        exact Nat.lt_of_le_of_lt (show i ≤ 1000000 by omega) (by decide)
      · obtain ⟨Tp, x1, y1, rfl, nT, rfl, e1, e2⟩ := hy'
        obtain ⟨d1, g1, r1⟩ := DpAll.get rx e1
        obtain ⟨d2, g2, r2⟩ := DpAll.get ry e2
        have ed : d2 = d1 := Option.some.inj (g2.symm.trans g1)
        subst ed
        have sT : Same _ (upd H2 Tp (.tup [x1, y1])) := s3.trans (same_new nT)
        refine ⟨Tp, _, rfl, SqT.new, rfl, _, _, rfl, _, _, rfl, rfl, rfl, ?_⟩
        walk_at "go"
        refine ⟨x1, y1, d2, rfl, Dp.same sT _ _ r1, Dp.same sT _ _ r2, Nat.le_trans (dep_at g1) hda, sm_at hall g1, fun H4 s4 => hC _ _ ((same_new nT).trans s4) ?_⟩
        rw [List.replicate_succ', List.map_append]
        rfl
      · walk_at "go"
        refine ⟨D, _, rfl, SqL.at hD, ?_⟩
        rw [all_rep]
        exact q _ (s2.trans s3)
theorem FnOk.cases3 {k : Nat} {f : Addr} {fd : FuncData} {ps : List Str} {sp sp1 sp2 sp3 : Sp} (F1 : FnOk P w K mg base CX0 k f fd ps sp1) (F2 : FnOk P w K mg base CX0 k f fd ps sp2) (F3 : FnOk P w K mg base CX0 k f fd ps sp3) (h : ∀ vs H Q E, sp vs H Q E → sp1 vs H Q E ∨ sp2 vs H Q E ∨ sp3 vs H Q E) : FnOk P w K mg base CX0 k f fd ps sp where
  len := fun vs H Q E q => by
    rcases h vs H Q E q with q | q | q
    · exact F1.len vs H Q E q
    · exact F2.len vs H Q E q
    · exact F3.len vs H Q E q
  run := fun A outer s H args us vs Q E hr e b r q => by
    rcases h vs H Q E q with q | q | q
    · exact F1.run A outer s H args us vs Q E hr e b r q
    · exact F2.run A outer s H args us vs Q E hr e b r q
    · exact F3.run A outer s H args us vs Q E hr e b r q
theorem ok_law_is (T : Txt K mg a) : ∀ n : Nat, FnOk P w K mg base CX0 (n + 1) a.f_law_is a.d_law_is ["_law_told", "_law_due"] (sp_law_is K n)
  | 0 => FnOk.imp (ok_law_is0 T) fun vs H Q E ⟨x, y, d, e, hx, hy, hd, hs, q⟩ => ⟨x, y, d, e, hx, hy, by
      cases hx <;> first | rfl | (unfold dep at hd; omega), q⟩
  | n + 1 => FnOk.cases3 (ok_law_is0 T) (ok_law_is_tuple T (ok_law_is T n)) (ok_law_is_list T (ok_law_is T n)) fun vs H Q E ⟨x, y, d, e, hx, hy, hd, hs, q⟩ => by
      cases hx with
      | non => exact .inl ⟨_, y, _, e, .non, hy, rfl, q⟩
      | bl b => exact .inl ⟨_, y, _, e, .bl b, hy, rfl, q⟩
      | int b => exact .inl ⟨_, y, _, e, .int b, hy, rfl, q⟩
      | str b => exact .inl ⟨_, y, _, e, .str b, hy, rfl, q⟩
      | tup a b => exact .inr (.inl ⟨_, y, _, e, .tup a b, hy, hd, hs, q⟩)
      | lst a b => exact .inr (.inr ⟨_, y, _, e, .lst a b, hy, hd, hs, q⟩)

end

section
variable {P : Program} {w : World} {K : PySem.W.Frag} {mg : Str → Option Value} {base : Heap} {a : Ad}
theorem cnt_lt {p : Int → Bool} (mono : ∀ x y : Int, x ≤ y → p y = true → p x = true) : ∀ {ns : List Int}, ns.Pairwise (· ≤ ·) → ∀ {i : Nat} {x : Int}, ns[i]? = some x → (p x = true ↔ i < (ns.filter p).length)
  | [], _, _, _, h => by simp at h
  | a :: r, hp, 0, x, h => by
    cases h
    rw [List.pairwise_cons] at hp
    rw [List.filter_cons]
    by_cases hx : p a = true
    · rw [if_pos hx]; simp [hx]
    · rw [if_neg hx]
      have : r.filter p = [] := by
        rw [List.filter_eq_nil_iff]
        intro y hy e
        exact hx (mono _ _ (hp.1 y hy) e)
      rw [this]
      simp [hx]
  | a :: r, hp, i + 1, x, h => by
    rw [List.pairwise_cons] at hp
    have h' : r[i]? = some x := by simpa using h
    have ih := cnt_lt mono hp.2 h'
    rw [List.filter_cons]
    by_cases hx : p a = true
    · rw [if_pos hx, ih, List.length_cons]; omega
    · rw [if_neg hx]
      have hxx : ¬ p x = true := fun e => hx (mono _ _ (hp.1 x (List.mem_of_getElem? h')) e)
      have : ¬ i < (r.filter p).length := fun e => hxx (ih.mpr e)
      constructor
      · intro e; exact absurd e hxx
      · intro e; omega
theorem cut_iff {ns : List Int} (hp : ns.Pairwise (· ≤ ·)) {i : Nat} {x : Int} (h : ns[i]? = some x) (b : Int) : x < b ↔ (i : Int) < cutAt ns b := by
  have := cnt_lt (p := fun x => decide (x < b)) (fun x y hxy hy => by
    have := of_decide_eq_true hy
    exact decide_eq_true (by omega)) hp h
  unfold cutAt
  rw [decide_eq_true_iff] at this
  rw [this]
  omega
theorem off_iff {cs : List Int} (hp : cs.Pairwise (· ≤ ·)) {i : Nat} {x : Int} (h : cs[i]? = some x) (b : Int) : x ≤ b ↔ (i : Int) ≤ offAt cs b := by
  have := cnt_lt (p := fun x => decide (x ≤ b)) (fun x y hxy hy => by
    have := of_decide_eq_true hy
    exact decide_eq_true (by omega)) hp h
  unfold offAt
  rw [decide_eq_true_iff] at this
  rw [this]
  omega
theorem cutAt_nn (ns : List Int) (b : Int) : 0 ≤ cutAt ns b := by unfold cutAt; omega
theorem cutAt_le (ns : List Int) (b : Int) : cutAt ns b ≤ ns.length := by
  unfold cutAt
  have := List.length_filter_le (fun x => decide (x < b)) ns
  omega
theorem offAt_lo (ns : List Int) (b : Int) : -1 ≤ offAt ns b := by unfold offAt; omega
theorem offAt_le (ns : List Int) (b : Int) : offAt ns b ≤ ns.length - 1 := by
  unfold offAt
  have := List.length_filter_le (fun x => decide (x ≤ b)) ns
  omega
/-- a number told by the places below it -/
theorem cutAt_eq {ns : List Int} (hp : ns.Pairwise (· ≤ ·)) {b c : Int} (h0 : 0 ≤ c) (h1 : c ≤ ns.length) (h : ∀ (i : Nat) x, ns[i]? = some x → (x < b ↔ (i : Int) < c)) : cutAt ns b = c := by
  have n1 := cutAt_nn ns b
  have n2 := cutAt_le ns b
  rcases Int.lt_trichotomy (cutAt ns b) c with e | e | e
  · have hl : (cutAt ns b).toNat < ns.length := by omega
    have g := List.getElem?_eq_getElem hl
    have k1 := cut_iff hp g b
    have k2 := h _ _ g
    omega
  · exact e
  · have hl : c.toNat < ns.length := by omega
    have g := List.getElem?_eq_getElem hl
    have k1 := cut_iff hp g b
    have k2 := h _ _ g
    omega
theorem offAt_eq {ns : List Int} (hp : ns.Pairwise (· ≤ ·)) {b c : Int} (h0 : -1 ≤ c) (h1 : c ≤ ns.length - 1) (h : ∀ (i : Nat) x, ns[i]? = some x → (x ≤ b ↔ (i : Int) ≤ c)) : offAt ns b = c := by
  have n1 := offAt_lo ns b
  have n2 := offAt_le ns b
  rcases Int.lt_trichotomy (offAt ns b) c with e | e | e
  · have hl : c.toNat < ns.length := by omega
    have g := List.getElem?_eq_getElem hl
    have k1 := off_iff hp g b
    have k2 := h _ _ g
    omega
  · exact e
  · have hl : (offAt ns b).toNat < ns.length := by omega
    have g := List.getElem?_eq_getElem hl
    have k1 := off_iff hp g b
    have k2 := h _ _ g
    omega
theorem range_map_at {α : Type} {f : Nat → α} {n i : Nat} (h : i < n) : ((List.range n).map f)[i]? = some (f i) := by
  rw [List.getElem?_map, List.getElem?_range h]; rfl
theorem range_map_of {α : Type} {f : Nat → α} {n i : Nat} {x : α} (h : ((List.range n).map f)[i]? = some x) : i < n ∧ x = f i := by
  have hl : i < n := by
    have := (List.getElem?_eq_some_iff.mp h).1
    simpa using this
  rw [range_map_at hl] at h
  exact ⟨hl, (Option.some.inj h).symm⟩
theorem pairwise_range_map {f : Nat → Int} {n : Nat} (h : ∀ i j, i ≤ j → j < n → f i ≤ f j) : ((List.range n).map f).Pairwise (· ≤ ·) := by
  rw [List.pairwise_iff_getElem]
  intro i j hi hj hij
  have hi' : i < n := by simpa using hi
  have hj' : j < n := by simpa using hj
  simp only [List.getElem_map, List.getElem_range]
  exact h i j (by omega) hj'
theorem cutAt_mono (ns : List Int) {b c : Int} (h : b ≤ c) : cutAt ns b ≤ cutAt ns c := by
  unfold cutAt
  have : ∀ l : List Int, (l.filter fun x => decide (x < b)).length ≤ (l.filter fun x => decide (x < c)).length := by
    intro l
    induction l with
    | nil => exact Nat.le_refl _
    | cons a r ih =>
      rw [List.filter_cons, List.filter_cons]
      by_cases h1 : a < b
      · rw [if_pos (decide_eq_true h1), if_pos (decide_eq_true (show a < c by omega)), List.length_cons, List.length_cons]; omega
      · rw [if_neg (by simpa using h1)]
        split
        · rw [List.length_cons]; omega
        · exact ih
  have := this ns
  omega
theorem offAt_mono (ns : List Int) {b c : Int} (h : b ≤ c) : offAt ns b ≤ offAt ns c := by
  unfold offAt
  have : ∀ l : List Int, (l.filter fun x => decide (x ≤ b)).length ≤ (l.filter fun x => decide (x ≤ c)).length := by
    intro l
    induction l with
    | nil => exact Nat.le_refl _
    | cons a r ih =>
      rw [List.filter_cons, List.filter_cons]
      by_cases h1 : a ≤ b
      · rw [if_pos (decide_eq_true h1), if_pos (decide_eq_true (show a ≤ c by omega)), List.length_cons, List.length_cons]; omega
      · rw [if_neg (by simpa using h1)]
        split
        · rw [List.length_cons]; omega
        · exact ih
  have := this ns
  omega
theorem cuts_len (ns : List Int) : (cutsOf ns).length = ns.length + 1 := by unfold cutsOf; simp
theorem cuts_at {ns : List Int} {i : Nat} (h : i ≤ ns.length) : (cutsOf ns)[i]? = some (cutAt ns (i : Int)) := range_map_at (f := fun (b : Nat) => cutAt ns (b : Int)) (by omega)
theorem off_len (cs : List Int) : (readOff cs).length = cs.length - 1 := by unfold readOff; simp
theorem off_at {cs : List Int} {i : Nat} (h : i < cs.length - 1) : (readOff cs)[i]? = some (offAt cs (i : Int)) := range_map_at (f := fun (b : Nat) => offAt cs (b : Int)) h
theorem cuts_first {ns : List Int} (h : Sheets ns) : cutAt ns 0 = 0 := by
  refine cutAt_eq h.2.2.2 (Int.le_refl 0) (by omega) fun i x hx => ?_
  have := (h.2.2.1 x (List.mem_of_getElem? hx)).1
  omega
theorem cuts_last {ns : List Int} (h : Sheets ns) : cutAt ns (ns.length : Int) = ns.length := by
  refine cutAt_eq h.2.2.2 (by omega) (Int.le_refl _) fun i x hx => ?_
  have := (h.2.2.1 x (List.mem_of_getElem? hx)).2
  have hl := (List.getElem?_eq_some_iff.mp hx).1
  omega
theorem Sheets.cuts {ns : List Int} (h : Sheets ns) : Cuts (cutsOf ns) := by
  have h1 := h.1
  have h2 := h.2.1
  refine ⟨by rw [cuts_len]; omega, by rw [cuts_len]; omega, fun x hx => ?_, ?_, ?_, ?_⟩
  · obtain ⟨i, hi⟩ := List.mem_iff_getElem?.mp hx
    obtain ⟨hl, rfl⟩ := range_map_of hi
    rw [cuts_len]
    have := cutAt_nn ns (i : Int)
    have := cutAt_le ns (i : Int)
    omega
  · exact pairwise_range_map fun i j hij _ => cutAt_mono ns (by omega)
  · rw [cuts_at (by omega)]
    exact congrArg some (cuts_first h)
  · rw [cuts_len, show ns.length + 1 - 1 = ns.length from by omega, cuts_at (Nat.le_refl _), cuts_last h]
    congr 1
    omega
theorem Sheets.off {ns : List Int} (h : Sheets ns) : readOff (cutsOf ns) = ns := by
  refine List.ext_getElem? fun i => ?_
  by_cases hi : i < ns.length
  · rw [off_at (by rw [cuts_len]; omega)]
    have g := List.getElem?_eq_getElem hi
    rw [g]
    have hm := h.2.2.1 _ (List.getElem_mem hi)
    congr 1
    refine offAt_eq h.cuts.2.2.2.1 (by omega) (by rw [cuts_len]; omega) fun j x hx => ?_
    obtain ⟨hl, rfl⟩ := range_map_of hx
    have := cut_iff h.2.2.2 g (j : Int)
    omega
  · rw [List.getElem?_eq_none (by rw [off_len, cuts_len]; omega), List.getElem?_eq_none (by omega)]
theorem Sheets.at {ns : List Int} (h : Sheets ns) {o : Nat} {x : Int} (g : ns[o]? = some x) (e : Int) : x = e ↔ (cutAt ns e ≤ o ∧ (o : Int) < cutAt ns (e + 1)) := by
  have a := cut_iff h.2.2.2 g e
  have b := cut_iff h.2.2.2 g (e + 1)
  omega
theorem Cuts.sheets {cs : List Int} (h : Cuts cs) : Sheets (readOff cs) := by
  obtain ⟨h1, h2, h3, h4, h5, h6⟩ := h
  refine ⟨by rw [off_len]; omega, by rw [off_len]; omega, fun x hx => ?_, pairwise_range_map fun i j hij _ => offAt_mono cs (by omega)⟩
  obtain ⟨i, hi⟩ := List.mem_iff_getElem?.mp hx
  obtain ⟨hl, rfl⟩ := range_map_of hi
  rw [off_len]
  have a := off_iff h4 h5 (i : Int)
  have b := off_iff h4 h6 (i : Int)
  have := offAt_le cs (i : Int)
  omega
theorem Cuts.off {cs : List Int} (h : Cuts cs) : cutsOf (readOff cs) = cs := by
  have hs := h.sheets
  obtain ⟨h1, h2, h3, h4, h5, h6⟩ := h
  refine List.ext_getElem? fun i => ?_
  by_cases hi : i < cs.length
  · rw [cuts_at (by rw [off_len]; omega)]
    have g := List.getElem?_eq_getElem hi
    rw [g]
    have hm := h3 _ (List.getElem_mem hi)
    congr 1
    refine cutAt_eq hs.2.2.2 (by omega) (by rw [off_len]; omega) fun j x hx => ?_
    obtain ⟨hl, rfl⟩ := range_map_of hx
    have := off_iff h4 g (j : Int)
    omega
  · rw [List.getElem?_eq_none (by rw [cuts_len, off_len]; omega), List.getElem?_eq_none (by omega)]

end

section
variable {P : Program} {w : World} {K : PySem.W.Frag} {mg : Str → Option Value} {base : Heap} {a : Ad}
def sp_law_cuts (K : PySem.W.Frag) : Sp := fun vs H Q _ => ∃ (p : Addr) (ns : List Int), vs = [.ref p] ∧ SqT K H p (ns.map V.int) ∧ ns.length ≤ 500 ∧ ∀ H' p', Same H H' → SqT K H' p' ((cutsOf ns).map V.int) → Q (.ref p') H'
theorem ok_law_cuts (T : Txt K mg a) : FnOk P w K mg base CX0 1 a.f_law_cuts a.d_law_cuts ["_law_editions"] (sp_law_cuts K) := by
  refine T.F_law_cuts.ok sc_law_cuts (fun vs H Q E h => ?_) (fun cdv A outer s H vs Q E hr h => ?_)
  · obtain ⟨p, ns, rfl, _⟩ := h
    rfl
  · obtain ⟨p, ns, rfl, hp1, hl2, q⟩ := h
    refine ⟨_, (pss_one (ps_ret (pe_callTy (kTupOf K rfl) (by rfl) T.z_tuple (by decide +kernel) (pa_cons (pe_lc (own := [("_law_border", 1)]) (g := (gName 1)) rfl sc_law_cuts.nd (pi_range1 rfl T.z_range (pa_cons (pe_op op_add (pe_callB (kLen K rfl) (by rfl) T.z_len (by decide +kernel) (pa_cons (pv 0) pa_nil)) pe_int) pa_nil)) (blkOk_by (own := [("_law_border", 1)]) (N := ["_law_editions", "_law_border", "_law_own"]) (sc := defScope s_law_cuts) (by decide +kernel)) (fun _ _ _ _ _ => (pg_name (i := 1) sc_law_cuts.nd rfl (.inr rfl))) (fun _ _ _ _ _ => pts_nil) (fun _ _ _ _ _ => (pe_callB (kLen K rfl) (by rfl) T.z_len (by decide +kernel) (pa_cons (pe_lc (own := [("_law_own", 2)]) (g := (gName 2)) rfl sc_law_cuts.nd (kiTup K rfl (pv 0)) (blkOk_by (own := [("_law_own", 2)]) (N := ["_law_editions", "_law_border", "_law_own"]) (sc := { kind := .function, names := [(PySem.Str.ofString ".0", PySem.NameKind.local), (PySem.Str.ofString "_law_border", PySem.NameKind.cell), (PySem.Str.ofString "len", PySem.NameKind.globalImplicit), (PySem.Str.ofString "_law_editions", PySem.NameKind.cell)], isGenerator := false, isCoroutine := false, more := [] : Scope }) (by decide +kernel)) (fun _ _ _ _ _ => (pg_name (i := 2) sc_law_cuts.nd rfl (.inl rfl))) (fun _ _ _ _ _ => (pts_one (pt_cmpR op_lt (pv 2) (pv 1) (nomark _)))) (fun _ _ _ _ _ => (pv 2))) pa_nil)))) pa_nil)))), ?_⟩
    walk_at "go"
    refine ⟨_, _, rfl, .inr hp1, ?_⟩
    rw [List.length_map]
    walk_at "go"
    refine ⟨_, rfl, by omega, by omega, fun D nD => ?_⟩
    refine lc_same (H0 := H) walk_range (fun i => ((List.range i).map fun (b : Nat) => cutAt ns (b : Int)).map V.int) rfl (fun i hi => ?_) (Same.refl H) nD nD (fun _ _ => trivial) (fun i x H2 H3 C Cn hi s hy hC hN => ?_) (fun H' s hD => ?_)
    · rw [List.length_map, List.length_map, List.length_range]
      exact small1000 (by omega)
    · obtain ⟨rfl, rfl⟩ := hy
      have hp2 := (Tx.of s).seq hp1
      refine ⟨rfl, ?_⟩
      walk_at "go"
      refine ⟨_, rfl, ⟨_, hp2⟩, fun D2 nD2 => ?_⟩
      refine lc_same (H0 := H3) (walk_tup (K := K) (a := p) (xs := ns.map V.int)) (fun j => ((ns.take j).filter fun x => decide (x < (i : Int))).map V.int) rfl (fun j _ => ?_) (Same.refl H3) nD2 nD2 (fun H' s' => (Tx.of s').seq hp2) (fun j y H4 H5 C' Cn' hj s' hy' hC' hN' => ?_) (fun H' s' hD' => ?_)
      · rw [List.length_map]
        exact Nat.lt_of_le_of_lt (List.length_filter_le _ _) (small1000 (by rw [List.length_take]; omega))
      · obtain ⟨rfl, hx⟩ := hy'
        obtain ⟨z, hz, rfl⟩ := map_at hx
        refine ⟨rfl, ?_⟩
        walk_at "go"
        refine g_ite (fun e1 => ?_) (fun e1 => ?_)
        · walk_at "go"
          refine hC' _ _ (Same.refl _) ?_
          rw [take_snoc hz, List.filter_append, filt1 (by simpa using e1), List.map_append]
          rfl
        · refine hN' _ (Same.refl _) ?_
          rw [take_snoc hz, List.filter_append, filt0 (by simpa using e1), List.append_nil]
      · walk_at "go"
        refine ⟨_, _, rfl, .inl (SqL.at hD'), ?_⟩
        refine hC _ _ s' ?_
        rw [List.range_succ, List.map_append, List.map_append, List.length_map, List.length_map, List.take_length]
        rfl
    · walk_at "go"
      refine ⟨D, _, rfl, .inl ⟨SqL.at hD, fun p' np' => ?_⟩⟩
      refine q _ p' (s.trans (same_new np')) ?_
      have e : ((ns.length : Int) + 1).toNat = ns.length + 1 := by omega
      rw [e]
      exact SqT.new
/-- a rising tuple of i numbers from 0 to m -/
def Ris (m : Int) (i : Nat) (e : PyData) : Prop := ∃ ns : List Int, e = tupI ns ∧ ns.length = i ∧ (∀ x ∈ ns, 0 ≤ x ∧ x ≤ m) ∧ ns.Pairwise (· ≤ ·)
theorem Ris.im {m : Int} {i : Nat} {e : PyData} (h : Ris m i e) : im e = true := by
  obtain ⟨ns, rfl, _⟩ := h
  exact im_ints ns
theorem ris_all {m : Int} {i : Nat} {ds : List PyData} (h : ∀ e ∈ ds, Ris m i e) : imAll ds = true := (imAll_iff _).mpr fun e he => (h e he).im
def keepB (ns : List Int) (z : Int) : Bool := match ns.getLast? with
  | none => true
  | some l => decide (l ≤ z)
theorem rises_snoc {ns : List Int} (h : ns.Pairwise (· ≤ ·)) {z : Int} (k : keepB ns z = true) : (ns ++ [z]).Pairwise (· ≤ ·) := by
  rw [List.pairwise_append]
  refine ⟨h, by simp, fun x hx y hy => ?_⟩
  rw [List.mem_singleton.mp hy]
  unfold keepB at k
  cases hl : ns.getLast? with
  | none => rw [List.getLast?_eq_none_iff] at hl; subst hl; cases hx
  | some l =>
    rw [hl] at k
    have kz := of_decide_eq_true k
    obtain ⟨r, rfl⟩ := List.getLast?_eq_some_iff.mp hl
    rw [List.pairwise_append] at h
    rcases List.mem_append.mp hx with hx | hx
    · have := h.2.2 x hx l (by simp)
      omega
    · rw [List.mem_singleton.mp hx]
      exact kz
theorem Ris.more {m : Int} {i : Nat} {ns : List Int} (h : Ris m i (tupI ns)) {z : Int} (z0 : 0 ≤ z) (z1 : z ≤ m) (k : keepB ns z = true) : Ris m (i + 1) (tupI (ns ++ [z])) := by
  obtain ⟨ns', e, hl, hm, hp⟩ := h
  have en : ns = ns' := by
    have e1 : ns.map PyData.int = ns'.map PyData.int := by injection e
    have inj : ∀ (l l' : List Int), l.map PyData.int = l'.map PyData.int → l = l' := fun l => by
      induction l with
      | nil => intro l' h; cases l' with
        | nil => rfl
        | cons _ _ => cases h
      | cons a r ih => intro l' h; cases l' with
        | nil => cases h
        | cons b q =>
          injection h with h1 h2
          injection h1 with h1
          rw [h1, ih q h2]
    exact inj _ _ e1
  subst en
  refine ⟨_, rfl, by rw [List.length_append, hl]; rfl, fun x hx => ?_, rises_snoc hp k⟩
  rcases List.mem_append.mp hx with hx | hx
  · exact hm x hx
  · rw [List.mem_singleton.mp hx]
    exact ⟨z0, z1⟩
def sp_law_rising (K : PySem.W.Frag) : Sp := fun vs H Q _ => ∃ (m k : Int), vs = [.int m, .int k] ∧ 0 ≤ m ∧ m ≤ 4 ∧ 0 ≤ k ∧ k ≤ 4 ∧ ∀ H' l xs ds, Same H H' → H' l = some (.lst xs) → H l = none → DpAll K H' xs ds → (∀ e ∈ ds, Ris m k.toNat e) → Q (.ref l) H'
theorem pow_step {i : Nat} {k : Int} (hi : i < k.toNat) (hk : k ≤ 4) : 5 ^ i ≤ 125 := by
  have : i ≤ 3 := by omega
  calc 5 ^ i ≤ 5 ^ 3 := Nat.pow_le_pow_right (by decide) this
    _ = 125 := rfl
theorem ok_law_rising (T : Txt K mg a) : FnOk P w K mg base CX0 1 a.f_law_rising a.d_law_rising ["_law_most", "_law_many"] (sp_law_rising K) := by
  refine T.F_law_rising.ok sc_law_rising (fun vs H Q E h => ?_) (fun cdv A outer s H vs Q E hr h => ?_)
  · obtain ⟨m, k, rfl, _⟩ := h
    rfl
  · obtain ⟨m, k, rfl, m0, m4, k0, k4, q⟩ := h
    refine ⟨_, (pss_cons (ps_set (i := 2) sc_law_rising.nd rfl (.inl rfl) (pe_lst (pa_cons (pe_tup pa_nil) pa_nil)))
  (pss_cons (ps_for PassesOwn.never rfl (pi_range1 rfl T.z_range (pa_cons (pv 1) pa_nil)) (pg_name (i := 3) sc_law_rising.nd rfl (.inl rfl))
  (pss_cons (ps_set (i := 4) sc_law_rising.nd rfl (.inl rfl) (pe_lst pa_nil))
  (pss_cons (ps_for PassesOwn.never rfl (kiList K rfl (pv 2)) (pg_name (i := 5) sc_law_rising.nd rfl (.inr rfl))
  (pss_one (ps_expr (pe_bm PySem.F.plainAttrs_list PySem.F.slot_list_extend PySem.F.type_list_extend mt_extend (pv 4) (pa_cons (pe_lc (own := [("_law_number", 6)]) (g := (gName 6)) rfl sc_law_rising.nd (pi_range1 rfl T.z_range (pa_cons (pe_op op_add (pv 0) pe_int) pa_nil)) (blkOk_by (own := [("_law_number", 6)]) (N := ["_law_most", "_law_many", "_law_found", "_law_k", "_law_longer", "_law_row", "_law_number"]) (sc := defScope s_law_rising) (by decide +kernel)) (fun _ _ _ _ _ => (pg_name (i := 6) sc_law_rising.nd rfl (.inl rfl))) (fun _ _ _ _ _ => (pts_one (PW.pt (pw_or (pt_cmpR (kEqD K rfl hr.units) (pv 5) (pe_tup pa_nil) (nomark _)) (pw_or1 (pt_cmpR op_ge (pv 6) (pe_ix (kIxT K rfl) (pv 5) (pe_un un_neg pe_int) (fun _ _ => rfl)) (nomark _))))))) (fun _ _ _ _ _ => (pe_op (kCatA K rfl) (pv 5) (pe_tup (pa_cons (pv 6) pa_nil))))) pa_nil)))))
  (pss_one (ps_set (i := 2) sc_law_rising.nd rfl (.inl rfl) (pv 4))))))
  (pss_one (ps_ret (pv 2))))), ?_⟩
    walk_at "go"
    refine ⟨by show 0 ≤ sizeLine; decide, fun p np => ?_⟩
    walk_at "go"
    refine ⟨by show 1 ≤ sizeLine; decide, fun l nl => ?_⟩
    have s0 : Same H (upd (upd H p (.tup [])) l (.lst [.ref p])) := (same_new np).trans (same_new nl)
    have nl0 : H l = none := (same_new np).free nl
    walk_at "go"
    refine ⟨k, rfl, by omega, by omega, ?_⟩
    refine for_it walk_range (fun i σ H' => ∃ l xs ds y3 y4 y5 y6, σ = [some (.int m), some (.int k), some (.ref l), y3, y4, y5, y6] ∧ Same H H' ∧ H l = none ∧ H' l = some (.lst xs) ∧ DpAll K H' xs ds ∧ (∀ e ∈ ds, Ris m i e) ∧ ds.length ≤ 5 ^ i)
      ⟨l, [.ref p], [tupI []], _, _, _, _, rfl, s0, nl0, upd_same, ?_, ?_, Nat.le_refl 1⟩ (fun _ _ _ _ _ => trivial) (fun i x σ H1 H1' hi hP hy => ?_) (fun σ H' hP => ?_)
    · exact .cons (dp_ints (ns := []) ((Tx.new nl).seq SqT.new)) .nil
    · intro e he
      rw [List.mem_singleton.mp he]
      exact ⟨[], rfl, rfl, fun x hx => (by cases hx), .nil⟩
    · obtain ⟨l, xs, ds, y3, y4, y5, y6, rfl, sm, nl0, hl, hds, hgood, hlen⟩ := hP
      obtain ⟨rfl, rfl⟩ := hy
      have hlen' := Nat.le_trans hlen (pow_step hi k4)
      walk_at "go"
      refine ⟨Nat.zero_le _, fun g ng => ?_⟩
      walk_at "go"
      have sg : Same H1' (upd H1' g (.lst [])) := same_new ng
      refine ⟨l, rfl, ⟨_, SqL.at (sg _ _ hl)⟩, ?_⟩
      refine for_it (walk_list (K := K) (a := l) (xs := xs)) (fun j σ H' => ∃ zs es y3 y5 y6, σ = [some (.int m), some (.int k), some (.ref l), y3, some (.ref g), y5, y6] ∧ Same H1' H' ∧ H' g = some (.lst zs) ∧ DpAll K H' zs es ∧ (∀ e ∈ es, Ris m (i + 1) e) ∧ es.length ≤ 5 * j)
        ⟨[], [], _, _, _, rfl, sg, upd_same, .nil, (fun e he => by cases he), Nat.le_refl 0⟩ (fun j σ H' _ hP => ?_) (fun j x σ H2 H2' hj hP hy => ?_) (fun σ H' hP => ?_)
      · obtain ⟨zs, es, _, _, _, _, s2, _⟩ := hP
        exact SqL.at (s2 _ _ hl)
      · obtain ⟨zs, es, y3, y5, y6, rfl, s2, hg, hes, hgood2, hlen2⟩ := hP
        obtain ⟨rfl, hx⟩ := hy
        obtain ⟨d1, gd, rd⟩ := DpAll.get hds hx
        obtain ⟨ns, rfl, hn1, hn2, hn3⟩ := hgood d1 (List.mem_of_getElem? gd)
        obtain ⟨pr, rfl, hpr⟩ := of_ints rd
        walk_at "go"
        refine ⟨.inl ⟨rfl, _, SqL.at hg⟩, ?_⟩
        walk_at "go"
        refine ⟨m + 1, rfl, by omega, by omega, fun D nD => ?_⟩
        have hpr2 := (Tx.of s2).seq hpr
        have hA : ∀ n, ((List.range n).filter (fun (z : Nat) => keepB ns (z : Int))).length ≤ n := fun n => by
          have := List.length_filter_le (fun (z : Nat) => keepB ns (z : Int)) (List.range n)
          rw [List.length_range] at this
          exact this
        refine lc_data (K := K) walk_range (fun n => ((List.range n).filter (fun (z : Nat) => keepB ns (z : Int))).map fun (z : Nat) => tupI (ns ++ [(z : Int)])) rfl (fun n hn => ?_) (fun n hn => ?_) nD (fun _ _ => trivial) (fun z x H3 H3' C Cn hz s3 hy hC hN => ?_) (fun H' ys s3 hD hys => ?_)
        · rw [List.length_map]
          exact small1000 (Nat.le_trans (hA n) (by omega))
        · rw [imAll_iff]
          intro e he
          obtain ⟨z, _, rfl⟩ := List.mem_map.mp he
          exact im_ints _
        · obtain ⟨rfl, rfl⟩ := hy
          have hpr3 := (Tx.of s3).seq hpr2
          refine ⟨rfl, ?_⟩
          walk_at "go"
          refine ⟨Nat.zero_le _, fun t nt => ?_⟩
          walk_at "go"
          have st : Same H3' (upd H3' t (.tup [])) := same_new nt
          refine ⟨tupI ns, tupI [], dp_ints ((Tx.of st).seq hpr3), dp_ints SqT.new, shaped_tupI _, shaped_tupI _, ?_⟩
          rw [eqv_tupI]
          walk_at "go"
          refine g_ite (fun e0 => ?_) (fun e0 => ?_)
          · have kb : keepB ns (z : Int) = true := by rw [e0]; rfl
            walk_at "go"
            refine ⟨by show 1 ≤ sizeLine; decide, fun t2 nt2 => ?_⟩
            have s5 : Same H3' (upd (upd H3' t (.tup [])) t2 (.tup [.int (0 + (z : Int))])) := (same_new nt).trans (same_new nt2)
            refine g_catA ((Tx.of s5).seq hpr3) SqT.new (by rw [List.length_map, hn1]; show i + 1 ≤ sizeLine; exact Nat.le_trans (show i + 1 ≤ 5 by omega) (by decide)) (fun p5 H5 s6 h6 => ?_)
            have h6' : SqT K H5 p5 ((ns ++ [(z : Int)]).map V.int) := by rw [List.map_append, ← Int.zero_add (z : Int)]; exact h6
            refine hC _ _ _ (s5.trans s6) (dp_ints h6') ?_
            rw [List.range_succ, List.filter_append, filt1 (by exact kb), List.map_append]
            rfl
          · obtain ⟨la, hla⟩ : ∃ la, ns.getLast? = some la := by
              cases hla : ns.getLast? with
              | none => exact absurd (List.getLast?_eq_none_iff.mp hla) e0
              | some la => exact ⟨la, rfl⟩
            walk_at "go"
            refine g_ixT ((Tx.of st).seq hpr3) (atI_snoc hla) ?_
            walk_at "go"
            refine g_ite (fun e1 => ?_) (fun e1 => ?_)
            · have kb : keepB ns (z : Int) = true := by
                unfold keepB
                rw [hla]
                exact decide_eq_true (by omega)
              walk_at "go"
              refine ⟨by show 1 ≤ sizeLine; decide, fun t2 nt2 => ?_⟩
              have s5 : Same H3' (upd (upd H3' t (.tup [])) t2 (.tup [.int (0 + (z : Int))])) := (same_new nt).trans (same_new nt2)
              refine g_catA ((Tx.of s5).seq hpr3) SqT.new (by rw [List.length_map, hn1]; show i + 1 ≤ sizeLine; exact Nat.le_trans (show i + 1 ≤ 5 by omega) (by decide)) (fun p5 H5 s6 h6 => ?_)
              have h6' : SqT K H5 p5 ((ns ++ [(z : Int)]).map V.int) := by rw [List.map_append, ← Int.zero_add (z : Int)]; exact h6
              refine hC _ _ _ (s5.trans s6) (dp_ints h6') ?_
              rw [List.range_succ, List.filter_append, filt1 (by exact kb), List.map_append]
              rfl
            · refine hN _ st ?_
              have kb : ¬ keepB ns (z : Int) = true := by
                unfold keepB
                rw [hla]
                intro e
                exact e1 (by have := of_decide_eq_true e; omega)
              rw [List.range_succ, List.filter_append, filt0 (by exact kb), List.append_nil]
        · walk_at "go"
          refine ⟨g, D, zs, ys, rfl, rfl, s3 _ _ hg, hD, ?_, ?_⟩
          · have h5 := DpAll.len hes
            have h6 := DpAll.len hys
            rw [List.length_map] at h6
            have h7 := hA (m + 1).toNat
            have h8 := DpAll.len hds
            have h9 : zs.length + ys.length ≤ 1000 := by omega
            exact Nat.le_trans h9 (by decide)
          · have hys2 : ∀ e ∈ ((List.range (m + 1).toNat).filter (fun (z : Nat) => keepB ns (z : Int))).map fun (z : Nat) => tupI (ns ++ [(z : Int)]), Ris m (i + 1) e := by
              intro e he
              obtain ⟨z, hz, rfl⟩ := List.mem_map.mp he
              obtain ⟨hz1, hz2⟩ := List.mem_filter.mp hz
              have := List.mem_range.mp hz1
              exact Ris.more ⟨ns, rfl, hn1, hn2, hn3⟩ (by omega) (by omega) hz2
            refine ⟨zs ++ ys, es ++ ((List.range (m + 1).toNat).filter (fun (z : Nat) => keepB ns (z : Int))).map fun (z : Nat) => tupI (ns ++ [(z : Int)]), _, _, _, rfl, ?_, upd_same, ?_, ?_, ?_⟩
            · exact Same.put (s2.trans s3) ng
            · have im1 : imAll (es ++ ((List.range (m + 1).toNat).filter (fun (z : Nat) => keepB ns (z : Int))).map fun (z : Nat) => tupI (ns ++ [(z : Int)])) = true := (imAll_iff _).mpr fun e he => by
                rcases List.mem_append.mp he with he | he
                · exact (hgood2 e he).im
                · exact (hys2 e he).im
              exact Dp.txAll (Tx.lst (s3 _ _ hg)) _ _ im1 (DpAll.app (Dp.sameAll s3 _ _ hes) hys)
            · intro e he
              rcases List.mem_append.mp he with he | he
              · exact hgood2 e he
              · exact hys2 e he
            · rw [List.length_append, List.length_map]
              have := hA (m + 1).toNat
              omega
      · obtain ⟨zs, es, y3, y5, y6, rfl, s2, hg, hes, hgood2, hlen2⟩ := hP
        walk_at "go"
        refine ⟨g, zs, es, _, _, _, _, rfl, sm.trans s2, sm.free ng, hg, hes, hgood2, ?_⟩
        rw [Nat.pow_succ, DpAll.len hds] at *
        omega
    · obtain ⟨l, xs, ds, y3, y4, y5, y6, rfl, sm, nl0, hl, hds, hgood, hlen⟩ := hP
      walk_at "go"
      exact q _ l xs ds sm hl nl0 hds hgood
theorem dep_ints : ∀ ns : List Int, depAll (ns.map PyData.int) = 0
  | [] => rfl
  | _ :: r => by
    show max (dep (.int _)) (depAll (r.map PyData.int)) = 0
    rw [dep_ints r]
    rfl
theorem sm_ints : ∀ ns : List Int, smAll (ns.map PyData.int) = true
  | [] => rfl
  | _ :: r => by
    show (sm (.int _) && smAll (r.map PyData.int)) = true
    rw [sm_ints r]
    rfl
theorem dep_tupI (ns : List Int) : dep (tupI ns) ≤ 1 := by
  show depAll (ns.map PyData.int) + 1 ≤ 1
  rw [dep_ints]
  omega
theorem sm_tupI {ns : List Int} (h : ns.length ≤ 1000000) : sm (tupI ns) = true := by
  show (decide ((ns.map PyData.int).length ≤ 1000000) && smAll (ns.map PyData.int)) = true
  rw [sm_ints, List.length_map, decide_eq_true h]
  rfl
def sp_law_right (K : PySem.W.Frag) : Sp := fun vs H Q _ => ∃ (p : Addr) (ns : List Int), vs = [.ref p] ∧ SqT K H p (ns.map V.int) ∧ Sheets ns ∧ ∀ H', Same H H' → Q (.bl true) H'
theorem ok_law_right (T : Txt K mg a) : FnOk P w K mg base CX0 10 a.f_law_right a.d_law_right ["_law_here"] (sp_law_right K) := by
  refine T.F_law_right.ok sc_law_right (fun vs H Q E h => ?_) (fun cdv A outer s H vs Q E hr h => ?_)
  · obtain ⟨p, ns, rfl, _⟩ := h
    rfl
  · obtain ⟨p, ns, rfl, hp, hs, q⟩ := h
    have hl1 := hs.1
    have hl2 := hs.2.1
    refine ⟨_, (pss_cons (ps_set (i := 1) sc_law_right.nd rfl (.inl rfl) (pe_call (ok_borders T) (hr.mono (by first | decide | omega)) (by rfl) T.g_borders T.F_borders.kp (T.b_borders) .nil pass0 (pa_cons (pv 0) pa_nil)))
  (pss_cons (ps_if (PW.pt (pw_or (pt_not (pt_val (pe_call (ok_law_is T 1) (hr.mono (by first | decide | omega)) (by rfl) T.g_law_is T.F_law_is.kp (T.b_law_is) .nil pass0 (pa_cons (pv 1) (pa_cons (pe_call (ok_law_cuts T) (hr.mono (by first | decide | omega)) (by rfl) T.g_law_cuts T.F_law_cuts.kp (T.b_law_cuts) .nil pass0 (pa_cons (pv 0) pa_nil)) pa_nil))))) (pw_or1 (pt_not (pt_val (pe_call (ok_law_is T 1) (hr.mono (by first | decide | omega)) (by rfl) T.g_law_is T.F_law_is.kp (T.b_law_is) .nil pass0 (pa_cons (pe_call (ok_read_off T) (hr.mono (by first | decide | omega)) (by rfl) T.g_read_off T.F_read_off.kp (T.b_read_off) .nil pass0 (pa_cons (pv 1) pa_nil)) (pa_cons (pv 0) pa_nil))))))))
  (pss_one (ps_ret pe_bl))
  pss_nil)
  (pss_cons (ps_if (PW.pt (pw_or (pt_cmpR op_ne (pe_ix (kIxT K rfl) (pv 1) pe_int (fun _ _ => rfl)) pe_int (nomark _)) (pw_or1 (pt_cmpR op_ne (pe_ix (kIxT K rfl) (pv 1) (pe_un un_neg pe_int) (fun _ _ => rfl)) (pe_callB (kLen K rfl) (by rfl) T.z_len (by decide +kernel) (pa_cons (pv 0) pa_nil)) (nomark _)))))
  (pss_one (ps_ret pe_bl))
  pss_nil)
  (pss_cons (ps_for PassesOwn.never rfl (pi_range1 rfl T.z_range (pa_cons (pe_callB (kLen K rfl) (by rfl) T.z_len (by decide +kernel) (pa_cons (pv 0) pa_nil)) pa_nil)) (pg_name (i := 2) sc_law_right.nd rfl (.inl rfl))
  (pss_one (ps_for PassesOwn.never rfl (pi_range1 rfl T.z_range (pa_cons (pe_callB (kLen K rfl) (by rfl) T.z_len (by decide +kernel) (pa_cons (pv 0) pa_nil)) pa_nil)) (pg_name (i := 3) sc_law_right.nd rfl (.inl rfl))
  (pss_one (ps_if (pt_cmpR op_ne (pe_cmpR op_eq (pe_ix (kIxT K rfl) (pv 0) (pv 2) (fun _ _ => rfl)) (pv 3) (nomark _)) (pe_chain op_le op_lt (pe_ix (kIxT K rfl) (pv 1) (pv 3) (fun _ _ => rfl)) (pv 2) (pe_ix (kIxT K rfl) (pv 1) (pe_op op_add (pv 3) pe_int) (fun _ _ => rfl))) (nomark _))
  (pss_one (ps_ret pe_bl))
  pss_nil)))))
  (pss_one (ps_ret pe_bl)))))), ?_⟩
    walk_at "go"
    refine ⟨p, ns, rfl, hp, hs, fun H1 t s1 ht => ?_⟩
    have hp1 := (Tx.of s1).seq hp
    walk_at "go"
    refine ⟨p, ns, rfl, hp1, by omega, fun H2 c s2 hc => ?_⟩
    have ht2 := (Tx.of s2).seq ht
    have hp2 := (Tx.of s2).seq hp1
    have c1 := cuts_len ns
    walk_at "go"
    refine ⟨_, _, tupI (cutsOf ns), rfl, dp_ints ht2, dp_ints hc, dep_tupI _, sm_tupI (by omega), fun H3 s3 => ?_⟩
    have ht3 := (Tx.of s3).seq ht2
    have hp3 := (Tx.of s3).seq hp2
    walk_at "go"
    refine ⟨t, cutsOf ns, rfl, ht3, hs.cuts, fun H4 r s4 hr4 => ?_⟩
    rw [hs.off] at hr4
    have ht4 := (Tx.of s4).seq ht3
    have hp4 := (Tx.of s4).seq hp3
    walk_at "go"
    refine ⟨_, _, tupI ns, rfl, dp_ints hr4, dp_ints hp4, dep_tupI _, sm_tupI (by omega), fun H5 s5 => ?_⟩
    have ht5 := (Tx.of s5).seq ht4
    have hp5 := (Tx.of s5).seq hp4
    walk_at "go"
    refine g_ixT ht5 (atI_nat (j := 0) (v := .int 0) (by rw [List.getElem?_map, hs.cuts.2.2.2.2.1]; rfl)) ?_
    walk_at "go"
    rw [decide_eq_true (show (0 : Int) = 0 from rfl)]
    walk_at "go"
    refine g_ixT ht5 (atI_end hs.cuts.2.2.2.2.2) ?_
    walk_at "go"
    refine ⟨_, _, rfl, .inr hp5, ?_⟩
    rw [List.length_map, c1]
    walk_at "go"
    rw [decide_eq_true (show (((ns.length + 1 : Nat) : Int) - 1) = (ns.length : Int) by omega)]
    walk_at "go"
    refine ⟨_, _, rfl, .inr hp5, ?_⟩
    rw [List.length_map]
    refine ⟨_, rfl, by omega, by omega, ?_⟩
    refine for_it walk_rng0 (fun i σ H' => ∃ y2 y3, σ = [some (.ref p), some (.ref t), y2, y3] ∧ Same H5 H') ⟨_, _, rfl, Same.refl _⟩ (fun _ _ _ _ _ => trivial) (fun i x σ H6 H6' hi hP hy => ?_) (fun σ H' hP => ?_)
    · obtain ⟨y2, y3, rfl, s6⟩ := hP
      obtain ⟨rfl, rfl⟩ := hy
      have ht6 := (Tx.of s6).seq ht5
      have hp6 := (Tx.of s6).seq hp5
      walk_at "go"
      refine ⟨_, _, rfl, .inr hp6, ?_⟩
      rw [List.length_map]
      refine ⟨_, rfl, by omega, by omega, ?_⟩
      refine for_it walk_rng0 (fun j σ H' => ∃ y3, σ = [some (.ref p), some (.ref t), some (.int ((i : Nat) : Int)), y3] ∧ Same H6' H') ⟨_, rfl, Same.refl _⟩ (fun _ _ _ _ _ => trivial) (fun j x σ H7 H7' hj hP hy => ?_) (fun σ H' hP => ?_)
      · obtain ⟨y3, rfl, s7⟩ := hP
        obtain ⟨rfl, rfl⟩ := hy
        have ht7 := (Tx.of s7).seq ht6
        have hp7 := (Tx.of s7).seq hp6
        have hi' : i < ns.length := by omega
        have hj' : j < ns.length := by omega
        have gi := List.getElem?_eq_getElem hi'
        generalize ns[i] = z at gi
        have key := hs.at gi (j : Int)
        walk_at "go"
        refine g_ixT hp7 (atI_nat (j := i) (v := .int z) (by rw [List.getElem?_map, gi]; rfl)) ?_
        walk_at "go"
        refine g_ixT ht7 (atI_nat (j := j) (v := .int (cutAt ns (j : Int))) (by rw [List.getElem?_map, cuts_at (by omega)]; rfl)) ?_
        walk_at "go"
        have e2 : (j : Int) + 1 = ((j + 1 : Nat) : Int) := by omega
        refine g_ite (fun k1 => ?_) (fun k1 => ?_)
        · walk_at "go"
          refine g_ixT ht7 (i := (j : Int) + 1) (v := .int (cutAt ns ((j : Int) + 1))) (by rw [e2]; exact atI_nat (j := j + 1) (by rw [List.getElem?_map, cuts_at (by omega)]; rfl)) ?_
          walk_at "go"
          by_cases k2 : (i : Int) < cutAt ns ((j : Int) + 1)
          · rw [decide_eq_true k2, decide_eq_true (key.mpr ⟨k1, k2⟩)]
            walk_at "go"
            exact ⟨_, rfl, s7⟩
          · rw [decide_eq_false k2, decide_eq_false (fun e => k2 (key.mp e).2)]
            walk_at "go"
            exact ⟨_, rfl, s7⟩
        · walk_at "go"
          rw [decide_eq_false (fun e => k1 (key.mp e).1)]
          walk_at "go"
          exact ⟨_, rfl, s7⟩
      · obtain ⟨y3, rfl, s7⟩ := hP
        exact ⟨_, _, rfl, s6.trans s7⟩
    · obtain ⟨y2, y3, rfl, s6⟩ := hP
      walk_at "go"
      exact q _ (s1.trans (s2.trans (s3.trans (s4.trans (s5.trans s6)))))

end

section
variable {P : Program} {w : World} {K : PySem.W.Frag} {mg : Str → Option Value} {base : Heap} {a : Ad}
/-! ### the law -/
def lawLevel : Nat := 11
def IntIn (m : Int) (e : PyData) : Prop := ∃ z, e = .int z ∧ 0 ≤ z ∧ z < m
theorem IntIn.all {K : PySem.W.Frag} {H : Hp} {m : Int} : ∀ {xs : List V} {ds : List PyData}, DpAll K H xs ds → (∀ e ∈ ds, IntIn m e) → ∃ ns : List Int, xs = ns.map V.int ∧ ns.length = ds.length ∧ ∀ x ∈ ns, 0 ≤ x ∧ x < m
  | _, _, .nil, _ => ⟨[], rfl, rfl, fun x hx => by cases hx⟩
  | _, _, .cons p q, h => by
    obtain ⟨ns, e1, e2, e3⟩ := IntIn.all q fun e he => h e (List.mem_cons_of_mem _ he)
    obtain ⟨z, rfl, z0, z1⟩ := h _ (List.mem_cons_self ..)
    cases p
    refine ⟨z :: ns, by rw [e1]; rfl, by rw [List.length_cons, List.length_cons, e2], fun x hx => ?_⟩
    rcases List.mem_cons.mp hx with rfl | hx
    · exact ⟨z0, z1⟩
    · exact e3 x hx
theorem ris_sheets {m : Int} {i : Nat} {e : PyData} (h : Ris m i e) (h1 : 1 ≤ i) (h2 : i ≤ 12) (hm : m = (i : Int) - 1) : ∃ ns, e = tupI ns ∧ Sheets ns := by
  obtain ⟨ns, rfl, hl, hr, hp⟩ := h
  refine ⟨ns, rfl, by omega, by omega, fun x hx => ?_, hp⟩
  have := hr x hx
  omega
theorem ris_cuts {n : Int} {i : Nat} {ns : List Int} (hl : ns.length = i) (hr : ∀ x ∈ ns, 0 ≤ x ∧ x ≤ n) (hp : ns.Pairwise (· ≤ ·)) (hn : n = (i : Int) + 1) (h12 : i ≤ 11) : Cuts (0 :: (ns ++ [n])) := by
  have e : (0 :: (ns ++ [n])).length = i + 2 := by simp [hl]
  refine ⟨by rw [e]; omega, by rw [e]; omega, fun x hx => ?_, ?_, rfl, ?_⟩
  · rw [e]
    rcases List.mem_cons.mp hx with rfl | hx
    · omega
    · rcases List.mem_append.mp hx with hx | hx
      · have := hr x hx
        omega
      · rw [List.mem_singleton.mp hx]
        omega
  · rw [List.pairwise_cons]
    refine ⟨fun x hx => ?_, ?_⟩
    · rcases List.mem_append.mp hx with hx | hx
      · exact (hr x hx).1
      · rw [List.mem_singleton.mp hx]
        omega
    · rw [List.pairwise_append]
      refine ⟨hp, by simp, fun x hx y hy => ?_⟩
      rw [List.mem_singleton.mp hy]
      exact (hr x hx).2
  · rw [e, show i + 2 - 1 = i + 1 from by omega, List.getElem?_cons_succ, ← hl, List.getElem?_concat_length]
    congr 1
    omega
def sp_law (K : PySem.W.Frag) : Sp := fun vs H Q _ => ∃ (a : Addr) (ns : List Int), vs = [.ref a] ∧ SqL K H a (ns.map V.int) ∧ ns.length ≤ 63 ∧ ∀ H', Q (.bl true) H'
theorem ok_law (T : Txt K mg a) : FnOk P w K mg base CX0 lawLevel a.f_law a.d_law ["_law_script"] (sp_law K) := by
  refine T.F_law.ok sc_law (fun vs H Q E h => ?_) (fun cdv A outer s H vs Q E hr h => ?_)
  · obtain ⟨s, ns, rfl, _⟩ := h
    rfl
  · obtain ⟨sa, cells, rfl, hS, hlen, q⟩ := h
    refine ⟨_, (pss_cons (ps_set (i := 1) sc_law.nd rfl (.inr rfl) (pe_call (ok_law_dice T) (hr.mono (by first | decide | omega)) (by rfl) T.g_law_dice T.F_law_dice.kp (T.b_law_dice) .nil pass0 (pa_cons (pv 0) pa_nil)))
  (pss_cons (ps_set (i := 2) sc_law.nd rfl (.inl rfl) (pe_op op_add pe_int (pe_call (ok_law_draw T) (hr.mono (by first | decide | omega)) (by rfl) T.g_law_draw T.F_law_draw.kp (T.b_law_draw) .nil pass0 (pa_cons (pv 1) (pa_cons pe_int pa_nil)))))
  (pss_cons (ps_for PassesOwn.never rfl (kiList K rfl (pe_call (ok_law_rising T) (hr.mono (by first | decide | omega)) (by rfl) T.g_law_rising T.F_law_rising.kp (T.b_law_rising) .nil pass0 (pa_cons (pe_op op_sub (pv 2) pe_int) (pa_cons (pv 2) pa_nil)))) (pg_name (i := 3) sc_law.nd rfl (.inl rfl))
  (pss_one (ps_if (pt_not (pt_val (pe_call (ok_law_right T) (hr.mono (by first | decide | omega)) (by rfl) T.g_law_right T.F_law_right.kp (T.b_law_right) .nil pass0 (pa_cons (pv 3) pa_nil))))
  (pss_one (ps_ret pe_bl))
  pss_nil)))
  (pss_cons (ps_for PassesOwn.never rfl (kiList K rfl (pe_call (ok_law_rising T) (hr.mono (by first | decide | omega)) (by rfl) T.g_law_rising T.F_law_rising.kp (T.b_law_rising) .nil pass0 (pa_cons (pv 2) (pa_cons (pe_op op_sub (pv 2) pe_int) pa_nil)))) (pg_name (i := 4) sc_law.nd rfl (.inl rfl))
  (pss_cons (ps_set (i := 5) sc_law.nd rfl (.inl rfl) (pe_op (kCatA K rfl) (pe_op (kCatA K rfl) (pe_tup (pa_cons pe_int pa_nil)) (pv 4)) (pe_tup (pa_cons (pv 2) pa_nil))))
  (pss_one (ps_if (pt_not (pt_val (pe_call (ok_law_is T 1) (hr.mono (by first | decide | omega)) (by rfl) T.g_law_is T.F_law_is.kp (T.b_law_is) .nil pass0 (pa_cons (pe_call (ok_borders T) (hr.mono (by first | decide | omega)) (by rfl) T.g_borders T.F_borders.kp (T.b_borders) .nil pass0 (pa_cons (pe_call (ok_read_off T) (hr.mono (by first | decide | omega)) (by rfl) T.g_read_off T.F_read_off.kp (T.b_read_off) .nil pass0 (pa_cons (pv 5) pa_nil)) pa_nil)) (pa_cons (pv 5) pa_nil)))))
  (pss_one (ps_ret pe_bl))
  pss_nil))))
  (pss_cons (ps_for PassesOwn.never rfl (pi_range1 rfl T.z_range (pa_cons pe_int pa_nil)) (pg_name (i := 6) sc_law.nd rfl (.inl rfl))
  (pss_cons (ps_set (i := 7) sc_law.nd rfl (.inr rfl) (pe_op op_add pe_int (pe_call (ok_law_draw T) (hr.mono (by first | decide | omega)) (by rfl) T.g_law_draw T.F_law_draw.kp (T.b_law_draw) .nil pass0 (pa_cons (pv 1) (pa_cons pe_int pa_nil)))))
  (pss_cons (ps_set (i := 3) sc_law.nd rfl (.inl rfl) (pe_callTy (kTupOf K rfl) (by rfl) T.z_tuple (by decide +kernel) (pa_cons (pe_callB (kSorted K rfl) (by rfl) T.z_sorted (by decide +kernel) (pa_cons (pe_lc (own := [("_law_k", 8)]) (g := (gName 8)) rfl sc_law.nd (pi_range1 rfl T.z_range (pa_cons (pv 7) pa_nil)) (blkOk_by (own := [("_law_k", 8)]) (N := ["_law_script", "_law_dice_here", "_law_offices", "_law_here", "_law_inner", "_law_cuts_here", "_law_turn", "_law_many", "_law_k"]) (sc := defScope s_law) (by decide +kernel)) (fun _ _ _ _ _ => (pg_name (i := 8) sc_law.nd rfl (.inl rfl))) (fun _ _ _ _ _ => pts_nil) (fun _ _ _ _ _ => (pe_call (ok_law_draw T) (hr.mono (by first | decide | omega)) (by rfl) T.g_law_draw T.F_law_draw.kp (T.b_law_draw) .nil pass0 (pa_cons (pv 1) (pa_cons (pv 7) pa_nil))))) pa_nil)) pa_nil)))
  (pss_one (ps_if (pt_not (pt_val (pe_call (ok_law_right T) (hr.mono (by first | decide | omega)) (by rfl) T.g_law_right T.F_law_right.kp (T.b_law_right) .nil pass0 (pa_cons (pv 3) pa_nil))))
  (pss_one (ps_ret pe_bl))
  pss_nil)))))
  (pss_one (ps_ret pe_bl))))))), ?_⟩
    walk_at "go"
    refine ⟨sa, cells, rfl, hS, hlen, fun H1 d c s1 nd hD => ?_⟩
    walk_at "go"
    refine ⟨d, c, 4, rfl, hD, by decide, by decide, fun H2 o f2 hD2 o0 o1 => ?_⟩
    walk_at "go"
    refine ⟨1 + o - 1, 1 + o, rfl, by omega, by omega, by omega, by omega, fun H3 l xs ds s3 hl nl hds hgood => ?_⟩
    have hD3 := hD2.fr s3
    walk_at "go"
    refine ⟨l, rfl, ⟨_, SqL.at hl⟩, ?_⟩
    refine for_it (walk_list (K := K) (a := l) (xs := xs)) (fun i σ H' => ∃ y3 y4 y5 y6 y7 y8, σ = [some (.ref sa), some (.ref d), some (.int (1 + o)), y3, y4, y5, y6, y7, y8] ∧ Same H3 H') ⟨_, _, _, _, _, _, rfl, Same.refl _⟩ (fun i σ H' _ hP => ?_) (fun i x σ H4 H4' hi hP hy => ?_) (fun σ H' hP => ?_)
    · obtain ⟨y3, y4, y5, y6, y7, y8, rfl, s4⟩ := hP
      exact SqL.at (s4 _ _ hl)
    · obtain ⟨y3, y4, y5, y6, y7, y8, rfl, s4⟩ := hP
      obtain ⟨rfl, hx⟩ := hy
      obtain ⟨e, ge, re⟩ := DpAll.get hds hx
      obtain ⟨ns, rfl, hsh⟩ := ris_sheets (hgood e (List.mem_of_getElem? ge)) (by omega) (by omega) (by omega)
      obtain ⟨p, rfl, hp⟩ := of_ints re
      walk_at "go"
      refine ⟨p, ns, rfl, (Tx.of s4).seq hp, hsh, fun H5 s5 => ?_⟩
      walk_at "go"
      exact ⟨_, _, _, _, _, _, rfl, s4.trans s5⟩
    · obtain ⟨y3, y4, y5, y6, y7, y8, rfl, s4⟩ := hP
      have hD4 := hD3.fr s4
      walk_at "go"
      refine ⟨1 + o, 1 + o - 1, rfl, by omega, by omega, by omega, by omega, fun H5 l2 xs2 ds2 s5 hl2 nl2 hds2 hgood2 => ?_⟩
      have hD5 := hD4.fr s5
      refine ⟨l2, rfl, ⟨_, SqL.at hl2⟩, ?_⟩
      refine for_it (walk_list (K := K) (a := l2) (xs := xs2)) (fun i σ H' => ∃ y3 y4 y5 y6 y7 y8, σ = [some (.ref sa), some (.ref d), some (.int (1 + o)), y3, y4, y5, y6, y7, y8] ∧ Same H5 H') ⟨_, _, _, _, _, _, rfl, Same.refl _⟩ (fun i σ H' _ hP => ?_) (fun i x σ H6 H6' hi hP hy => ?_) (fun σ H' hP => ?_)
      · obtain ⟨y3, y4, y5, y6, y7, y8, rfl, s6⟩ := hP
        exact SqL.at (s6 _ _ hl2)
      · obtain ⟨y3, y4, y5, y6, y7, y8, rfl, s6⟩ := hP
        obtain ⟨rfl, hx⟩ := hy
        obtain ⟨e, ge, re⟩ := DpAll.get hds2 hx
        obtain ⟨ns, rfl, hn1, hn2, hn3⟩ := hgood2 e (List.mem_of_getElem? ge)
        have hcu := ris_cuts hn1 hn2 hn3 (by omega) (by omega)
        obtain ⟨p, rfl, hp⟩ := of_ints re
        have hp6 := (Tx.of s6).seq hp
        walk_at "go"
        refine ⟨by show 1 ≤ sizeLine; decide, fun t nt => ?_⟩
        walk_at "go"
        refine g_catA SqT.new ((Tx.new nt).seq hp6) (by rw [List.length_map, hn1]; exact Nat.le_trans (show _ ≤ 100 by simp only [List.length_cons, List.length_nil]; omega) (by decide)) (fun p7 H7 s7 h7 => ?_)
        walk_at "go"
        refine ⟨by show 1 ≤ sizeLine; decide, fun t2 nt2 => ?_⟩
        refine g_catA ((Tx.new nt2).seq h7) SqT.new (by rw [List.length_append, List.length_map, hn1]; exact Nat.le_trans (show _ ≤ 100 by simp only [List.length_cons, List.length_nil]; omega) (by decide)) (fun p8 H8 s8 h8 => ?_)
        have h8' : SqT K H8 p8 ((0 :: (ns ++ [1 + o])).map V.int) := by
          rw [List.map_cons, List.map_append]
          exact h8
        have sAll : Same H6' H8 := (same_new nt).trans (s7.trans ((same_new nt2).trans s8))
        walk_at "go"
        refine ⟨p8, _, rfl, h8', hcu, fun H9 p9 s9 h9 => ?_⟩
        walk_at "go"
        refine ⟨p9, _, rfl, h9, hcu.sheets, fun H10 p10 s10 h10 => ?_⟩
        rw [hcu.off] at h10
        walk_at "go"
        refine ⟨_, _, tupI (0 :: (ns ++ [1 + o])), rfl, dp_ints h10, dp_ints ((Tx.of s10).seq ((Tx.of s9).seq h8')), dep_tupI _, sm_tupI (by simp only [List.length_cons, List.length_append, List.length_nil, hn1]; omega), fun H11 s11 => ?_⟩
        walk_at "go"
        exact ⟨_, _, _, _, _, _, rfl, s6.trans (sAll.trans (s9.trans (s10.trans s11)))⟩
      · obtain ⟨y3, y4, y5, y6, y7, y8, rfl, s6⟩ := hP
        have hD6 := hD5.fr s6
        walk_at "go"
        refine ⟨_, rfl, by decide, by decide, ?_⟩
        refine for_it walk_rng0 (fun i σ H' => ∃ y2 y3 y4 y5 y6 y7 y8, σ = [some (.ref sa), some (.ref d), y2, y3, y4, y5, y6, y7, y8] ∧ Dice d c H') ⟨_, _, _, _, _, _, _, rfl, hD6⟩ (fun _ _ _ _ _ => trivial) (fun i x σ H7 H7' hi hP hy => ?_) (fun σ H' hP => ?_)
        · obtain ⟨y2, y3, y4, y5, y6, y7, y8, rfl, hD7⟩ := hP
          obtain ⟨rfl, rfl⟩ := hy
          walk_at "go"
          refine ⟨d, c, 8, rfl, hD7, by decide, by decide, fun H8 m f8 hD8 m0 m1 => ?_⟩
          walk_at "go"
          refine ⟨_, rfl, by omega, by omega, fun D nDD => ?_⟩
          refine lc_draw (K := K) (d := d) (c := c) walk_rng0 (IntIn (5 + m)) (small1000 (by omega)) (fun e ⟨z, h, _⟩ => by rw [h]; rfl) nDD hD8 (fun _ _ => trivial) (fun j x H9 H9' C Cn hj f9 hD9 hy hC => ?_) (fun H' ys ds f9 hD9 hDl hys hn hall => ?_)
          · obtain ⟨rfl, rfl⟩ := hy
            refine ⟨rfl, ?_⟩
            walk_at "go"
            exact ⟨d, c, 5 + m, rfl, hD9, by omega, by omega, fun H10 r f10 hD10 r0 r1 => hC _ _ _ f10 hD10 (.int r) ⟨r, rfl, r0, r1⟩⟩
          · obtain ⟨ns, rfl, hn1, hn2⟩ := IntIn.all hys hall
            walk_at "go"
            refine ⟨D, ns, rfl, SqL.at hDl, by omega, fun ns' p hperm hsort np => ?_⟩
            walk_at "go"
            refine ⟨p, _, rfl, .inl ⟨SqL.new, fun p2 np2 => ?_⟩⟩
            have hsh : Sheets ns' := by
              have e := hperm.length_eq
              refine ⟨by omega, by omega, fun x hx => ?_, hsort⟩
              have := hn2 x (hperm.mem_iff.mp hx)
              omega
            walk_at "go"
            refine ⟨p2, ns', rfl, SqT.new, hsh, fun H11 s11 => ?_⟩
            walk_at "go"
            exact ⟨_, _, _, _, _, _, _, rfl, ((hD9.new np).new np2).fr s11⟩
        · obtain ⟨y2, y3, y4, y5, y6, y7, y8, rfl, hD7⟩ := hP
          walk_at "go"
          exact q _

end

set_option maxHeartbeats 0 in
theorem all_mk {l : PySem.W.OpenLaw} {w : World} {K : PySem.W.Frag} {h : Heap} {mg : Str → Option Value} {fa : Addr} (X : K.In h) (G : h.Ns mainGlobals mg) (hfa : mg "law" = some (.ref fa))
    {f0 : Addr} {od0 an0 : Option Addr} {sl0 : Array (Option Value)} {oc0 kV0 dc0 pm0 cd0 ct0 : Value}
    (a0 : PySem.W.nsIn K mainGlobals "is_integer" = some (some (.ref f0))) (l0 : K.lookup f0 = some ⟨oc0, od0, .func (PySem.W.fnOf "is_integer" "is_integer" (defArgs s_is_integer) (defBody s_is_integer) (defScope s_is_integer) .none kV0 dc0 pm0 an0 cd0 ct0), sl0⟩) (c0 : PySem.W.codeIn K cd0 "is_integer" = true) (k0 : PySem.W.keepIn K (.ref f0) = true)
    {f1 : Addr} {od1 an1 : Option Addr} {sl1 : Array (Option Value)} {oc1 kV1 dc1 pm1 cd1 ct1 : Value}
    (a1 : PySem.W.nsIn K mainGlobals "is_between" = some (some (.ref f1))) (l1 : K.lookup f1 = some ⟨oc1, od1, .func (PySem.W.fnOf "is_between" "is_between" (defArgs s_is_between) (defBody s_is_between) (defScope s_is_between) .none kV1 dc1 pm1 an1 cd1 ct1), sl1⟩) (c1 : PySem.W.codeIn K cd1 "is_between" = true) (k1 : PySem.W.keepIn K (.ref f1) = true)
    {f2 : Addr} {od2 an2 : Option Addr} {sl2 : Array (Option Value)} {oc2 kV2 dc2 pm2 cd2 ct2 : Value}
    (a2 : PySem.W.nsIn K mainGlobals "is_number" = some (some (.ref f2))) (l2 : K.lookup f2 = some ⟨oc2, od2, .func (PySem.W.fnOf "is_number" "is_number" (defArgs s_is_number) (defBody s_is_number) (defScope s_is_number) .none kV2 dc2 pm2 an2 cd2 ct2), sl2⟩) (c2 : PySem.W.codeIn K cd2 "is_number" = true) (k2 : PySem.W.keepIn K (.ref f2) = true)
    {f3 : Addr} {od3 an3 : Option Addr} {sl3 : Array (Option Value)} {oc3 kV3 dc3 pm3 cd3 ct3 : Value}
    (a3 : PySem.W.nsIn K mainGlobals "are_numbers" = some (some (.ref f3))) (l3 : K.lookup f3 = some ⟨oc3, od3, .func (PySem.W.fnOf "are_numbers" "are_numbers" (defArgs s_are_numbers) (defBody s_are_numbers) (defScope s_are_numbers) .none kV3 dc3 pm3 an3 cd3 ct3), sl3⟩) (c3 : PySem.W.codeIn K cd3 "are_numbers" = true) (k3 : PySem.W.keepIn K (.ref f3) = true)
    {f4 : Addr} {od4 an4 : Option Addr} {sl4 : Array (Option Value)} {oc4 kV4 dc4 pm4 cd4 ct4 : Value}
    (a4 : PySem.W.nsIn K mainGlobals "never_falls" = some (some (.ref f4))) (l4 : K.lookup f4 = some ⟨oc4, od4, .func (PySem.W.fnOf "never_falls" "never_falls" (defArgs s_never_falls) (defBody s_never_falls) (defScope s_never_falls) .none kV4 dc4 pm4 an4 cd4 ct4), sl4⟩) (c4 : PySem.W.codeIn K cd4 "never_falls" = true) (k4 : PySem.W.keepIn K (.ref f4) = true)
    {f5 : Addr} {od5 an5 : Option Addr} {sl5 : Array (Option Value)} {oc5 kV5 dc5 pm5 cd5 ct5 : Value}
    (a5 : PySem.W.nsIn K mainGlobals "are_sheets" = some (some (.ref f5))) (l5 : K.lookup f5 = some ⟨oc5, od5, .func (PySem.W.fnOf "are_sheets" "are_sheets" (defArgs s_are_sheets) (defBody s_are_sheets) (defScope s_are_sheets) .none kV5 dc5 pm5 an5 cd5 ct5), sl5⟩) (c5 : PySem.W.codeIn K cd5 "are_sheets" = true) (k5 : PySem.W.keepIn K (.ref f5) = true)
    {f6 : Addr} {od6 an6 : Option Addr} {sl6 : Array (Option Value)} {oc6 kV6 dc6 pm6 cd6 ct6 : Value}
    (a6 : PySem.W.nsIn K mainGlobals "check_sheets" = some (some (.ref f6))) (l6 : K.lookup f6 = some ⟨oc6, od6, .func (PySem.W.fnOf "check_sheets" "check_sheets" (defArgs s_check_sheets) (defBody s_check_sheets) (defScope s_check_sheets) .none kV6 dc6 pm6 an6 cd6 ct6), sl6⟩) (c6 : PySem.W.codeIn K cd6 "check_sheets" = true) (k6 : PySem.W.keepIn K (.ref f6) = true)
    {f7 : Addr} {od7 an7 : Option Addr} {sl7 : Array (Option Value)} {oc7 kV7 dc7 pm7 cd7 ct7 : Value}
    (a7 : PySem.W.nsIn K mainGlobals "borders" = some (some (.ref f7))) (l7 : K.lookup f7 = some ⟨oc7, od7, .func (PySem.W.fnOf "borders" "borders" (defArgs s_borders) (defBody s_borders) (defScope s_borders) .none kV7 dc7 pm7 an7 cd7 ct7), sl7⟩) (c7 : PySem.W.codeIn K cd7 "borders" = true) (k7 : PySem.W.keepIn K (.ref f7) = true)
    {f8 : Addr} {od8 an8 : Option Addr} {sl8 : Array (Option Value)} {oc8 kV8 dc8 pm8 cd8 ct8 : Value}
    (a8 : PySem.W.nsIn K mainGlobals "are_cuts" = some (some (.ref f8))) (l8 : K.lookup f8 = some ⟨oc8, od8, .func (PySem.W.fnOf "are_cuts" "are_cuts" (defArgs s_are_cuts) (defBody s_are_cuts) (defScope s_are_cuts) .none kV8 dc8 pm8 an8 cd8 ct8), sl8⟩) (c8 : PySem.W.codeIn K cd8 "are_cuts" = true) (k8 : PySem.W.keepIn K (.ref f8) = true)
    {f9 : Addr} {od9 an9 : Option Addr} {sl9 : Array (Option Value)} {oc9 kV9 dc9 pm9 cd9 ct9 : Value}
    (a9 : PySem.W.nsIn K mainGlobals "read_off" = some (some (.ref f9))) (l9 : K.lookup f9 = some ⟨oc9, od9, .func (PySem.W.fnOf "read_off" "read_off" (defArgs s_read_off) (defBody s_read_off) (defScope s_read_off) .none kV9 dc9 pm9 an9 cd9 ct9), sl9⟩) (c9 : PySem.W.codeIn K cd9 "read_off" = true) (k9 : PySem.W.keepIn K (.ref f9) = true)
    {f10 : Addr} {od10 an10 : Option Addr} {sl10 : Array (Option Value)} {oc10 kV10 dc10 pm10 cd10 ct10 : Value}
    (a10 : PySem.W.nsIn K mainGlobals "_law_dice" = some (some (.ref f10))) (l10 : K.lookup f10 = some ⟨oc10, od10, .func (PySem.W.fnOf "_law_dice" "_law_dice" (defArgs s_law_dice) (defBody s_law_dice) (defScope s_law_dice) .none kV10 dc10 pm10 an10 cd10 ct10), sl10⟩) (c10 : PySem.W.codeIn K cd10 "_law_dice" = true) (k10 : PySem.W.keepIn K (.ref f10) = true)
    {f11 : Addr} {od11 an11 : Option Addr} {sl11 : Array (Option Value)} {oc11 kV11 dc11 pm11 cd11 ct11 : Value}
    (a11 : PySem.W.nsIn K mainGlobals "_law_draw" = some (some (.ref f11))) (l11 : K.lookup f11 = some ⟨oc11, od11, .func (PySem.W.fnOf "_law_draw" "_law_draw" (defArgs s_law_draw) (defBody s_law_draw) (defScope s_law_draw) .none kV11 dc11 pm11 an11 cd11 ct11), sl11⟩) (c11 : PySem.W.codeIn K cd11 "_law_draw" = true) (k11 : PySem.W.keepIn K (.ref f11) = true)
    {f12 : Addr} {od12 an12 : Option Addr} {sl12 : Array (Option Value)} {oc12 kV12 dc12 pm12 cd12 ct12 : Value}
    (a12 : PySem.W.nsIn K mainGlobals "_law_is" = some (some (.ref f12))) (l12 : K.lookup f12 = some ⟨oc12, od12, .func (PySem.W.fnOf "_law_is" "_law_is" (defArgs s_law_is) (defBody s_law_is) (defScope s_law_is) .none kV12 dc12 pm12 an12 cd12 ct12), sl12⟩) (c12 : PySem.W.codeIn K cd12 "_law_is" = true) (k12 : PySem.W.keepIn K (.ref f12) = true)
    {f13 : Addr} {od13 an13 : Option Addr} {sl13 : Array (Option Value)} {oc13 kV13 dc13 pm13 cd13 ct13 : Value}
    (a13 : PySem.W.nsIn K mainGlobals "_law_cuts" = some (some (.ref f13))) (l13 : K.lookup f13 = some ⟨oc13, od13, .func (PySem.W.fnOf "_law_cuts" "_law_cuts" (defArgs s_law_cuts) (defBody s_law_cuts) (defScope s_law_cuts) .none kV13 dc13 pm13 an13 cd13 ct13), sl13⟩) (c13 : PySem.W.codeIn K cd13 "_law_cuts" = true) (k13 : PySem.W.keepIn K (.ref f13) = true)
    {f14 : Addr} {od14 an14 : Option Addr} {sl14 : Array (Option Value)} {oc14 kV14 dc14 pm14 cd14 ct14 : Value}
    (a14 : PySem.W.nsIn K mainGlobals "_law_rising" = some (some (.ref f14))) (l14 : K.lookup f14 = some ⟨oc14, od14, .func (PySem.W.fnOf "_law_rising" "_law_rising" (defArgs s_law_rising) (defBody s_law_rising) (defScope s_law_rising) .none kV14 dc14 pm14 an14 cd14 ct14), sl14⟩) (c14 : PySem.W.codeIn K cd14 "_law_rising" = true) (k14 : PySem.W.keepIn K (.ref f14) = true)
    {f15 : Addr} {od15 an15 : Option Addr} {sl15 : Array (Option Value)} {oc15 kV15 dc15 pm15 cd15 ct15 : Value}
    (a15 : PySem.W.nsIn K mainGlobals "_law_right" = some (some (.ref f15))) (l15 : K.lookup f15 = some ⟨oc15, od15, .func (PySem.W.fnOf "_law_right" "_law_right" (defArgs s_law_right) (defBody s_law_right) (defScope s_law_right) .none kV15 dc15 pm15 an15 cd15 ct15), sl15⟩) (c15 : PySem.W.codeIn K cd15 "_law_right" = true) (k15 : PySem.W.keepIn K (.ref f15) = true)
    {f16 : Addr} {od16 an16 : Option Addr} {sl16 : Array (Option Value)} {oc16 kV16 dc16 pm16 cd16 ct16 : Value}
    (a16 : PySem.W.nsIn K mainGlobals "law" = some (some (.ref f16))) (l16 : K.lookup f16 = some ⟨oc16, od16, .func (PySem.W.fnOf "law" "law" (defArgs s_law) (defBody s_law) (defScope s_law) .none kV16 dc16 pm16 an16 cd16 ct16), sl16⟩) (c16 : PySem.W.codeIn K cd16 "law" = true) (k16 : PySem.W.keepIn K (.ref f16) = true)
    (z0 : PySem.W.nsIn K mainGlobals "isinstance" = some none)
    (z1 : PySem.W.nsIn K mainGlobals "int" = some none)
    (z2 : PySem.W.nsIn K mainGlobals "bool" = some none)
    (z3 : PySem.W.nsIn K mainGlobals "tuple" = some none)
    (z4 : PySem.W.nsIn K mainGlobals "list" = some none)
    (z5 : PySem.W.nsIn K mainGlobals "len" = some none)
    (z6 : PySem.W.nsIn K mainGlobals "abs" = some none)
    (z7 : PySem.W.nsIn K mainGlobals "all" = some none)
    (z8 : PySem.W.nsIn K mainGlobals "zip" = some none)
    (z9 : PySem.W.nsIn K mainGlobals "range" = some none)
    (z10 : PySem.W.nsIn K mainGlobals "sorted" = some none)
    : ∃ fd : FuncData, (∀ (s : Shared) (v : Value), BindsTo s fd ⟨[v], []⟩ [("_law_script", v)]) ∧ ∀ base : Heap, K.In base → base.Ns mainGlobals mg → FnOk l.prog w K mg base CX0 lawLevel fa fd ["_law_script"] (sp_law K) := by
  have e := hfa.symm.trans (PySem.W.mg_of X G a16)
  cases e
  have F0 := fun_mk (st := s_is_integer) l0 c0 k0
  have b0 := F0.binds (ps := ["thing"]) fun _ _ _ _ _ _ us hl => match us, hl with | [_], _ => rfl
  have F1 := fun_mk (st := s_is_between) l1 c1 k1
  have b1 := F1.binds (ps := ["thing", "least", "most"]) fun _ _ _ _ _ _ us hl => match us, hl with | [_, _, _], _ => rfl
  have F2 := fun_mk (st := s_is_number) l2 c2 k2
  have b2 := F2.binds (ps := ["thing", "many"]) fun _ _ _ _ _ _ us hl => match us, hl with | [_, _], _ => rfl
  have F3 := fun_mk (st := s_are_numbers) l3 c3 k3
  have b3 := F3.binds (ps := ["things", "many"]) fun _ _ _ _ _ _ us hl => match us, hl with | [_, _], _ => rfl
  have F4 := fun_mk (st := s_never_falls) l4 c4 k4
  have b4 := F4.binds (ps := ["numbers"]) fun _ _ _ _ _ _ us hl => match us, hl with | [_], _ => rfl
  have F5 := fun_mk (st := s_are_sheets) l5 c5 k5
  have b5 := F5.binds (ps := ["thing"]) fun _ _ _ _ _ _ us hl => match us, hl with | [_], _ => rfl
  have F6 := fun_mk (st := s_check_sheets) l6 c6 k6
  have b6 := F6.binds (ps := ["sheets"]) fun _ _ _ _ _ _ us hl => match us, hl with | [_], _ => rfl
  have F7 := fun_mk (st := s_borders) l7 c7 k7
  have b7 := F7.binds (ps := ["sheets"]) fun _ _ _ _ _ _ us hl => match us, hl with | [_], _ => rfl
  have F8 := fun_mk (st := s_are_cuts) l8 c8 k8
  have b8 := F8.binds (ps := ["thing"]) fun _ _ _ _ _ _ us hl => match us, hl with | [_], _ => rfl
  have F9 := fun_mk (st := s_read_off) l9 c9 k9
  have b9 := F9.binds (ps := ["cuts"]) fun _ _ _ _ _ _ us hl => match us, hl with | [_], _ => rfl
  have F10 := fun_mk (st := s_law_dice) l10 c10 k10
  have b10 := F10.binds (ps := ["_law_script"]) fun _ _ _ _ _ _ us hl => match us, hl with | [_], _ => rfl
  have F11 := fun_mk (st := s_law_draw) l11 c11 k11
  have b11 := F11.binds (ps := ["_law_dice_here", "_law_sides"]) fun _ _ _ _ _ _ us hl => match us, hl with | [_, _], _ => rfl
  have F12 := fun_mk (st := s_law_is) l12 c12 k12
  have b12 := F12.binds (ps := ["_law_told", "_law_due"]) fun _ _ _ _ _ _ us hl => match us, hl with | [_, _], _ => rfl
  have F13 := fun_mk (st := s_law_cuts) l13 c13 k13
  have b13 := F13.binds (ps := ["_law_editions"]) fun _ _ _ _ _ _ us hl => match us, hl with | [_], _ => rfl
  have F14 := fun_mk (st := s_law_rising) l14 c14 k14
  have b14 := F14.binds (ps := ["_law_most", "_law_many"]) fun _ _ _ _ _ _ us hl => match us, hl with | [_, _], _ => rfl
  have F15 := fun_mk (st := s_law_right) l15 c15 k15
  have b15 := F15.binds (ps := ["_law_here"]) fun _ _ _ _ _ _ us hl => match us, hl with | [_], _ => rfl
  have F16 := fun_mk (st := s_law) l16 c16 k16
  have b16 := F16.binds (ps := ["_law_script"]) fun _ _ _ _ _ _ us hl => match us, hl with | [_], _ => rfl
  have T : Txt K mg ⟨f0, _, f1, _, f2, _, f3, _, f4, _, f5, _, f6, _, f7, _, f8, _, f9, _, f10, _, f11, _, f12, _, f13, _, f14, _, f15, _, _, _⟩ := ⟨F0, PySem.W.mg_of X G a0, b0, F1, PySem.W.mg_of X G a1, b1, F2, PySem.W.mg_of X G a2, b2, F3, PySem.W.mg_of X G a3, b3, F4, PySem.W.mg_of X G a4, b4, F5, PySem.W.mg_of X G a5, b5, F6, PySem.W.mg_of X G a6, b6, F7, PySem.W.mg_of X G a7, b7, F8, PySem.W.mg_of X G a8, b8, F9, PySem.W.mg_of X G a9, b9, F10, PySem.W.mg_of X G a10, b10, F11, PySem.W.mg_of X G a11, b11, F12, PySem.W.mg_of X G a12, b12, F13, PySem.W.mg_of X G a13, b13, F14, PySem.W.mg_of X G a14, b14, F15, PySem.W.mg_of X G a15, b15, F16, PySem.W.mg_of X G a16, b16, PySem.W.mg_none_of X G z0, PySem.W.mg_none_of X G z1, PySem.W.mg_none_of X G z2, PySem.W.mg_none_of X G z3, PySem.W.mg_none_of X G z4, PySem.W.mg_none_of X G z5, PySem.W.mg_none_of X G z6, PySem.W.mg_none_of X G z7, PySem.W.mg_none_of X G z8, PySem.W.mg_none_of X G z9, PySem.W.mg_none_of X G z10⟩
  exact ⟨_, fun s v => .of_eq rfl, fun base _ _ => ok_law T⟩
end Pf
open PySem PySem.W PyProof.Rows
set_option maxHeartbeats 0 in
theorem PySem.Challenge.cw_takenover_k10_whole_borders_and_sheets_holds : PySem.Challenge.rw_takenover_k10_whole_borders_and_sheets.Holds := by
  w_on; o_law; k_head; (case hw => w_witness2)
  k_fill
  refine L2.walk_of (l := PySem.Challenge.rw_takenover_k10_whole_borders_and_sheets) (n := 63) (k := Pf.lawLevel) (x := "_law_script") (CX := fun _ => L2.CX0) (sp := fun w => Pf.sp_law _) rfl (by decide) rfl ⟨rfl, by decide, by decide⟩ (fun w h Y => PySem.W.kIn_of Y) ?F (fun _ _ a ns hl _ hS => ⟨a, ns, rfl, hS, hl, fun _ => rfl⟩) (fun _ _ _ _ _ h => h)
  case F =>
    intro w mg fa h KX G hmg
    refine' Pf.all_mk KX G hmg ?a0 ?l0 ?c0 ?k0 ?a1 ?l1 ?c1 ?k1 ?a2 ?l2 ?c2 ?k2 ?a3 ?l3 ?c3 ?k3 ?a4 ?l4 ?c4 ?k4 ?a5 ?l5 ?c5 ?k5 ?a6 ?l6 ?c6 ?k6 ?a7 ?l7 ?c7 ?k7 ?a8 ?l8 ?c8 ?k8 ?a9 ?l9 ?c9 ?k9 ?a10 ?l10 ?c10 ?k10 ?a11 ?l11 ?c11 ?k11 ?a12 ?l12 ?c12 ?k12 ?a13 ?l13 ?c13 ?k13 ?a14 ?l14 ?c14 ?k14 ?a15 ?l15 ?c15 ?k15 ?a16 ?l16 ?c16 ?k16 ?z0 ?z1 ?z2 ?z3 ?z4 ?z5 ?z6 ?z7 ?z8 ?z9 ?z10
    (case a0 => k_is); (case l0 => k_is); (case c0 => k_is); (case k0 => k_is); (case a1 => k_is); (case l1 => k_is); (case c1 => k_is); (case k1 => k_is); (case a2 => k_is); (case l2 => k_is); (case c2 => k_is); (case k2 => k_is); (case a3 => k_is); (case l3 => k_is); (case c3 => k_is); (case k3 => k_is); (case a4 => k_is); (case l4 => k_is); (case c4 => k_is); (case k4 => k_is); (case a5 => k_is); (case l5 => k_is); (case c5 => k_is); (case k5 => k_is); (case a6 => k_is); (case l6 => k_is); (case c6 => k_is); (case k6 => k_is); (case a7 => k_is); (case l7 => k_is); (case c7 => k_is); (case k7 => k_is); (case a8 => k_is); (case l8 => k_is); (case c8 => k_is); (case k8 => k_is); (case a9 => k_is); (case l9 => k_is); (case c9 => k_is); (case k9 => k_is); (case a10 => k_is); (case l10 => k_is); (case c10 => k_is); (case k10 => k_is); (case a11 => k_is); (case l11 => k_is); (case c11 => k_is); (case k11 => k_is); (case a12 => k_is); (case l12 => k_is); (case c12 => k_is); (case k12 => k_is); (case a13 => k_is); (case l13 => k_is); (case c13 => k_is); (case k13 => k_is); (case a14 => k_is); (case l14 => k_is); (case c14 => k_is); (case k14 => k_is); (case a15 => k_is); (case l15 => k_is); (case c15 => k_is); (case k15 => k_is); (case a16 => k_is); (case l16 => k_is); (case c16 => k_is); (case k16 => k_is); (case z0 => k_is); (case z1 => k_is); (case z2 => k_is); (case z3 => k_is); (case z4 => k_is); (case z5 => k_is); (case z6 => k_is); (case z7 => k_is); (case z8 => k_is); (case z9 => k_is); (case z10 => k_is)
