import PyProof.Rows.All
import Wide.All
import OpenK.AllK
import Wide.FinOn
import HandS.ForMost
import HandS.IsInst
import HandS.Wide
import HandS.TupAny
import HandS.Zip
import HandS.Walk
import HandS.Conv
import HandS.CallLocal
import KE.GoesEnum
import KE.GoesMore
import PyProof.EnumMake
import PyProof.EnumFor
import HandS.OwnEq
import HandS.Codes
import HandS.TupMul
import HandS.Deep
import HandS.Style
import HandS.Iter
import PyProof.ListMulRoad
import PyProof.FactsAll.tuple_2
import HandS.SetFor
import HandS.Strs
import HandS.ForExc
import HandS.ExcInit
import HandS.Dict
import HandS.ExcIs
import HandS.ExcField
import HandS.FStr
import HandS.Text
import HandS.Hot
import HandS.HotCalls
import PyProof.EqKinds
import PyProof.FactsAll.dict
import HandS.Flow
import HandS.TupSets
import HandS.SortInts
import HandS.TupLen
import KE.KDictDisplayH
import HandS.DictComp
import KE.KAssignIn
import PyProof.NeKinds
import PySem.Challenge.RW_takenover_k84_whole_moments_that_are_shi
set_option Elab.async false
set_option linter.all false
set_option maxRecDepth 100000
namespace Pf
open PySem PySem.Spec PyProof.Rows L2
/-! ### frames -/
/-- all but the one list at d stays -/
def Fr (d : Addr) (H H' : Hp) : Prop := ∀ b o, b ≠ d → H b = some o → H' b = some o
/-- all that is no list stays -/
def Tx (H H' : Hp) : Prop := ∀ b o, H b = some o → (∀ z, o ≠ .lst z) → H' b = some o
theorem Fr.refl (d : Addr) (H : Hp) : Fr d H H := fun _ _ _ h => h
theorem Fr.trans {d : Addr} {H H1 H2 : Hp} (x : Fr d H H1) (y : Fr d H1 H2) : Fr d H H2 := fun b o n h => y b o n (x b o n h)
theorem Fr.of {d : Addr} {H H' : Hp} (x : Same H H') : Fr d H H' := fun b o _ h => x b o h
theorem Fr.upd {d : Addr} {H : Hp} {o : HO} : Fr d H (upd H d o) := fun b x n h => by rw [upd_ne n]; exact h
theorem Fr.new {d p : Addr} {H : Hp} {o : HO} (n : H p = none) : Fr d H (L2.upd H p o) := fun b x _ h => by
  rw [upd_ne (ne_of_none h n)]; exact h
theorem same_new {H : Hp} {p : Addr} {o : HO} (h : H p = none) : Same H (upd H p o) := fun b x e => by
  rw [upd_ne (ne_of_none e h)]; exact e
/-- behind a change of what was not there at H -/
theorem Same.put {H H1 : Hp} {p : Addr} {o : HO} (s : Same H H1) (h : H p = none) : Same H (upd H1 p o) := fun b x e => by
  rw [upd_ne (ne_of_none e h)]; exact s b x e
theorem Fr.put {d : Addr} {H H1 : Hp} {p : Addr} {o : HO} (s : Fr d H H1) (h : H p = none) : Fr d H (L2.upd H1 p o) := fun b x n e => by
  rw [upd_ne (ne_of_none e h)]; exact s b x n e
theorem Tx.refl (H : Hp) : Tx H H := fun _ _ h _ => h
theorem Tx.trans {H H1 H2 : Hp} (x : Tx H H1) (y : Tx H1 H2) : Tx H H2 := fun b o h n => y b o (x b o h n) n
theorem Tx.of {H H' : Hp} (x : Same H H') : Tx H H' := fun b o h _ => x b o h
theorem Tx.new {H : Hp} {p : Addr} {o : HO} (h : H p = none) : Tx H (L2.upd H p o) := Tx.of (same_new h)
theorem Tx.lst {H : Hp} {p : Addr} {z : List V} {o : HO} (h : H p = some (.lst z)) : Tx H (L2.upd H p o) := fun b x e n => by
  by_cases hb : b = p
  · subst hb
    rw [h] at e
    exact absurd (Option.some.inj e).symm (n z)
  · rw [upd_ne hb]; exact e
theorem Fr.tx {d : Addr} {H H' : Hp} {z : List V} (f : Fr d H H') (h : H d = some (.lst z)) : Tx H H' := fun b x e n => by
  by_cases hb : b = d
  · subst hb
    rw [h] at e
    exact absurd (Option.some.inj e).symm (n z)
  · exact f b x hb e
theorem Tx.seq {K : PySem.W.Frag} {H H' : Hp} {b : Addr} {xs : List V} (t : Tx H H') (h : SqT K H b xs) : SqT K H' b xs := by
  rcases h with (h | ⟨o, h⟩) | h
  · exact .inl (.inl (t _ _ h (fun z e => by cases e)))
  · exact .inl (.inr ⟨o, t _ _ h (fun z e => by cases e)⟩)
  · exact .inr h
theorem Fr.seqL {K : PySem.W.Frag} {d : Addr} {H H' : Hp} {b : Addr} {xs : List V} (t : Fr d H H') (n : b ≠ d) (h : SqL K H b xs) : SqL K H' b xs := by
  rcases h with (h | ⟨o, h⟩) | h
  · exact .inl (.inl (t _ _ n h))
  · exact .inl (.inr ⟨o, t _ _ n h⟩)
  · exact .inr h
theorem SqL.new {K : PySem.W.Frag} {H : Hp} {p : Addr} {xs : List V} : SqL K (L2.upd H p (.lst xs)) p xs := .inl (.inl upd_same)
theorem SqT.new {K : PySem.W.Frag} {H : Hp} {p : Addr} {xs : List V} : SqT K (L2.upd H p (.tup xs)) p xs := .inl (.inl upd_same)
theorem SqL.at {K : PySem.W.Frag} {H : Hp} {p : Addr} {xs : List V} (h : H p = some (.lst xs)) : SqL K H p xs := .inl (.inl h)
theorem SqT.at {K : PySem.W.Frag} {H : Hp} {p : Addr} {xs : List V} (h : H p = some (.tup xs)) : SqT K H p xs := .inl (.inl h)

/-! ### data without lists: it stays where all that is no list stays -/
mutual
def im : PyData → Bool
  | .tuple ds => imAll ds
  | .list _ => false
  | .dict _ => false
  | _ => true
def imAll : List PyData → Bool
  | [] => true
  | d :: ds => im d && imAll ds
end
theorem imAll_iff : ∀ ds : List PyData, imAll ds = true ↔ ∀ d ∈ ds, im d = true
  | [] => by unfold imAll; simp
  | d :: ds => by unfold imAll; rw [Bool.and_eq_true, imAll_iff ds]; simp
mutual
theorem Dp.tx {K : PySem.W.Frag} {H H' : Hp} (t : Tx H H') : ∀ (d : PyData) (v : V), im d = true → Dp K H v d → Dp K H' v d
  | .none, _, _, h => by cases h; exact .non
  | .bool b, _, _, h => by cases h; exact .bl b
  | .int i, _, _, h => by cases h; exact .int i
  | .str x, _, _, h => by cases h; exact .str x
  | .tuple ds, v, m, h => by
    unfold im at m
    cases h with
    | tup q r => exact .tup (t.seq q) (Dp.txAll t ds _ m r)
theorem Dp.txAll {K : PySem.W.Frag} {H H' : Hp} (t : Tx H H') : ∀ (ds : List PyData) (vs : List V), imAll ds = true → DpAll K H vs ds → DpAll K H' vs ds
  | [], _, _, h => by cases h; exact .nil
  | d :: ds, vs, m, h => by
    unfold imAll at m
    rw [Bool.and_eq_true] at m
    cases h with
    | cons p q => exact .cons (Dp.tx t d _ m.1 p) (Dp.txAll t ds _ m.2 q)
end
mutual
theorem Dp.same {K : PySem.W.Frag} {H H' : Hp} (t : Same H H') : ∀ (d : PyData) (v : V), Dp K H v d → Dp K H' v d
  | .none, _, h => by cases h; exact .non
  | .bool b, _, h => by cases h; exact .bl b
  | .int i, _, h => by cases h; exact .int i
  | .str x, _, h => by cases h; exact .str x
  | .tuple ds, v, h => by
    cases h with
    | tup q r => exact .tup ((Tx.of t).seq q) (Dp.sameAll t ds _ r)
  | .list ds, v, h => by
    cases h with
    | lst q r => exact .lst (t.seq q) (Dp.sameAll t ds _ r)
theorem Dp.sameAll {K : PySem.W.Frag} {H H' : Hp} (t : Same H H') : ∀ (ds : List PyData) (vs : List V), DpAll K H vs ds → DpAll K H' vs ds
  | [], _, h => by cases h; exact .nil
  | d :: ds, vs, h => by
    cases h with
    | cons p q => exact .cons (Dp.same t d _ p) (Dp.sameAll t ds _ q)
end
theorem DpAll.len {K : PySem.W.Frag} {H : Hp} : ∀ {vs : List V} {ds : List PyData}, DpAll K H vs ds → vs.length = ds.length
  | _, _, .nil => rfl
  | _, _, .cons _ q => by rw [List.length_cons, List.length_cons, DpAll.len q]
theorem DpAll.at {K : PySem.W.Frag} {H : Hp} : ∀ {vs : List V} {ds : List PyData} {i : Nat} {v : V} {d : PyData}, DpAll K H vs ds → vs[i]? = some v → ds[i]? = some d → Dp K H v d
  | _, _, 0, _, _, .cons p _, h, k => by cases h; cases k; exact p
  | _, _, i + 1, _, _, .cons _ q, h, k => DpAll.at (i := i) q (by simpa using h) (by simpa using k)
theorem DpAll.snoc {K : PySem.W.Frag} {H : Hp} : ∀ {vs : List V} {ds : List PyData} {v : V} {d : PyData}, DpAll K H vs ds → Dp K H v d → DpAll K H (vs ++ [v]) (ds ++ [d])
  | _, _, _, _, .nil, p => .cons p .nil
  | _, _, _, _, .cons x q, p => .cons x (DpAll.snoc q p)
theorem DpAll.app {K : PySem.W.Frag} {H : Hp} : ∀ {vs us : List V} {ds es : List PyData}, DpAll K H vs ds → DpAll K H us es → DpAll K H (vs ++ us) (ds ++ es)
  | _, _, _, _, .nil, p => p
  | _, _, _, _, .cons x q, p => .cons x (DpAll.app q p)
/-- tuples of whole numbers -/
abbrev tupI (ns : List Int) : PyData := .tuple (ns.map PyData.int)
theorem dpAll_ints {K : PySem.W.Frag} {H : Hp} : ∀ (ns : List Int), DpAll K H (ns.map V.int) (ns.map PyData.int)
  | [] => .nil
  | n :: ns => .cons (.int n) (dpAll_ints ns)
theorem dpAll_ints_eq {K : PySem.W.Frag} {H : Hp} : ∀ {ns : List Int} {vs : List V}, DpAll K H vs (ns.map PyData.int) → vs = ns.map V.int
  | [], _, .nil => rfl
  | n :: ns, _, .cons p q => by
    cases p
    rw [dpAll_ints_eq q]
    rfl
theorem dp_ints {K : PySem.W.Frag} {H : Hp} {p : Addr} {ns : List Int} (h : SqT K H p (ns.map V.int)) : Dp K H (.ref p) (tupI ns) := .tup h (dpAll_ints ns)
theorem of_ints {K : PySem.W.Frag} {H : Hp} {v : V} {ns : List Int} (h : Dp K H v (tupI ns)) : ∃ p, v = .ref p ∧ SqT K H p (ns.map V.int) := by
  cases h with
  | tup q r => rw [dpAll_ints_eq r] at q; exact ⟨_, rfl, q⟩
theorem imAll_ints : ∀ (ns : List Int), imAll (ns.map PyData.int) = true
  | [] => rfl
  | _ :: ns => by
    show (im (.int _) && imAll (ns.map PyData.int)) = true
    rw [imAll_ints ns]; rfl
theorem im_ints (ns : List Int) : im (tupI ns) = true := imAll_ints ns
/-- the class of a value of data -/
def tyD : PyData → String
  | .none => "NoneType"
  | .bool _ => "bool"
  | .int _ => "int"
  | .str _ => "str"
  | .list _ => "list"
  | .tuple _ => "tuple"
  | .dict _ => "dict"
theorem Dp.ty {K : PySem.W.Frag} {H : Hp} {v : V} {d : PyData} (h : Dp K H v d) : TyX K H v (.type (tyD d)) := by
  cases h with
  | non => exact .base .non
  | bl b => exact .base (.bl b)
  | int i => exact .base (.int i)
  | str x => exact .base (.str x)
  | lst q r =>
    rcases q with (q | ⟨o, q⟩) | ⟨o, its, n, e, c, _⟩
    · exact .base (.lst q)
    · exact .base (.frz q)
    · exact .kList e c
  | tup q r =>
    rcases q with (q | ⟨o, q⟩) | ⟨o, its, n, e, c, _⟩
    · exact .base (.tup q)
    · exact .fTuple q
    · exact .kTuple e c
theorem atI_int {cs : List Int} {i : Int} (h0 : 0 ≤ i) (h : i < (cs.map V.int).length) : ∃ z, z ∈ cs ∧ cs[i.toNat]? = some z ∧ atI (cs.map V.int) i = some (.int z) := by
  have hl : i.toNat < cs.length := by rw [List.length_map] at h; omega
  obtain ⟨z, ez⟩ : ∃ z, cs[i.toNat]? = some z := ⟨_, List.getElem?_eq_getElem hl⟩
  refine ⟨z, List.mem_of_getElem? ez, ez, ?_⟩
  have e : i = ((i.toNat : Nat) : Int) := by omega
  rw [e]
  refine atI_nat ?_
  rw [List.getElem?_map, ez]
  rfl
/-! ### walks: zip of two tuples -/
theorem walk_zipT {K : PySem.W.Frag} {a b : Addr} {xs ys : List V} {n : Nat} (hn : n = min xs.length ys.length) : Walk (RZ.ItzT K a b) n (fun H => SqT K H a xs ∧ SqT K H b ys) (YPair (fun i => xs[i]?) (fun i => ys[i]?)) where
  goes := fun i H hi ⟨p, q⟩ => ⟨xs, ys, xs[i]'(by omega), ys[i]'(by omega), p, q, List.getElem?_eq_getElem (by omega), List.getElem?_eq_getElem (by omega)⟩
  stops := fun H ⟨p, q⟩ => ⟨xs, ys, p, q, by omega⟩
  yields := fun i H x H' hi ⟨p, q⟩ ⟨T, x1, x2, e, nT, e2, f1, f2⟩ => ⟨T, x1, x2, e, nT, e2, f1 xs p, f2 ys q⟩

/-! ### readings, step by step -/
section
variable {σ : L2.St} {H : Hp} {Q : VK} {QT : Bool → Hp → Prop} {QA : List V → Hp → Prop} {D : Ends} {ta tb tc te : TE} {t u : TT} {tr : TA} {s1 s2 : TS} {r r' : R2} {v : V} {K : PySem.W.Frag}
theorem g_var {i : Nat} (e : σ[i]? = some (some v)) (q : Q v H) : tVar i σ H Q := ⟨v, e, q⟩
theorem g_c (q : Q v H) : tC v σ H Q := q
theorem g_op (q : ta σ H fun x H1 => tb σ H1 fun y H2 => r x y H2 Q) : tOp r ta tb σ H Q := q
theorem g_rI0 {g : Int → Int → V} {i j : Int} (q : Q (g i j) H) : rI0 g (.int i) (.int j) H Q := ⟨i, j, rfl, rfl, q⟩
theorem g_rI {C : Int → Int → Prop} {g : Int → Int → V} {i j : Int} (c : C i j) (q : Q (g i j) H) : rI C g (.int i) (.int j) H Q := ⟨i, j, rfl, rfl, c, q⟩
theorem g_eqI {i j : Int} (q : Q (.bl (decide (i = j))) H) : rEq (.int i) (.int j) H Q := ⟨rfl, by
  rw [show decide (V.int i = V.int j) = decide (i = j) from by simp only [V.int.injEq]]; exact q⟩
theorem g_neI {i j : Int} (q : Q (.bl (!decide (i = j))) H) : rNe (.int i) (.int j) H Q := ⟨rfl, by
  rw [show decide (V.int i = V.int j) = decide (i = j) from by simp only [V.int.injEq]]; exact q⟩
theorem dec_bl {i j : Bool} : decide (V.bl i = V.bl j) = (i == j) := by cases i <;> cases j <;> rfl
theorem g_eqB {i j : Bool} (q : Q (.bl (i == j)) H) : rEq (.bl i) (.bl j) H Q := ⟨rfl, by rw [dec_bl]; exact q⟩
theorem g_neB {i j : Bool} (q : Q (.bl (!(i == j))) H) : rNe (.bl i) (.bl j) H Q := ⟨rfl, by rw [dec_bl]; exact q⟩
theorem g_test (q : ta σ H fun x H' => ∃ k, x = .bl k ∧ QT k H') : tTest ta σ H QT := q
theorem g_tB (q : ta σ H fun x H' => ∃ k, x = .bl k ∧ QT k H') : tB ta σ H QT := q
theorem g_bl {b : Bool} {P : Bool → Prop} (q : P b) : ∃ k, V.bl b = .bl k ∧ P k := ⟨b, rfl, q⟩
theorem g_and (q : t σ H fun c H1 => if c = true then u σ H1 QT else QT false H1) : tAnd t u σ H QT := q
theorem g_or (q : t σ H fun c H1 => if c = true then QT true H1 else u σ H1 QT) : tOr t u σ H QT := q
theorem g_not (q : t σ H fun c H1 => QT (!c) H1) : tNot t σ H QT := q
theorem g_andV (q : ta σ H fun x H1 => ∃ c, x = .bl c ∧ if c = true then tb σ H1 Q else Q (.bl false) H1) : tAndV ta tb σ H Q := q
theorem g_orV (q : ta σ H fun x H1 => ∃ c, x = .bl c ∧ if c = true then Q (.bl true) H1 else tb σ H1 Q) : tOrV ta tb σ H Q := q
theorem g_notV (q : ta σ H fun x H1 => ∃ c, x = .bl c ∧ Q (.bl (!c)) H1) : tNotV ta σ H Q := q
theorem g_if (q : t σ H fun c H1 => if c = true then ta σ H1 Q else tb σ H1 Q) : tIf t ta tb σ H Q := q
theorem g_un {r : V → Hp → VK → Prop} (q : ta σ H fun x H1 => r x H1 Q) : tUn r ta σ H Q := q
theorem g_rU {g : Int → V} {i : Int} (q : Q (g i) H) : rU g (.int i) H Q := ⟨i, rfl, q⟩
theorem g_chain (q : ta σ H fun x H1 => tb σ H1 fun y H2 => r x y H2 fun z H3 => ∃ k, z = .bl k ∧ (if k = true then tc σ H3 fun w' H4 => r' y w' H4 Q else Q (.bl false) H3)) : tChain r r' ta tb tc σ H Q := q
theorem g_seq (q : s1 { D with nx := s2 D } σ H) : tSeq s1 s2 D σ H := q
theorem g_ifS (q : t σ H fun b H1 => if b = true then s1 D σ H1 else s2 D σ H1) : tIfS t s1 s2 D σ H := q
theorem g_next (q : D.nx σ H) : tNext D σ H := q
theorem g_asg {g : TG} (q : ta σ H fun x H1 => g x σ H1 D.nx) : tAsg ta g D σ H := q
theorem g_name {i : Nat} {P : L2.St → Hp → Prop} (q : P (σ.set i (some v)) H) : gName i v σ H P := q
theorem g_sub {ts : TSet} {P : L2.St → Hp → Prop} (q : ta σ H fun o H1 => tb σ H1 fun i H2 => ts o i v H2 fun H3 => P σ H3) : gSub ta tb ts v σ H P := q
theorem g_setL {p : Addr} {xs : List V} {k : Int} {j : Nat} {P : Hp → Prop} (h : H p = some (.lst xs)) (e : ixN xs.length k = some j) (q : P (upd H p (.lst (xs.set j v)))) : rSetL (.ref p) (.int k) v H P := ⟨p, xs, k, j, rfl, rfl, h, e, q⟩
theorem g_ret (q : ta σ H D.rt) : tRet ta D σ H := q
theorem g_drop (q : ta σ H fun _ H1 => D.nx σ H1) : tDrop ta D σ H := q
theorem g_cons (q : ta σ H fun x H1 => tr σ H1 fun xs H2 => QA (x :: xs) H2) : tCons ta tr σ H QA := q
theorem g_nil (q : QA [] H) : tNil σ H QA := q
theorem g_cb {r : List V → Hp → VK → Prop} (q : tr σ H fun vs H1 => r vs H1 Q) : tCB r tr σ H Q := q
theorem g_tup (q : tr σ H fun xs H1 => xs.length ≤ sizeLine ∧ ∀ p, H1 p = none → Q (.ref p) (upd H1 p (.tup xs))) : tTup tr σ H Q := q
theorem g_lst (q : tr σ H fun xs H1 => xs.length ≤ sizeLine ∧ ∀ p, H1 p = none → Q (.ref p) (upd H1 p (.lst xs))) : tLst tr σ H Q := q
theorem g_sl {r : V → Option Int → Option Int → Hp → VK → Prop} {tl th : TO} (q : ta σ H fun x H1 => tl σ H1 fun l H2 => th σ H2 fun u H3 => r x l u H3 Q) : tSl r ta tl th σ H Q := q
theorem g_nopart {P : Option Int → Hp → Prop} (q : P none H) : tNoPart σ H P := q
theorem g_part {P : Option Int → Hp → Prop} (q : ta σ H fun x H1 => ∃ i, x = .int i ∧ P (some i) H1) : tPart ta σ H P := q
theorem g_part2 {i : Int} {P : Int → Prop} (q : P i) : ∃ k, V.int i = .int k ∧ P k := ⟨i, rfl, q⟩
theorem g_ixL {p : Addr} {xs : List V} {i : Int} (h : SqL K H p xs) (e : atI xs i = some v) (q : Q v H) : rIxL K (.ref p) (.int i) H Q := ⟨p, xs, i, v, rfl, rfl, h, e, q⟩
theorem g_ixT {p : Addr} {xs : List V} {i : Int} (h : SqT K H p xs) (e : atI xs i = some v) (q : Q v H) : rIxT K (.ref p) (.int i) H Q := ⟨p, xs, i, v, rfl, rfl, h, e, q⟩
theorem g_call {sp : Sp} {dvs : List V} {E : XK} (q : tr σ H fun vs H1 => sp (vs ++ dvs) H1 Q E) : tCall sp dvs E tr σ H Q := q
theorem g_int {i : Int} (q : Q (.int i) H) : (∃ k, [V.int i] = [.int k] ∧ Q (.int k) H) ∨ ∃ k : Bool, [V.int i] = [.bl k] ∧ Q (.int (if k = true then 1 else 0)) H := .inl ⟨i, rfl, q⟩
theorem g_list {i : Nat} {P : Addr → Prop} {p : Addr} (q : P p) : ∃ k, V.ref p = .ref k ∧ P k := ⟨p, rfl, q⟩
theorem g_iList {R : It → Hp → Prop} {p : Addr} {xs : List V} (h : SqL K H p xs) (q : R (Itl K p) H) : ∃ a, V.ref p = .ref a ∧ (∃ xs, SqL K H a xs) ∧ R (Itl K a) H := ⟨p, rfl, ⟨xs, h⟩, q⟩
theorem g_iTup {R : It → Hp → Prop} {p : Addr} {xs : List V} (h : SqT K H p xs) (q : R (Itt K p) H) : ∃ a, V.ref p = .ref a ∧ (∃ xs, SqT K H a xs) ∧ R (Itt K a) H := ⟨p, rfl, ⟨xs, h⟩, q⟩
theorem g_lenL {p : Addr} {xs : List V} (h : SqL K H p xs) (q : Q (.int xs.length) H) : ∃ p' ys, [V.ref p] = [.ref p'] ∧ (SqL K H p' ys ∨ SqT K H p' ys) ∧ Q (.int ys.length) H := ⟨p, xs, rfl, .inl h, q⟩
theorem g_lenT {p : Addr} {xs : List V} (h : SqT K H p xs) (q : Q (.int xs.length) H) : ∃ p' ys, [V.ref p] = [.ref p'] ∧ (SqL K H p' ys ∨ SqT K H p' ys) ∧ Q (.int ys.length) H := ⟨p, xs, rfl, .inr h, q⟩
theorem g_ite {c A B : Prop} [Decidable c] (h1 : c → A) (h2 : ¬ c → B) : if decide c = true then A else B := by
  by_cases h : c
  · rw [decide_eq_true h, if_pos rfl]; exact h1 h
  · rw [decide_eq_false h, if_neg Bool.false_ne_true]; exact h2 h
theorem g_iteN {c A B : Prop} [Decidable c] (h1 : ¬ c → A) (h2 : c → B) : if (!decide c) = true then A else B := by
  by_cases h : c
  · rw [decide_eq_true h]; exact (if_neg Bool.false_ne_true) ▸ h2 h
  · rw [decide_eq_false h]; exact (if_pos rfl) ▸ h1 h
theorem g_lc {wi : TI} {g : TG} {tt : TT} {vs : List Nat} (q : wi σ H fun J H1 => ∀ D, H1 D = none → ∃ W : Nat → Nat → Hp → Prop, (∃ m, W 0 m (L2.upd H1 D (.lst []))) ∧ ∀ i m H, W i m H →
  (J.stop i H ∧ Q (.ref D) H) ∨ (J.go i H ∧ ∃ Nx : Hp → Prop, (∀ H', Nx H' → ∃ m', m' < m ∧ W (i + 1) m' H') ∧ ∀ x H', J.yld i H x H' → g x (wipe σ vs) H' fun σ2 H2 => wipe σ2 vs = wipe σ vs ∧ tt σ2 H2 fun b H3 =>
    if b = true then te σ2 H3 fun y H4 => ∃ acc, H4 D = some (.lst acc) ∧ acc.length < sizeLine ∧ Nx (L2.upd H4 D (.lst (acc ++ [y]))) else Nx H3)) : tLc wi g tt te vs σ H Q := q
theorem g_for {wi : TI} {g : TG} {tb : TS} (q : wi σ H fun J H1 => ∃ W : Nat → Nat → L2.St → Hp → Prop, (∃ m, W 0 m σ H1) ∧ ∀ i m σ H, W i m σ H →
  (J.stop i H ∧ D.nx σ H) ∨ (J.go i H ∧ ∃ N : L2.St → Hp → Prop, (∀ σ' H', N σ' H' → ∃ m', m' < m ∧ W (i + 1) m' σ' H') ∧ ∀ x H', J.yld i H x H' → g x σ H' fun σ2 H2 => tb { D with nx := N, ct := N, bk := D.nx } σ2 H2)) : tFor wi g tb D σ H := q
theorem g_iL {R : It → Hp → Prop} (q : ta σ H fun x H1 => ∃ a, x = .ref a ∧ (∃ xs, SqL K H1 a xs) ∧ R (Itl K a) H1) : iList K ta σ H R := q
theorem g_iT {R : It → Hp → Prop} (q : ta σ H fun x H1 => ∃ a, x = .ref a ∧ (∃ xs, SqT K H1 a xs) ∧ R (Itt K a) H1) : iTup K ta σ H R := q
theorem g_iR1 {R : It → Hp → Prop} (q : tr σ H fun vs H1 => ∃ j : Int, vs = [.int j] ∧ -(2 ^ 62) ≤ j ∧ j < 2 ^ 62 ∧ R (Itr 0 j.toNat) H1) : iRng1 tr σ H R := q
theorem g_iR2 {R : It → Hp → Prop} (q : tr σ H fun vs H1 => ∃ i j : Int, vs = [.int i, .int j] ∧ (-(2 ^ 62) ≤ i ∧ i < 2 ^ 62 ∧ -(2 ^ 62) ≤ j ∧ j < 2 ^ 62) ∧ R (Itr i (j - i).toNat) H1) : iRng2 tr σ H R := q
theorem g_iZA {R : It → Hp → Prop} (q : tr σ H fun vs H1 => ∃ a b xs ys, vs = [.ref a, .ref b] ∧ ((SqL K H1 a xs ∧ SqL K H1 b ys ∧ R (Itz K a b) H1) ∨ (SqT K H1 a xs ∧ SqT K H1 b ys ∧ R (RZ.ItzT K a b) H1))) : RZ.iZipA K tr σ H R := q
theorem g_bm {T : String} {rm : V → List V → Hp → VK → Prop} (q : ta σ H fun x H1 => tyV K T x H1 ∧ tr σ H1 fun xs H2 => rm x xs H2 Q) : tBM K T rm ta tr σ H Q := q
theorem g_nT {A B : Prop} (h : B) : if (!true) = true then A else B := h
theorem g_nF {A B : Prop} (h : A) : if (!false) = true then A else B := h
theorem g_oFF {A B : Prop} (h : B) : if (false || false) = true then A else B := h
theorem g_oTx {b : Bool} {A B : Prop} (h : A) : if (true || b) = true then A else B := h
theorem g_oFT {A B : Prop} (h : A) : if (false || true) = true then A else B := h
theorem g_noTx {b : Bool} {A B : Prop} (h : B) : if (!(true || b)) = true then A else B := h
theorem g_noFT {A B : Prop} (h : B) : if (!(false || true)) = true then A else B := h
theorem g_noFF {A B : Prop} (h : A) : if (!(false || false)) = true then A else B := h
theorem g_yes (q : QT true H) : tYes σ H QT := q
/-- one word for what follows a statement -/
theorem seq_cut (R : L2.St → Hp → Prop) (h2 : ∀ σ' H', R σ' H' → s2 D σ' H') (h1 : ∀ N : L2.St → Hp → Prop, (∀ σ' H', R σ' H' → N σ' H') → s1 { D with nx := N } σ H) : tSeq s1 s2 D σ H := h1 (s2 D) h2
end

/-! ### the drawn numbers: the list at d, its cells at c -/
def Dice (d c : Addr) (H : Hp) : Prop := ∃ (cs : List Int) (i q s t : Int), H d = some (.lst [.ref c, .int i, .int q, .int s, .int t]) ∧ H c = some (.lst (cs.map V.int)) ∧ c ≠ d ∧ (∀ x ∈ cs, 0 ≤ x) ∧ 0 ≤ i ∧ 0 ≤ q ∧ 0 ≤ s ∧ s < 2147483648 ∧ 0 ≤ t
theorem Dice.fr {H H' : Hp} {d c : Addr} (D : Dice d c H) (f : Same H H') : Dice d c H' := by
  obtain ⟨cs, i, q, s, t, h1, h2, r⟩ := D
  exact ⟨cs, i, q, s, t, f _ _ h1, f _ _ h2, r⟩
theorem Dice.nd {H : Hp} {d c p : Addr} (D : Dice d c H) (n : H p = none) : p ≠ d := by
  obtain ⟨cs, i, q, s, t, h1, r⟩ := D
  exact (ne_of_none h1 n).symm
theorem Dice.nc {H : Hp} {d c p : Addr} (D : Dice d c H) (n : H p = none) : p ≠ c := by
  obtain ⟨cs, i, q, s, t, h1, h2, r⟩ := D
  exact (ne_of_none h2 n).symm
theorem Dice.tx {H H' : Hp} {d c : Addr} (D : Dice d c H) (f : Fr d H H') : Tx H H' := by
  obtain ⟨cs, i, q, s, t, h1, r⟩ := D
  exact f.tx h1
theorem Dice.new {H : Hp} {d c p : Addr} {o : HO} (D : Dice d c H) (n : H p = none) : Dice d c (L2.upd H p o) := D.fr (same_new n)
theorem Dice.put {H : Hp} {d c p : Addr} {o : HO} (D : Dice d c H) (n : p ≠ d) (n2 : p ≠ c) : Dice d c (L2.upd H p o) := by
  obtain ⟨cs, i, q, s, t, h1, h2, r⟩ := D
  exact ⟨cs, i, q, s, t, by rw [upd_ne n.symm]; exact h1, by rw [upd_ne n2.symm]; exact h2, r⟩
theorem mem_cutV {xs : List V} {lo hi : Option Int} {x : V} (h : x ∈ cutV xs lo hi) : x ∈ xs := List.mem_of_mem_drop (List.mem_of_mem_take h)
theorem cutV_int {ns : List Int} {lo hi : Option Int} {i : Nat} {x : V} (h : (cutV (ns.map V.int) lo hi)[i]? = some x) : ∃ z, x = .int z := by
  have := mem_cutV (List.mem_of_getElem? h)
  obtain ⟨z, _, e⟩ := List.mem_map.mp this
  exact ⟨z, e.symm⟩
theorem take_snoc {α : Type} {xs : List α} {i : Nat} {x : α} (h : xs[i]? = some x) : xs.take (i + 1) = xs.take i ++ [x] := by
  rw [List.take_add_one, h]; rfl
/-! ### list comprehensions -/
section
variable {J : It} {n : Nat} {G : Hp → Prop} {Y : Nat → Hp → V → Hp → Prop} {g : TG} {tt : TT} {te : TE} {vs : List Nat} {σ : L2.St} {H1 : Hp} {D : Addr} {Qd : Hp → Prop}
theorem lc_cps (w : Walk J n G Y) (R : Nat → Hp → List V → Prop) (h0 : R 0 (L2.upd H1 D (.lst [])) []) (hG : ∀ i H acc, i ≤ n → R i H acc → H D = some (.lst acc) → G H)
    (hs : ∀ i x H H' acc (C : V → Hp → Prop) (Cn : Hp → Prop), i < n → R i H acc → H D = some (.lst acc) → Y i H x H' →
      (∀ y H4, H4 D = some (.lst acc) → acc.length < sizeLine → R (i + 1) (L2.upd H4 D (.lst (acc ++ [y]))) (acc ++ [y]) → C y H4) → (∀ H3, H3 D = some (.lst acc) → R (i + 1) H3 acc → Cn H3) →
      g x (wipe σ vs) H' fun σ2 H2 => wipe σ2 vs = wipe σ vs ∧ tt σ2 H2 fun b H3 => if b = true then te σ2 H3 C else Cn H3)
    (hd : ∀ H acc, R n H acc → H D = some (.lst acc) → Qd H) :
    ∃ W : Nat → Nat → Hp → Prop, (∃ m, W 0 m (L2.upd H1 D (.lst []))) ∧ ∀ i m H, W i m H →
      (J.stop i H ∧ Qd H) ∨ (J.go i H ∧ ∃ Nx : Hp → Prop, (∀ H', Nx H' → ∃ m', m' < m ∧ W (i + 1) m' H') ∧ ∀ x H', J.yld i H x H' → g x (wipe σ vs) H' fun σ2 H2 => wipe σ2 vs = wipe σ vs ∧ tt σ2 H2 fun b H3 =>
        if b = true then te σ2 H3 fun y H4 => ∃ acc, H4 D = some (.lst acc) ∧ acc.length < sizeLine ∧ Nx (L2.upd H4 D (.lst (acc ++ [y]))) else Nx H3) :=
  lc_it w (fun i H => ∃ acc, H D = some (.lst acc) ∧ R i H acc) ⟨[], upd_same, h0⟩ (fun i H hi ⟨acc, e, r⟩ => hG i H acc hi r e)
    (fun i x H H' hi ⟨acc, e, r⟩ hy => hs i x H H' acc _ _ hi r e hy (fun y H4 e4 l r4 => ⟨acc, e4, l, _, upd_same, r4⟩) (fun H3 e3 r3 => ⟨acc, e3, r3⟩)) (fun H ⟨acc, e, r⟩ => hd H acc r e)
/-- nothing that stood is changed; what is made is told by the turn -/
theorem lc_same {H0 : Hp} (w : Walk J n G Y) (A : Nat → List V) (a0 : A 0 = []) (hl : ∀ i, i ≤ n → (A i).length < sizeLine) (hH : Same H0 H1) (nD : H0 D = none) (nD1 : H1 D = none) (hG : ∀ H, Same H1 H → G H)
    (hs : ∀ i x H H' (C : V → Hp → Prop) (Cn : Hp → Prop), i < n → Same H1 H → Y i H x H' → (∀ y H4, Same H H4 → A (i + 1) = A i ++ [y] → C y H4) → (∀ H3, Same H H3 → A (i + 1) = A i → Cn H3) →
      g x (wipe σ vs) H' fun σ2 H2 => wipe σ2 vs = wipe σ vs ∧ tt σ2 H2 fun b H3 => if b = true then te σ2 H3 C else Cn H3)
    (hd : ∀ H, Same H0 H → H D = some (.lst (A n)) → Qd H) :
    ∃ W : Nat → Nat → Hp → Prop, (∃ m, W 0 m (L2.upd H1 D (.lst []))) ∧ ∀ i m H, W i m H →
      (J.stop i H ∧ Qd H) ∨ (J.go i H ∧ ∃ Nx : Hp → Prop, (∀ H', Nx H' → ∃ m', m' < m ∧ W (i + 1) m' H') ∧ ∀ x H', J.yld i H x H' → g x (wipe σ vs) H' fun σ2 H2 => wipe σ2 vs = wipe σ vs ∧ tt σ2 H2 fun b H3 =>
        if b = true then te σ2 H3 fun y H4 => ∃ acc, H4 D = some (.lst acc) ∧ acc.length < sizeLine ∧ Nx (L2.upd H4 D (.lst (acc ++ [y]))) else Nx H3) := by
  refine lc_cps w (fun i H acc => Same H1 H ∧ acc = A i) ⟨same_new nD1, a0.symm⟩ (fun i H acc hi r e => hG H r.1) (fun i x H H' acc C Cn hi r e hy hC hN => ?_) (fun H acc r e => hd H (hH.trans r.1) (by rw [e, r.2]))
  obtain ⟨r1, rfl⟩ := r
  exact hs i x H H' C Cn hi r1 hy (fun y H4 s4 e4 => hC y H4 (s4 _ _ e) (hl i (by omega)) ⟨Same.put (r1.trans s4) nD1, e4.symm⟩) (fun H3 s3 e3 => hN H3 (s3 _ _ e) ⟨r1.trans s3, e3.symm⟩)
/-- data made at each turn, told by the turn -/
theorem lc_data {K : PySem.W.Frag} (w : Walk J n G Y) (A : Nat → List PyData) (a0 : A 0 = []) (hl : ∀ i, i ≤ n → (A i).length < sizeLine) (hi' : ∀ i, i ≤ n → imAll (A i) = true) (nD1 : H1 D = none) (hG : ∀ H, Same H1 H → G H)
    (hs : ∀ i x H H' (C : V → Hp → Prop) (Cn : Hp → Prop), i < n → Same H1 H → Y i H x H' → (∀ y e H4, Same H H4 → Dp K H4 y e → A (i + 1) = A i ++ [e] → C y H4) → (∀ H3, Same H H3 → A (i + 1) = A i → Cn H3) →
      g x (wipe σ vs) H' fun σ2 H2 => wipe σ2 vs = wipe σ vs ∧ tt σ2 H2 fun b H3 => if b = true then te σ2 H3 C else Cn H3)
    (hd : ∀ H xs, Same H1 H → H D = some (.lst xs) → DpAll K H xs (A n) → Qd H) :
    ∃ W : Nat → Nat → Hp → Prop, (∃ m, W 0 m (L2.upd H1 D (.lst []))) ∧ ∀ i m H, W i m H →
      (J.stop i H ∧ Qd H) ∨ (J.go i H ∧ ∃ Nx : Hp → Prop, (∀ H', Nx H' → ∃ m', m' < m ∧ W (i + 1) m' H') ∧ ∀ x H', J.yld i H x H' → g x (wipe σ vs) H' fun σ2 H2 => wipe σ2 vs = wipe σ vs ∧ tt σ2 H2 fun b H3 =>
        if b = true then te σ2 H3 fun y H4 => ∃ acc, H4 D = some (.lst acc) ∧ acc.length < sizeLine ∧ Nx (L2.upd H4 D (.lst (acc ++ [y]))) else Nx H3) := by
  refine lc_cps w (fun i H acc => Same H1 H ∧ DpAll K H acc (A i)) ⟨same_new nD1, by rw [a0]; exact .nil⟩ (fun i H acc hi r e => hG H r.1) (fun i x H H' acc C Cn hi r e hy hC hN => ?_) (fun H acc r e => hd H acc r.1 e r.2)
  obtain ⟨r1, r2⟩ := r
  refine hs i x H H' C Cn hi r1 hy (fun y ee H4 s4 dy e4 => hC y H4 (s4 _ _ e) (by rw [DpAll.len r2]; exact hl i (by omega)) ⟨Same.put (r1.trans s4) nD1, ?_⟩) (fun H3 s3 e3 => hN H3 (s3 _ _ e) ⟨r1.trans s3, by rw [e3]; exact Dp.sameAll s3 _ _ r2⟩)
  rw [e4]
  have im1 := hi' (i + 1) hi
  rw [e4] at im1
  exact Dp.txAll (Tx.lst (s4 _ _ e)) _ _ im1 (DpAll.snoc (Dp.sameAll s4 _ _ r2) dy)
/-- data drawn at each turn, all of one kind -/
theorem lc_draw {K : PySem.W.Frag} {d c : Addr} (w : Walk J n G Y) (PD : PyData → Prop) (hn : n < sizeLine) (him : ∀ e, PD e → im e = true) (nD1 : H1 D = none) (hD : Dice d c H1) (hG : ∀ H, Fr d H1 H → G H)
    (hs : ∀ i x H H' (C : V → Hp → Prop) (Cn : Hp → Prop), i < n → Fr d H1 H → Dice d c H → Y i H x H' → (∀ y e H4, Fr d H H4 → Dice d c H4 → Dp K H4 y e → PD e → C y H4) →
      g x (wipe σ vs) H' fun σ2 H2 => wipe σ2 vs = wipe σ vs ∧ tt σ2 H2 fun b H3 => if b = true then te σ2 H3 C else Cn H3)
    (hd : ∀ H xs ds, Fr d H1 H → Dice d c H → H D = some (.lst xs) → DpAll K H xs ds → ds.length = n → (∀ e ∈ ds, PD e) → Qd H) :
    ∃ W : Nat → Nat → Hp → Prop, (∃ m, W 0 m (L2.upd H1 D (.lst []))) ∧ ∀ i m H, W i m H →
      (J.stop i H ∧ Qd H) ∨ (J.go i H ∧ ∃ Nx : Hp → Prop, (∀ H', Nx H' → ∃ m', m' < m ∧ W (i + 1) m' H') ∧ ∀ x H', J.yld i H x H' → g x (wipe σ vs) H' fun σ2 H2 => wipe σ2 vs = wipe σ vs ∧ tt σ2 H2 fun b H3 =>
        if b = true then te σ2 H3 fun y H4 => ∃ acc, H4 D = some (.lst acc) ∧ acc.length < sizeLine ∧ Nx (L2.upd H4 D (.lst (acc ++ [y]))) else Nx H3) := by
  refine lc_cps w (fun i H acc => Fr d H1 H ∧ Dice d c H ∧ ∃ ds, DpAll K H acc ds ∧ ds.length = i ∧ ∀ e ∈ ds, PD e) ⟨Fr.new nD1, hD.new nD1, [], .nil, rfl, fun e h => by cases h⟩ (fun i H acc hi r e => hG H r.1) (fun i x H H' acc C Cn hi r e hy hC hN => ?_)
    (fun H acc ⟨r1, r2, ds, r3, r4, r5⟩ e => hd H acc ds r1 r2 e r3 r4 r5)
  obtain ⟨r1, r2, ds, r3, r4, r5⟩ := r
  refine hs i x H H' C Cn hi r1 r2 hy (fun y ee H4 f4 d4 dy pe => ?_)
  have e4 : H4 D = some (.lst acc) := f4 _ _ (hD.nd nD1) e
  refine hC y H4 e4 (by rw [DpAll.len r3]; omega) ⟨Fr.put (r1.trans f4) nD1, d4.put (hD.nd nD1) (hD.nc nD1), ds ++ [ee], ?_, by rw [List.length_append, r4]; rfl, fun e he => ?_⟩
  · have im1 : imAll (ds ++ [ee]) = true := (imAll_iff _).mpr fun z hz => by
      rcases List.mem_append.mp hz with hz | hz
      · exact him z (r5 z hz)
      · rw [List.mem_singleton.mp hz]; exact him _ pe
    have im0 : imAll ds = true := (imAll_iff _).mpr fun z hz => him z (r5 z hz)
    exact Dp.txAll (Tx.lst e4) _ _ im1 (DpAll.snoc (Dp.txAll (r2.tx f4) _ _ im0 r3) dy)
  · rcases List.mem_append.mp he with he | he
    · exact r5 e he
    · rw [List.mem_singleton.mp he]; exact pe
end

/-! ### whole numbers among all things -/
def IntK (K : PySem.W.Frag) (H : Hp) (v : V) (b : Bool) : Prop := ∃ (t : Value) (b1 b2 : Bool), TyX K H v t ∧ PySem.W.kitOne K t (.type "int") = some b1 ∧ PySem.W.kitOne K t (.type "bool") = some b2 ∧ b = (b1 && !b2)
theorem IntK.int {K : PySem.W.Frag} {H : Hp} (i : Int) : IntK K H (.int i) true := ⟨.type "int", true, false, .base (.int i), kit_ty (by decide +kernel), kit_ty (by decide +kernel), rfl⟩
/-- an integer i, or none -/
def Itm (K : PySem.W.Frag) (H : Hp) (v : V) : Option Int → Prop
  | some i => v = .int i
  | none => IntK K H v false
theorem g_isi {K : PySem.W.Frag} {H : Hp} {Q : VK} {x : V} {n : String} {t : Value} {b : Bool} (ty : TyX K H x t) (k : PySem.W.kitOne K t (.type n) = some b) (q : Q (.bl b) H) : rIsi K [x, .ty n] H Q := ⟨x, .ty n, t, .type n, b, rfl, .ty n, ty, k, q⟩
theorem kitAny2 {K : PySem.W.Frag} {t c c2 : Value} {b b2 : Bool} (h : PySem.W.kitOne K t c = some b) (h2 : PySem.W.kitOne K t c2 = some b2) : PySem.W.kitAny K t [c, c2] = some (b || b2) := by
  unfold PySem.W.kitAny
  rw [h]
  cases b with
  | true => rfl
  | false =>
    unfold PySem.W.kitAny
    rw [h2]
    cases b2 <;> rfl

theorem g_slA {K : PySem.W.Frag} {H : Hp} {Q : VK} {p : Addr} {xs : List V} {lo hi : Option Int} (h : SqT K H p xs) (q : ∀ p' H', Same H H' → SqT K H' p' (cutV xs lo hi) → Q (.ref p') H') : rSlA K (.ref p) lo hi H Q := by
  refine ⟨p, xs, rfl, h, fun hw => ?_, fun _ p' n' => q p' _ (same_new n') SqT.new⟩
  refine q p H (Same.refl H) ?_
  unfold cutV
  rw [hw.1, hw.2]
  simpa using h
theorem cutV1 (xs : List V) : cutV xs (some 1) none = xs.drop 1 := by
  unfold cutV
  rw [show HT.sIx xs.length 0 (some 1) = min 1 xs.length from HT.sIx_nat xs.length 0 1, HT.sIx_none]
  cases xs with
  | nil => rfl
  | cons x r =>
    rw [show min 1 (x :: r).length = 1 by
      rw [List.length_cons]
      omega]
    show (List.take ((x :: r).length - 1) r) = r
    rw [List.length_cons, Nat.add_sub_cancel]
    exact List.take_length
/-- rising along -/
def risesB : List Int → Bool
  | x :: y :: r => decide (x ≤ y) && risesB (y :: r)
  | _ => true
def zipUp (ns : List Int) : List Bool := (ns.zip (ns.drop 1)).map fun p => decide (p.1 ≤ p.2)
theorem risesB_zip : ∀ ns : List Int, risesB ns = (zipUp ns).all id
  | [] => rfl
  | [_] => rfl
  | x :: y :: r => by
    unfold risesB
    rw [risesB_zip (y :: r)]
    unfold zipUp
    simp
theorem risesB_of : ∀ {ns : List Int}, ns.Pairwise (· ≤ ·) → risesB ns = true
  | [], _ => rfl
  | [_], _ => rfl
  | x :: y :: r, h => by
    unfold risesB
    rw [List.pairwise_cons] at h
    rw [risesB_of h.2, decide_eq_true (h.1 y (by simp))]
    rfl
theorem zipUp_len (ns : List Int) : (zipUp ns).length = min ns.length (ns.drop 1).length := by
  unfold zipUp
  rw [List.length_map, List.length_zip]
theorem zipUp_at {ns : List Int} {i : Nat} {x y : Int} (h : ns[i]? = some x) (k : (ns.drop 1)[i]? = some y) : (zipUp ns)[i]? = some (decide (x ≤ y)) := by
  unfold zipUp
  rw [List.getElem?_map, (List.getElem?_zip_eq_some (z := (x, y))).mpr ⟨h, k⟩]
  rfl
theorem map_at {α β : Type} {f : α → β} {xs : List α} {i : Nat} {y : β} (h : (xs.map f)[i]? = some y) : ∃ x, xs[i]? = some x ∧ y = f x := by
  rw [List.getElem?_map] at h
  cases hz : xs[i]? with
  | none => rw [hz] at h; cases h
  | some z =>
    rw [hz] at h
    cases h
    exact ⟨z, rfl, rfl⟩

/-! ### the written part by its letter -/
def rLenS (K : PySem.W.Frag) : List V → Hp → VK → Prop := fun xs H Q => ∃ p ys, xs = [.ref p] ∧ (SqL K H p ys ∨ SqT K H p ys) ∧ Q (.int ys.length) H
def rTupOf (K : PySem.W.Frag) : List V → Hp → VK → Prop := fun xs H Q => ∃ p ys, xs = [.ref p] ∧ ((SqL K H p ys ∧ ∀ l, H l = none → Q (.ref l) (L2.upd H l (.tup ys))) ∨ (SqT K H p ys ∧ Q (.ref p) H))
def rLstOf (K : PySem.W.Frag) : List V → Hp → VK → Prop := fun xs H Q => ∃ p ys, xs = [.ref p] ∧ (SqL K H p ys ∨ SqT K H p ys) ∧ ∀ l, H l = none → Q (.ref l) (L2.upd H l (.lst ys))
section
variable {X : Cx} (K : PySem.W.Frag)
theorem kC {f : Value} {r : PySem.W.Frag → List V → Hp → VK → Prop} (h : X.K = K) (c : CallR X f (r X.K)) : CallR X f (r K) := h ▸ c
theorem kM {id : String} {r : PySem.W.Frag → V → List V → Hp → VK → Prop} (h : X.K = K) (c : MtR X id (r X.K)) : MtR X id (r K) := h ▸ c
theorem kO {f : Value → Value → Sem Value} {r : PySem.W.Frag → R2} (h : X.K = K) (c : OpR X f (r X.K)) : OpR X f (r K) := h ▸ c
theorem kI {r : PySem.W.Frag → R2} (h : X.K = K) (c : IxR X (r X.K)) : IxR X (r K) := h ▸ c
theorem kS {r : PySem.W.Frag → V → Option Int → Option Int → Hp → VK → Prop} (h : X.K = K) (c : SlR X (r X.K)) : SlR X (r K) := h ▸ c
theorem kLen (h : X.K = K) : CallR X (.builtin "len") (rLenS K) := kC K (r := rLenS) h call_len_seq
theorem kTupOf (h : X.K = K) : CallR X (.type "tuple") (rTupOf K) := kC K (r := rTupOf) h call_tuple_of
theorem kLstOf (h : X.K = K) : CallR X (.type "list") (rLstOf K) := kC K (r := rLstOf) h call_list_of
theorem kIsi (h : X.K = K) : CallR X (.builtin "isinstance") (rIsi K) := kC K (r := rIsi) h call_isi
theorem kIsiT (h : X.K = K) : CallR X (.builtin "isinstance") (rIsiT K) := kC K (r := rIsiT) h call_isiT
theorem kAll (hc : X.calm = true) (h : X.K = K) : CallR X (.builtin "all") (rAll K) := kC K (r := rAll) h (cr_all hc)
theorem kSorted (h : X.K = K) : CallR X (.builtin "sorted") (rSorted K) := kC K (r := rSorted) h cr_sorted
theorem kIxL (h : X.K = K) : IxR X (rIxL K) := kI K (r := rIxL) h ix_list
theorem kIxT (h : X.K = K) : IxR X (rIxT K) := kI K (r := rIxT) h ix_tup
theorem kSlL (h : X.K = K) : SlR X (rSlL K) := kS K (r := rSlL) h sl_list
theorem kSlA (h : X.K = K) : SlR X (rSlA K) := kS K (r := rSlA) h sl_tupA
theorem kCatA (h : X.K = K) : OpR X (binaryOp .Add) (rCatA K) := kO K (r := rCatA) h op_catA
theorem kEqD (h : X.K = K) (hu : X.A.units + 64 < cLine) : OpR X (compareOp .Eq) (rEqD K) := kO K (r := rEqD) h (op_eqD hu)
theorem kNeD (h : X.K = K) (hu : X.A.units + 64 < cLine) : OpR X (compareOp .NotEq) (rNeD K) := kO K (r := rNeD) h (op_neD hu)
theorem kIn (h : X.K = K) : OpR X (compareOp .In) (rIn K false) := kO K (r := fun K => rIn K false) h op_in_seq
theorem kNotIn (h : X.K = K) : OpR X (compareOp .NotIn) (rIn K true) := kO K (r := fun K => rIn K true) h op_notIn_seq
theorem kiList {tg l : Expr} {tl : TE} (h : X.K = K) (hl : PE X l tl) : PI X tg l (iList K tl) := h ▸ pi_list hl
theorem kiTup {tg l : Expr} {tl : TE} (h : X.K = K) (hl : PE X l tl) : PI X tg l (iTup K tl) := h ▸ pi_tup hl
theorem kpFld {e : Expr} {f : Str} {ta : TE} {pos : Pos} (h : X.K = K) (he : PE X e ta) (hb : attributeBase e f X.env (eval e X.env) = eval e X.env) : PE X (.Attribute e f pos) (tFld K ta f) := h ▸ pe_fld he hb
theorem kiZip {e e2 : Expr} {ta : TA} {p pos tpos : Pos} {elts : List Expr} {kk : Nat} (h : X.K = K) (hg : Gl X "zip") (hm : X.mg "zip" = none) (ha : PA X [e, e2] ta)
    (hs : starEach [e, e2] X.env = (false, eval e X.env) :: starEach [e2] X.env := by rfl) (hpl : (backTo pos (starEach [e2] X.env)).any (·.1) = false := by rfl) :
    PI X (.Tuple elts kk tpos) (.Call (.Name "zip" p) [e, e2] [] pos) (RZ.iZipA K ta) := h ▸ RZ.pi_zipA hg hm ha hs hpl
theorem kiEnum {e : Expr} {ta : TA} {p pos tpos : Pos} {elts : List Expr} {kk : Nat} (h : X.K = K) (hg : Gl X "enumerate") (hm : X.mg "enumerate" = none) (ha : PA X [e] ta) (hs : starEach [e] X.env = [(false, eval e X.env)] := by rfl) :
    PI X (.Tuple elts kk tpos) (.Call (.Name "enumerate" p) [e] [] pos) (iEnum K ta) := h ▸ pi_enum hg hm ha hs
theorem kgTup {es : List Expr} {k : Nat} {t : TGs} {n : Nat} {pos : Pos} (h : X.K = K) (hc : X.calm = true) (ht : PGs X es t)
    (hn : (assignEach es X.env).length = n := by rfl) (hst : (assignEach es X.env).findIdx? (·.1) = none := by rfl) : PG X (.Tuple es k pos) (gTup K n t) := h ▸ pg_tup hc ht hn hst
end
theorem filt1 {α : Type} {p : α → Bool} {z : α} (h : p z = true) : [z].filter p = [z] := by simp [h]
theorem filt0 {α : Type} {p : α → Bool} {z : α} (h : ¬ p z = true) : [z].filter p = [] := by simp [h]
end Pf
namespace Pf
open PySem PySem.Spec PyProof.Rows L2
theorem canLay_ints : ∀ ns : List Int, PyData.canLayAll0 (ns.map PyData.int) = true
  | [] => rfl
  | _ :: r => by
    show (PyData.canLay0 (.int _) && PyData.canLayAll0 (r.map PyData.int)) = true
    rw [canLay_ints r]
    rfl
theorem depth_ints : ∀ ns : List Int, PyData.depthAll (ns.map PyData.int) = 0
  | [] => rfl
  | _ :: r => by
    show max (PyData.depth (.int _)) (PyData.depthAll (r.map PyData.int)) = 0
    rw [depth_ints r]
    rfl
theorem shaped_tupI (ns : List Int) : SeqAt.shaped (tupI ns) = true := by
  unfold SeqAt.shaped
  rw [Bool.and_eq_true]
  refine ⟨canLay_ints ns, decide_eq_true ?_⟩
  show PyData.depthAll (ns.map PyData.int) + 1 ≤ 64
  rw [depth_ints]
  decide
theorem eqv_ints : ∀ ns ms : List Int, PyData.eqvAll (ns.map PyData.int) (ms.map PyData.int) = decide (ns = ms)
  | [], [] => rfl
  | [], _ :: _ => rfl
  | _ :: _, [] => rfl
  | x :: r, y :: q => by
    show ((x == y) && PyData.eqvAll (r.map PyData.int) (q.map PyData.int)) = _
    rw [eqv_ints r q, Bool.eq_iff_iff]
    simp
theorem eqv_tupI (ns ms : List Int) : PyData.eqv (tupI ns) (tupI ms) = decide (ns = ms) := eqv_ints ns ms
theorem atI_snoc {cs : List Int} {z : Int} (h : cs.getLast? = some z) : atI (cs.map V.int) (-1) = some (.int z) := by
  have hl : cs ≠ [] := fun e => by rw [e] at h; cases h
  have e : cs = cs.dropLast ++ [cs.getLast hl] := (List.dropLast_concat_getLast hl).symm
  have ez : cs.getLast hl = z := by
    rw [List.getLast?_eq_getLast hl] at h
    exact Option.some.inj h
  rw [e, ez, List.map_append]
  exact atI_last _ _
theorem g_catA {K : PySem.W.Frag} {H : Hp} {Q : VK} {a b : Addr} {xs ys : List V} (ha : SqT K H a xs) (hb : SqT K H b ys) (hl : xs.length + ys.length ≤ sizeLine) (q : ∀ p H', Same H H' → SqT K H' p (xs ++ ys) → Q (.ref p) H') : rCatA K (.ref a) (.ref b) H Q :=
  ⟨a, b, xs, ys, rfl, rfl, ha, hb, hl, fun e => by subst e; exact q b H (Same.refl H) hb, fun _ e => by subst e; exact q a H (Same.refl H) (by simpa using ha), fun _ _ p np => q p _ (same_new np) SqT.new⟩
theorem dec_ite {c : Prop} [Decidable c] {A B : Prop} {b : Bool} (e : b = decide c) (h1 : c → A) (h2 : ¬ c → B) : if b = true then A else B := by
  subst e
  exact g_ite h1 h2
theorem walk_rng0 {n : Nat} : Walk (Itr 0 n) n (fun _ => True) (fun i H x H' => H' = H ∧ x = .int ((i : Nat) : Int)) :=
  walk_range.mono (fun _ h => h) fun i H x H' _ _ h => ⟨h.1, by rw [h.2]; show V.int (0 + (i : Int)) = _; rw [Int.zero_add]⟩
end Pf
namespace Pf
open PySem PySem.Spec PyProof.Rows L2
theorem ksFld {X : Cx} (K : PySem.W.Frag) {o value : Expr} {f : Str} {ta tv : TE} {pos pos' : Pos} (h : X.K = K) (ha : PE X o ta) (hv : PE X value tv) (hs : swapsWith value (some (.Attribute o f pos')) pos.line X.env = pure false) : PS X (.Assign [.Attribute o f pos'] value pos) (sFld K ta tv f) := h ▸ ps_fld ha hv hs
end Pf

namespace Pf
open PySem PySem.Spec PyProof.Rows L2
theorem g_sfld {K : PySem.W.Frag} {σ : L2.St} {H : Hp} {D : Ends} {ta tv : TE} {f : Str} (q : tv σ H fun y H1 => ta σ H1 fun x H2 => ∃ a C dx fs, x = .ref a ∧ H2 a = some (.ins C dx fs) ∧ Cls K C ∧ NoAttr K C f ∧ fs.length < 1000 ∧ D.nx σ (L2.upd H2 a (.ins C dx (putF f y fs)))) : sFld K ta tv f D σ H := q
theorem g_fld {K : PySem.W.Frag} {σ : L2.St} {H : Hp} {Q : VK} {ta : TE} {f : Str} (q : ta σ H fun x H1 => ∃ a C dx fs v, x = .ref a ∧ H1 a = some (.ins C dx fs) ∧ Cls K C ∧ NoAttr K C f ∧ fs.lookup f = some v ∧ Q v H1) : tFld K ta f σ H Q := q
theorem g_make {C : Addr} {sp : Sp} {dvs : List V} {E : XK} {t : TA} {σ : L2.St} {H : Hp} {Q : VK} (q : t σ H fun vs H1 => ∀ x dx, H1 x = none → H1 dx = none → dx ≠ x →
  sp (.ref x :: (vs ++ dvs)) (L2.upd (L2.upd H1 dx (.own x)) x (.ins C dx [])) (fun v H2 => v = .non ∧ Q (.ref x) H2) E) : tMake C sp dvs E t σ H Q := q
theorem g_lstRg {te : L2.St → Hp → (Int → Int → Hp → Prop) → Prop} {σ : L2.St} {H : Hp} {Q : VK} (q : te σ H fun a b H1 => RgOk a b ∧ ∀ q, H1 q = none → Q (.ref q) (L2.upd H1 q (.lst (rgV a b)))) : tLstRg te σ H Q := q
theorem g_tupRg {te : L2.St → Hp → (Int → Int → Hp → Prop) → Prop} {σ : L2.St} {H : Hp} {Q : VK} (q : te σ H fun a b H1 => RgOk a b ∧ ∀ q, H1 q = none → Q (.ref q) (L2.upd H1 q (.tup (rgV a b)))) : tTupRg te σ H Q := q
theorem g_rg1 {ta : TE} {σ : L2.St} {H : Hp} {Q : Int → Int → Hp → Prop} (q : ta σ H fun x H1 => ∃ n, x = .int n ∧ Q 0 n H1) : tRg1 ta σ H Q := q
end Pf

--BODY
namespace Pf
open PySem PySem.Spec PyProof.Rows L2
/-! ### enumerate of a tuple -/
/-- the iterator's cell of a tuple -/
abbrev tupIt (p : Addr) : Obj := { cls := .type "tuple_iterator", data := .fields #[.ref p, .int 0 0] }
/-- the cell of an enumerate over the iterator at i -/
abbrev enumO (i : Addr) : Obj := { cls := .type "enumerate", data := .fields #[.none, .bool false, .ref i, rawInt 0, .none, .none] }
theorem newEnumT (p : Addr) (xs : Array Value) :
    Meets (Builtin.«enumerate.__new__» ⟨[.type "enumerate", .ref p], []⟩)
      (fun _ R s => s.heap.IsTuple p xs ∧
        R (.ok (.ret (.ref (s.heap.push (tupIt p)).objs.size)))
          { s with heap := (s.heap.push (tupIt p)).push (enumO s.heap.objs.size) }) :=
  .of_wp fun pr wo AA R s0 hh => by
    obtain ⟨hp, gg, dd, tt, oo⟩ := s0
    obtain ⟨ht, hR⟩ := hh
    have hsu := sub_enumerate
    have it1 : ∀ {A' : Around} {E : Value → Shared → Prop} {Q : Value → Shared → Prop},
        Q (.ref hp.objs.size) ⟨hp.push (tupIt p), gg, dd, tt, oo⟩ → wpAny (model pr wo) A' (pyIter (.ref p)) Q E ⟨hp, gg, dd, tt, oo⟩ :=
      fun q => (begins_tuple p xs).iter pr wo _ _ ⟨hp, gg, dd, tt, oo⟩ _ ht q
    wp_walk using it1
    refine wpAny_stack_any fun _ => wpAny_pure ?_
    split
    · rename_i cc _ _ _ _ _
      cases (cc == Value.type "enumerate")
      · wp_walk using it1
        exact ⟨_, rfl, hR⟩
      · wp_walk using it1
        exact ⟨_, rfl, hR⟩
    · wp_walk using it1
      exact ⟨_, rfl, hR⟩
theorem callEnumT {pr : Program} {wo : World} {AA : Around} {E : Value → Shared → Prop} {s : Shared} {p : Addr} {xs : Array Value} {Q : Value → Shared → Prop} (ht : s.heap.IsTuple p xs)
    (h : ∀ h', IsEnum h' (s.heap.objs.size + 1) s.heap.objs.size 0 .none → h'.IsTupleIter s.heap.objs.size p 0 → h'.objs.size = s.heap.objs.size + 2 →
      (∀ b o, s.heap.get? b = some o → h'.get? b = some o) → Q (.ref (s.heap.objs.size + 1)) { s with heap := h' }) :
    wpAny (model pr wo) AA (call (.type "enumerate") [.ref p]) Q E s := by
  refine callType_new F.called_enumerate (by decide) (F.typeCall_enumerate_1 _) (F.newCall_enumerate_1 _)
    (fun ob => F.args_object_init_2 ob _) F.entry_enumerate_new (newEnumT p xs) ⟨ht, ?_⟩
  have hz : (s.heap.push (tupIt p)).objs.size = s.heap.objs.size + 1 := Heap.size_push ..
  show _ ∧ _
  rw [hz]
  have he : IsEnum ((s.heap.push (tupIt p)).push (enumO s.heap.objs.size)) (s.heap.objs.size + 1) s.heap.objs.size 0 .none := by
    have e1 := Heap.get?_push_size (s.heap.push (tupIt p)) (o := enumO s.heap.objs.size) rfl
    rw [hz] at e1
    exact e1
  exact ⟨⟨_, he, rfl⟩, h _ he ⟨_, Heap.get?_push_of_some _ (Heap.get?_push_size _ rfl), rfl, rfl⟩ (by rw [Heap.size_push, hz])
    fun b o z => Heap.get?_push_of_some _ (Heap.get?_push_of_some _ z)⟩
/-- the tuple at p as it stands at each turn, each item in a new pair -/
def IteT (K : PySem.W.Frag) (p : Addr) : It where
  go := fun i H => ∃ (xs : List V) (x : V), SqT K H p xs ∧ xs[i]? = some x
  yld := fun i H v H' => ∃ T x, v = .ref T ∧ H T = none ∧ H' = L2.upd H T (.tup [.int (i : Nat), x]) ∧ ∀ xs, SqT K H p xs → xs[i]? = some x
  stop := fun i H => ∃ xs : List V, SqT K H p xs ∧ xs.length = i
end Pf
namespace Pf
open PySem PySem.Spec PyProof.Rows L2
theorem turnEnumT {P : Program} {w : World} {K : PySem.W.Frag} {es : List Expr} {kk : Nat} {tp : Pos} (p e it : Addr) (hp : p ≠ it) (hpe : p ≠ e) :
    Turn P w K (.Tuple es kk tp) (IteT K p) [e, it] e
      (fun i h => (∃ old, IsEnum h e it ((i : Nat) : Int) old) ∧ h.IsTupleIter it p i ∧ e ≠ it) where
  mem := List.mem_cons_self ..
  obj := fun i h st b hb => by
    obtain ⟨⟨old, e1⟩, ⟨o, e2, _, e3⟩, _⟩ := st
    rcases List.mem_cons.mp hb with rfl | hb
    · exact ⟨_, e1, fun v z => nomatch z⟩
    · rw [List.mem_singleton.mp hb]
      exact ⟨o, e2, fun v z => by rw [e3] at z; cases z⟩
  keep := fun i h h' st k =>
    let ⟨⟨old, e1⟩, e2, n⟩ := st
    ⟨⟨old, k e (List.mem_cons_self ..) _ e1⟩, e2.at fun o z => k it (by simp) o z, n⟩
  item := by
    intro X hP hw hK hc i pins s σ H E I hf st hg
    subst hP hw hK
    obtain ⟨⟨old, e1⟩, e2, ne⟩ := st
    obtain ⟨xs, x, hq, hx⟩ := hg
    obtain ⟨its, rv, pt, _⟩ := I.tuple hq
    obtain ⟨u, hu, ru⟩ := rv.get hx
    have l1 : e < s.heap.objs.size := Heap.lt_size e1
    have l2 : it < s.heap.objs.size := by
      obtain ⟨_, z, _⟩ := e2
      exact Heap.lt_size z
    have hn : e ∉ [it, p] := fun z => by
      rcases List.mem_cons.mp z with z | z
      · exact ne z
      · exact hpe (List.mem_singleton.mp z).symm
    have hu2 : its.toArray[i]? = some u := by simpa using hu
    have li : i < its.toArray.size := (Array.getElem?_eq_some_iff.mp hu2).1
    refine wpAny_pyNext_enum_itemD (Draws.tuple (show X.A.in1.handled = none from I.ok.hd hc) it p hp its.toArray) e1 ⟨e2, pt⟩ li ne hn fun y h' tk hy ho hit' hT hsz hk => ?_
    have ey : y = u := Option.some.inj (hy.symm.trans hu2)
    subst ey
    refine ⟨_, rfl, wpAny_letOwnedTupleGo_enum (s := { s with heap := h', toks := tk + 1 }) ho fun h2 he2 sb => ?_⟩
    have hT2 : h2.get? s.heap.objs.size = some { cls := .type "tuple", data := .seq #[.int i tk, y] } := (sb.2 _ (Nat.ne_of_gt l1)).trans hT
    have nw : ObjOk X.prog X.w (L2.upd H s.heap.objs.size (.tup [.int (i : Nat), x])) h2 s.heap.objs.size (.tup [.int (i : Nat), x]) :=
      ⟨by show 2 ≤ sizeLine; decide, [.int i tk, y], .cons ⟨_, rfl⟩ (.cons ru .nil), ⟨_, hT2, rfl, _, rfl⟩⟩
    have I1 : Inv X pins σ (L2.upd H s.heap.objs.size (.tup [.int (i : Nat), x])) { s with heap := h2, toks := tk + 1 } :=
      I.turnedNew (ch := [e, it]) (fun b o hb z => (sb.2 b (fun q => hb (by simp [q]))).trans (hk b o (fun q => hb (by simp [q])) (fun q => hb (by simp [q])) z)) hf (Nat.le_refl _) nw
    refine ⟨.ref s.heap.objs.size, _, I1, rfl, ⟨_, x, rfl, I.hok.fresh (Nat.le_refl _), rfl, fun ys hy => by rw [I.tuple_inj hy hq]; exact hx⟩,
      ⟨⟨y, ?_⟩, hit'.1.at fun o z => (sb.2 it (Ne.symm ne)).trans z, ne⟩, fun b hb => ?_⟩
    · rw [show ((i + 1 : Nat) : Int) = (i : Int) + 1 by omega]
      exact he2
    · have lb : b < s.heap.objs.size := by
        rcases List.mem_cons.mp hb with rfl | hb
        · exact l1
        · rw [List.mem_singleton.mp hb]; exact l2
      rw [upd_ne (Nat.ne_of_lt lb)]
      exact (hf b hb).1
  done := by
    intro X hP hw hK hc i pins s σ H E I hf st hg
    subst hP hw hK
    obtain ⟨⟨old, e1⟩, e2, ne⟩ := st
    obtain ⟨xs, hq, hx⟩ := hg
    obtain ⟨its, rv, pt, _⟩ := I.tuple hq
    obtain ⟨f0, f1, f2, f3, f4, f5⟩ := hf it (by simp)
    have lr := rv.length
    have hs : its.toArray.size = i := by
      rw [List.size_toArray]
      omega
    subst hs
    exact wpAny_pyNext_enum_endD (Draws.tuple (show X.A.in1.handled = none from I.ok.hd hc) it p hp its.toArray) e1 ⟨e2, pt⟩
      fun h' eb => ⟨rfl, I.turned (t' := s.toks) (fun b o hb z => eb b o hb z) f0 f1 f3 f4 f5⟩
  self := fun A i s Q E st h => let ⟨⟨_, z⟩, _⟩ := st; wpAny_pyIter_enum z h

/-- enumerate of a list or of a tuple -/
def iEnumA (K : PySem.W.Frag) (ta : TA) : TI := fun σ H R => ta σ H fun vs H1 => ∃ p xs, vs = [.ref p] ∧ ((SqL K H1 p xs ∧ R (Ite K p) H1) ∨ (SqT K H1 p xs ∧ R (IteT K p) H1))
theorem pi_enumT {X : Cx} {e : Expr} {ta : TA} {p pos tp : Pos} {es : List Expr} {kk : Nat} (hg : Gl X "enumerate") (hm : X.mg "enumerate" = none) (ha : PA X [e] ta)
    (hs : starEach [e] X.env = [(false, eval e X.env)] := by rfl) :
    PI X (.Tuple es kk tp) (.Call (.Name "enumerate" p) [e] [] pos) (fun σ H R => ta σ H fun vs H1 => ∃ p xs, vs = [.ref p] ∧ SqT X.K H1 p xs ∧ R (IteT X.K p) H1) := by
  refine ⟨fun pins s σ H R I h => Call_ (ld_blt I hg hm boot_enumerate (PyProof.Rows.callWith_type1 (thn (ha.run pos pins s σ H _ I h) fun us s1 ⟨vs, H1, I1, r1, q1⟩ => ?_) hs rfl))⟩
  obtain ⟨q, xs, ex, hq, hR⟩ := q1
  subst ex
  cases r1 with
  | cons r rr =>
    cases rr
    cases r
    obtain ⟨its, rv, pt, _⟩ := I1.tuple hq
    obtain ⟨ot, et, _⟩ := id pt
    have lq : q < s1.heap.objs.size := Heap.lt_size et
    refine callEnumT pt fun h' he hit hsz hk => wpAny_pyIter_enum he ?_
    have I2 : Inv X pins σ H1 { s1 with heap := h' } := I1.kept (t' := s1.toks) hk
    refine ⟨s1.heap.objs.size + 1, [s1.heap.objs.size + 1, s1.heap.objs.size], _, _, H1, rfl, I2,
      turnEnumT q (s1.heap.objs.size + 1) s1.heap.objs.size (Nat.ne_of_lt lq) (Nat.ne_of_lt (Nat.lt_succ_of_lt lq)), ⟨⟨.none, he⟩, hit, Nat.succ_ne_self _⟩, fun b hb => ?_, hR⟩
    have lb : s1.heap.objs.size ≤ b := by
      rcases List.mem_cons.mp hb with rfl | hb
      · omega
      · rw [List.mem_singleton.mp hb]; exact Nat.le_refl _
    exact I1.fpOk lb (I1.hok.fresh lb)
theorem kiEnumT {X : Cx} (K : PySem.W.Frag) {e : Expr} {ta : TA} {p pos tp : Pos} {es : List Expr} {kk : Nat} (h : X.K = K) (hg : Gl X "enumerate") (hm : X.mg "enumerate" = none) (ha : PA X [e] ta)
    (hs : starEach [e] X.env = [(false, eval e X.env)] := by rfl) :
    PI X (.Tuple es kk tp) (.Call (.Name "enumerate" p) [e] [] pos) (fun σ H R => ta σ H fun vs H1 => ∃ p xs, vs = [.ref p] ∧ SqT K H1 p xs ∧ R (IteT K p) H1) := h ▸ pi_enumT hg hm ha hs
theorem walk_enumT {K : PySem.W.Frag} {p : Addr} {xs : List V} : Walk (IteT K p) xs.length (fun H => SqT K H p xs) (YPair (fun i => some (.int (i : Nat))) (fun i => xs[i]?)) where
  goes := fun i H hi q => ⟨xs, xs[i], q, List.getElem?_eq_getElem hi⟩
  stops := fun H q => ⟨xs, q, rfl⟩
  yields := fun i H x H' hi q ⟨T, y, e, nT, e2, f⟩ => ⟨T, .int (i : Nat), y, e, nT, e2, rfl, f xs q⟩
end Pf
namespace Pf
open PySem PySem.Spec PyProof.Rows L2
/-! ### rows, logs, doings as data -/
abbrev Row := Int × Int × Bool
def rowD (r : Row) : PyData := .tuple [.int r.1, .int r.2.1, .bool r.2.2]
def rowsD (rs : List Row) : PyData := .tuple (rs.map rowD)
def flagsD (fs : List Bool) : PyData := .tuple (fs.map PyData.bool)
def GoodRow (n : Int) (r : Row) : Prop := 0 ≤ r.1 ∧ r.1 < n ∧ 0 ≤ r.2.1 ∧ r.2.1 < n ∧ (r.2.1 = r.1 + 1 ∨ r.2.1 = r.1 - 1)
theorem im_rowD (r : Row) : im (rowD r) = true := rfl
theorem imAll_map {α : Type} {f : α → PyData} (h : ∀ x, im (f x) = true) (xs : List α) : imAll (xs.map f) = true := (imAll_iff _).mpr fun e he => by
  obtain ⟨x, _, rfl⟩ := List.mem_map.mp he
  exact h x
theorem im_rowsD (rs : List Row) : im (rowsD rs) = true := imAll_map im_rowD rs
theorem im_flagsD (fs : List Bool) : im (flagsD fs) = true := imAll_map (f := PyData.bool) (fun _ => rfl) fs
theorem of_row {K : PySem.W.Frag} {H : Hp} {v : V} {r : Row} (h : Dp K H v (rowD r)) : ∃ p, v = .ref p ∧ SqT K H p [.int r.1, .int r.2.1, .bl r.2.2] := by
  unfold rowD at h
  cases h with
  | tup q a =>
    cases a with
    | cons a1 a2 =>
      cases a2 with
      | cons a3 a4 =>
        cases a4 with
        | cons a5 a6 =>
          cases a6
          cases a1; cases a3; cases a5
          exact ⟨_, rfl, q⟩
theorem dp_row {K : PySem.W.Frag} {H : Hp} {p : Addr} {r : Row} (h : SqT K H p [.int r.1, .int r.2.1, .bl r.2.2]) : Dp K H (.ref p) (rowD r) := .tup h (.cons (.int _) (.cons (.int _) (.cons (.bl _) .nil)))
theorem of_tup {K : PySem.W.Frag} {H : Hp} {v : V} {ds : List PyData} (h : Dp K H v (.tuple ds)) : ∃ p xs, v = .ref p ∧ SqT K H p xs ∧ DpAll K H xs ds := by
  cases h with
  | tup q a => exact ⟨_, _, rfl, q, a⟩
theorem dpAll_flags {K : PySem.W.Frag} {H : Hp} : ∀ fs : List Bool, DpAll K H (fs.map V.bl) (fs.map PyData.bool)
  | [] => .nil
  | b :: r => .cons (.bl b) (dpAll_flags r)
theorem dpAll_flags_eq {K : PySem.W.Frag} {H : Hp} : ∀ {fs : List Bool} {vs : List V}, DpAll K H vs (fs.map PyData.bool) → vs = fs.map V.bl
  | [], _, .nil => rfl
  | b :: r, _, .cons p q => by
    cases p
    rw [dpAll_flags_eq q]
    rfl
theorem of_flags {K : PySem.W.Frag} {H : Hp} {v : V} {fs : List Bool} (h : Dp K H v (flagsD fs)) : ∃ p, v = .ref p ∧ SqT K H p (fs.map V.bl) := by
  obtain ⟨p, xs, rfl, q, a⟩ := of_tup h
  rw [dpAll_flags_eq a] at q
  exact ⟨p, rfl, q⟩
theorem dp_flags {K : PySem.W.Frag} {H : Hp} {p : Addr} {fs : List Bool} (h : SqT K H p (fs.map V.bl)) : Dp K H (.ref p) (flagsD fs) := .tup h (dpAll_flags fs)
/-- a log of n offices with the rows rs, of the class at C -/
def LogAt (K : PySem.W.Frag) (C : Addr) (H : Hp) (v : V) (n : Int) (rs : List Row) : Prop := ∃ a dx p, v = .ref a ∧ H a = some (.ins C dx [("offices", .int n), ("rows", .ref p)]) ∧ Dp K H (.ref p) (rowsD rs)
theorem LogAt.tx {K : PySem.W.Frag} {C : Addr} {H H' : Hp} {v : V} {n : Int} {rs : List Row} (h : LogAt K C H v n rs) (t : Tx H H') : LogAt K C H' v n rs := by
  obtain ⟨a, dx, p, rfl, e, d⟩ := h
  exact ⟨a, dx, p, rfl, t _ _ e (fun z w => by cases w), Dp.tx t _ _ (im_rowsD rs) d⟩
def GoodLog (n : Int) (rs : List Row) : Prop := 1 ≤ n ∧ n ≤ 12 ∧ rs.length ≤ 60 ∧ ∀ r ∈ rs, GoodRow n r
/-- a log that may have been returned: rows of any number -/
def AnyLog (n : Int) (rs : List Row) : Prop := 1 ≤ n ∧ n ≤ 12 ∧ rs.length ≤ 100000 ∧ ∀ r ∈ rs, GoodRow n r
theorem map_get {α β : Type} {f : α → β} {xs : List α} {i : Nat} {x : α} (h : xs[i]? = some x) : (xs.map f)[i]? = some (f x) := by rw [List.getElem?_map, h]; rfl
end Pf
namespace Pf
open PySem PySem.Spec PyProof.Rows L2
/-! ### sheets led over rows -/
theorem rising_range {f : Nat → Int} {n : Nat} (h : ∀ i j, i ≤ j → j < n → f i ≤ f j) : ((List.range n).map f).Pairwise (· ≤ ·) := by
  rw [List.pairwise_iff_getElem]
  intro i j hi hj hij
  have hj' : j < n := by simpa using hj
  simp only [List.getElem_map, List.getElem_range]
  exact h i j (by omega) hj'
def firstSt (n : Int) : List Int := (List.range n.toNat).map fun (i : Nat) => (i : Int)
def stepR (hs : List Int) (r : Row) (f : Bool) : List Int := if f = true then hs.set r.1.toNat (hs.getD r.2.1.toNat 0) else hs
def stAt (n : Int) (rs : List Row) (fs : List Bool) (i : Nat) : List Int := ((rs.zip fs).take i).foldl (fun h p => stepR h p.1 p.2) (firstSt n)
def allSt (n : Int) (rs : List Row) (fs : List Bool) : List PyData := (List.range (rs.length + 1)).map fun i => tupI (stAt n rs fs i)
theorem st_succ {n : Int} {rs : List Row} {fs : List Bool} {i : Nat} {r : Row} {f : Bool} (h : rs[i]? = some r) (k : fs[i]? = some f) : stAt n rs fs (i + 1) = stepR (stAt n rs fs i) r f := by
  unfold stAt
  rw [take_snoc ((List.getElem?_zip_eq_some (z := (r, f))).mpr ⟨h, k⟩), List.foldl_append]
  rfl
/-- sheets of n offices: they never fall -/
def GoodSt (n : Int) (hs : List Int) : Prop := (hs.length : Int) = n ∧ (∀ x ∈ hs, 0 ≤ x ∧ x < n) ∧ hs.Pairwise (· ≤ ·)
theorem firstSt_len (n : Int) : (firstSt n).length = n.toNat := by unfold firstSt; simp
theorem first_good {n : Int} (h : 0 ≤ n) : GoodSt n (firstSt n) := by
  refine ⟨by rw [firstSt_len]; omega, fun x hx => ?_, ?_⟩
  · obtain ⟨i, hi, rfl⟩ := List.mem_map.mp hx
    have := List.mem_range.mp hi
    omega
  · exact rising_range fun i j hij _ => by omega
theorem getD_of {hs : List Int} {i : Nat} {z : Int} (h : hs[i]? = some z) : hs.getD i 0 = z := by
  rw [List.getD_eq_getElem?_getD, h]; rfl
theorem set_good {n : Int} {hs : List Int} (h : GoodSt n hs) {x y : Nat} (hx : (x : Int) < n) (hy : (y : Int) < n) (hn : y = x + 1 ∨ x = y + 1) : GoodSt n (hs.set x (hs.getD y 0)) := by
  obtain ⟨h1, h2, h3⟩ := h
  have hyl : y < hs.length := by omega
  have e : hs.getD y 0 = hs[y] := getD_of (List.getElem?_eq_getElem hyl)
  rw [e]
  refine ⟨by rw [List.length_set]; exact h1, fun z hz => ?_, ?_⟩
  · rcases List.mem_or_eq_of_mem_set hz with hz | hz
    · exact h2 z hz
    · rw [hz]; exact h2 _ (List.getElem_mem hyl)
  · rw [List.pairwise_iff_getElem] at h3 ⊢
    intro i j hi hj hij
    rw [List.length_set] at hi hj
    rw [List.getElem_set, List.getElem_set]
    split
    · rename_i e1
      subst e1
      rw [if_neg (by omega)]
      by_cases q : y = j
      · subst q; exact Int.le_refl _
      · exact h3 y j hyl hj (by omega)
    · split
      · rename_i e1 e2
        subst e2
        by_cases q : i = y
        · subst q; exact Int.le_refl _
        · exact h3 i y hi hyl (by omega)
      · exact h3 i j hi hj hij
theorem step_good {n : Int} {hs : List Int} (h : GoodSt n hs) {r : Row} (g : GoodRow n r) (f : Bool) : GoodSt n (stepR hs r f) := by
  unfold stepR
  obtain ⟨g1, g2, g3, g4, g5⟩ := g
  split
  · exact set_good h (by omega) (by omega) (by omega)
  · exact h
theorem st_good {n : Int} (hn : 0 ≤ n) {rs : List Row} {fs : List Bool} (hg : ∀ r ∈ rs, GoodRow n r) (hl : fs.length = rs.length) : ∀ i, i ≤ rs.length → GoodSt n (stAt n rs fs i)
  | 0, _ => first_good hn
  | i + 1, h => by
    have hi : i < rs.length := by omega
    have hf : i < fs.length := by omega
    rw [st_succ (List.getElem?_eq_getElem hi) (List.getElem?_eq_getElem hf)]
    exact step_good (st_good hn hg hl i (by omega)) (hg _ (List.getElem_mem hi)) _
theorem rgV_first (n : Int) : rgV 0 n = (firstSt n).map V.int := by
  unfold rgV firstSt
  rw [List.map_map, Int.sub_zero]
  refine List.map_congr_left fun i _ => ?_
  show V.int (0 + (i : Int)) = V.int (i : Int)
  rw [Int.zero_add]
theorem atI_lastG {α : Type} {xs : List α} {v : α} (h : xs[xs.length - 1]? = some v) : atI xs (-1) = some v := by
  have hl : xs ≠ [] := fun e => by rw [e] at h; cases h
  have e : xs = xs.dropLast ++ [xs.getLast hl] := (List.dropLast_concat_getLast hl).symm
  have ez : xs.getLast hl = v := by
    rw [← List.getLast?_eq_getElem?, List.getLast?_eq_getLast hl] at h
    exact Option.some.inj h
  rw [e, ez]
  exact atI_last _ _
/-- an item by a whole number -/
theorem atI_at {α : Type} {xs : List α} {i : Int} {v : α} (h0 : 0 ≤ i) (h : xs[i.toNat]? = some v) : atI xs i = some v := by
  have e : i = ((i.toNat : Nat) : Int) := by omega
  rw [e]
  exact atI_nat h
theorem ixN_at {n : Nat} {i : Int} (h0 : 0 ≤ i) (h : i < n) : ixN n i = some i.toNat := by
  unfold ixN
  rw [if_pos h0, if_pos h]
theorem range1_map {α : Type} {f : Nat → α} {n : Nat} : (List.range (n + 1)).map f = (List.range n).map f ++ [f n] := by
  rw [List.range_succ, List.map_append]
  rfl
theorem imAll_tupI (f : Nat → List Int) (n : Nat) : imAll ((List.range n).map fun i => tupI (f i)) = true := imAll_map (fun i => im_ints _) _
/-- drawn data, each by its place -/
theorem lc_drawI {K : PySem.W.Frag} {J : It} {n : Nat} {G : Hp → Prop} {Y : Nat → Hp → V → Hp → Prop} {g : TG} {tt : TT} {te : TE} {vs : List Nat} {σ : L2.St} {H1 : Hp} {D : Addr} {Qd : Hp → Prop} {d c : Addr} (w : Walk J n G Y) (PD : Nat → PyData → Prop) (hn : n < sizeLine) (him : ∀ i e, PD i e → im e = true) (nD1 : H1 D = none) (hD : Dice d c H1) (hG : ∀ H, Fr d H1 H → G H)
    (hs : ∀ i x H H' (C : V → Hp → Prop) (Cn : Hp → Prop), i < n → Fr d H1 H → Dice d c H → Y i H x H' → (∀ y e H4, Fr d H H4 → Dice d c H4 → Dp K H4 y e → PD i e → C y H4) →
      g x (wipe σ vs) H' fun σ2 H2 => wipe σ2 vs = wipe σ vs ∧ tt σ2 H2 fun b H3 => if b = true then te σ2 H3 C else Cn H3)
    (hd : ∀ H xs ds, Fr d H1 H → Dice d c H → H D = some (.lst xs) → DpAll K H xs ds → ds.length = n → (∀ i e, ds[i]? = some e → PD i e) → Qd H) :
    ∃ W : Nat → Nat → Hp → Prop, (∃ m, W 0 m (L2.upd H1 D (.lst []))) ∧ ∀ i m H, W i m H →
      (J.stop i H ∧ Qd H) ∨ (J.go i H ∧ ∃ Nx : Hp → Prop, (∀ H', Nx H' → ∃ m', m' < m ∧ W (i + 1) m' H') ∧ ∀ x H', J.yld i H x H' → g x (wipe σ vs) H' fun σ2 H2 => wipe σ2 vs = wipe σ vs ∧ tt σ2 H2 fun b H3 =>
        if b = true then te σ2 H3 fun y H4 => ∃ acc, H4 D = some (.lst acc) ∧ acc.length < sizeLine ∧ Nx (L2.upd H4 D (.lst (acc ++ [y]))) else Nx H3) := by
  refine lc_cps w (fun i H acc => Fr d H1 H ∧ Dice d c H ∧ ∃ ds, DpAll K H acc ds ∧ ds.length = i ∧ ∀ i e, ds[i]? = some e → PD i e) ⟨Fr.new nD1, hD.new nD1, [], .nil, rfl, fun i e h => by simp at h⟩ (fun i H acc hi r e => hG H r.1) (fun i x H H' acc C Cn hi r e hy hC hN => ?_)
    (fun H acc ⟨r1, r2, ds, r3, r4, r5⟩ e => hd H acc ds r1 r2 e r3 r4 r5)
  obtain ⟨r1, r2, ds, r3, r4, r5⟩ := r
  refine hs i x H H' C Cn hi r1 r2 hy (fun y ee H4 f4 d4 dy pe => ?_)
  have e4 : H4 D = some (.lst acc) := f4 _ _ (hD.nd nD1) e
  have hall : ∀ j z, (ds ++ [ee])[j]? = some z → PD j z := fun j z hz => by
    by_cases hj : j < ds.length
    · rw [List.getElem?_append_left hj] at hz
      exact r5 j z hz
    · have hj2 : j = ds.length := by
        have := (List.getElem?_eq_some_iff.mp hz).1
        rw [List.length_append, List.length_singleton] at this
        omega
      subst hj2
      rw [List.getElem?_concat_length] at hz
      cases hz
      rw [r4]
      exact pe
  refine hC y H4 e4 (by rw [DpAll.len r3]; omega) ⟨Fr.put (r1.trans f4) nD1, d4.put (hD.nd nD1) (hD.nc nD1), ds ++ [ee], ?_, by rw [List.length_append, r4]; rfl, hall⟩
  have im1 : imAll (ds ++ [ee]) = true := (imAll_iff _).mpr fun z hz => by
    obtain ⟨j, hj⟩ := List.mem_iff_getElem?.mp hz
    exact him j z (hall j z hj)
  have im0 : imAll ds = true := (imAll_iff _).mpr fun z hz => by
    obtain ⟨j, hj⟩ := List.mem_iff_getElem?.mp hz
    exact him j z (r5 j z hj)
  exact Dp.txAll (Tx.lst e4) _ _ im1 (DpAll.snoc (Dp.txAll (r2.tx f4) _ _ im0 r3) dy)
end Pf
namespace Pf
open PySem PySem.Spec PyProof.Rows L2
theorem cutV_take (xs : List V) (i : Nat) : cutV xs none (some (i : Int)) = xs.take i := by
  unfold cutV
  rw [HT.sIx_none, HT.sIx_nat, Nat.sub_zero, List.drop_zero]
  by_cases h : i ≤ xs.length
  · rw [Nat.min_eq_left h]
  · rw [Nat.min_eq_right (by omega), List.take_length, List.take_of_length_le (by omega)]
theorem cutV_drop (xs : List V) (i : Nat) : cutV xs (some (i : Int)) none = xs.drop i := by
  unfold cutV
  rw [HT.sIx_none, HT.sIx_nat]
  by_cases h : i ≤ xs.length
  · rw [Nat.min_eq_left h]
    exact List.take_of_length_le (by rw [List.length_drop]; exact Nat.le_refl _)
  · rw [Nat.min_eq_right (by omega), Nat.sub_self, List.take_zero, List.drop_of_length_le (by omega)]
abbrev lstI (ns : List Int) : PyData := .list (ns.map PyData.int)
theorem shaped_lstI (ns : List Int) : SeqAt.shaped (lstI ns) = true := by
  unfold SeqAt.shaped
  rw [Bool.and_eq_true]
  refine ⟨canLay_ints ns, decide_eq_true ?_⟩
  show PyData.depthAll (ns.map PyData.int) + 1 ≤ 64
  rw [depth_ints]
  decide
theorem eqv_lstI (ns ms : List Int) : PyData.eqv (lstI ns) (lstI ms) = decide (ns = ms) := eqv_ints ns ms
theorem dp_lstI {K : PySem.W.Frag} {H : Hp} {p : Addr} {ns : List Int} (h : SqL K H p (ns.map V.int)) : Dp K H (.ref p) (lstI ns) := .lst h (dpAll_ints ns)
/-- a log as it is made -/
theorem log_made {H H' : Hp} {C x dx : Addr} (nx : H x = none) (nd : H dx = none) (f : Fr x (L2.upd (L2.upd H dx (.own x)) x (.ins C dx [])) H') : Same H H' := fun b o e => by
  have n1 : b ≠ x := ne_of_none e nx
  have n2 : b ≠ dx := ne_of_none e nd
  exact f b o n1 (by rw [upd_ne n1, upd_ne n2]; exact e)
theorem set_cut {hs : List Int} {x : Nat} {z : Int} (h : x < hs.length) : (hs.set x z).map V.int = ((hs.map V.int).take x ++ [V.int z]) ++ (hs.map V.int).drop (x + 1) := by
  rw [List.set_eq_take_append_cons_drop, if_pos h, List.map_append, List.map_cons, List.map_take, List.map_drop, List.append_assoc]
  rfl
/-- drawn whole numbers -/
def IntIn (m : Int) (e : PyData) : Prop := ∃ z, e = .int z ∧ 0 ≤ z ∧ z < m
theorem IntIn.all {K : PySem.W.Frag} {H : Hp} {m : Int} : ∀ {xs : List V} {ds : List PyData}, DpAll K H xs ds → (∀ e ∈ ds, IntIn m e) → ∃ ns : List Int, xs = ns.map V.int ∧ ns.length = ds.length ∧ ∀ x ∈ ns, 0 ≤ x ∧ x < m
  | _, _, .nil, _ => ⟨[], rfl, rfl, fun x hx => by cases hx⟩
  | _, _, .cons p q, h => by
    obtain ⟨ns, e1, e2, e3⟩ := IntIn.all q fun e he => h e (List.mem_cons_of_mem _ he)
    obtain ⟨z, rfl, z0, z1⟩ := h _ (List.mem_cons_self ..)
    cases p
    refine ⟨z :: ns, by rw [e1]; rfl, by rw [List.length_cons, List.length_cons, e2], fun x hx => ?_⟩
    rcases List.mem_cons.mp hx with rfl | hx
    · exact ⟨z0, z1⟩
    · exact e3 x hx
end Pf

--BODY
namespace Pf
open PySem PySem.Spec PyProof.Rows L2
theorem DpAll.take {K : PySem.W.Frag} {H : Hp} : ∀ {xs : List V} {ds : List PyData} (i : Nat), DpAll K H xs ds → DpAll K H (xs.take i) (ds.take i)
  | _, _, 0, _ => by rw [List.take_zero, List.take_zero]; exact .nil
  | _, _, _ + 1, .nil => by rw [List.take_nil, List.take_nil]; exact .nil
  | _, _, i + 1, .cons p q => by rw [List.take_succ_cons, List.take_succ_cons]; exact .cons p (DpAll.take i q)
theorem DpAll.drop {K : PySem.W.Frag} {H : Hp} : ∀ {xs : List V} {ds : List PyData} (i : Nat), DpAll K H xs ds → DpAll K H (xs.drop i) (ds.drop i)
  | _, _, 0, h => by rw [List.drop_zero, List.drop_zero]; exact h
  | _, _, _ + 1, .nil => by rw [List.drop_nil, List.drop_nil]; exact .nil
  | _, _, i + 1, .cons p q => by rw [List.drop_succ_cons, List.drop_succ_cons]; exact DpAll.drop i q
theorem canLay_rows : ∀ rs : List Row, PyData.canLayAll0 (rs.map rowD) = true
  | [] => rfl
  | r :: rs => by
    show (PyData.canLay0 (rowD r) && PyData.canLayAll0 (rs.map rowD)) = true
    rw [canLay_rows rs]
    rfl
theorem depth_rows : ∀ rs : List Row, PyData.depthAll (rs.map rowD) ≤ 1
  | [] => Nat.zero_le _
  | r :: rs => by
    have := depth_rows rs
    show max (PyData.depth (rowD r)) (PyData.depthAll (rs.map rowD)) ≤ 1
    have e : PyData.depth (rowD r) = 1 := rfl
    omega
theorem shaped_rowsD (rs : List Row) : SeqAt.shaped (rowsD rs) = true := by
  unfold SeqAt.shaped
  rw [Bool.and_eq_true]
  refine ⟨canLay_rows rs, decide_eq_true ?_⟩
  have := depth_rows rs
  show PyData.depthAll (rs.map rowD) + 1 ≤ 64
  omega
theorem eqv_self {d : PyData} (h : SeqAt.shaped d = true) : PyData.eqv d d = true := SeqAt.eqv_refl d (SeqAt.canLay_of_shaped h)
/-- two logs alike -/
def LogEq (K : PySem.W.Frag) (C : Addr) (x y : Addr) (H : Hp) : Prop := ∃ n rs, LogAt K C H (.ref x) n rs ∧ LogAt K C H (.ref y) n rs
def loose (rs : List Row) : List Row := rs.map fun r => (r.1, r.2.1, false)
end Pf
namespace Pf
open PySem PySem.Spec PyProof.Rows L2
theorem loose_st (n : Int) (rs : List Row) (fs : List Bool) (i : Nat) : stAt n (loose rs) fs i = stAt n rs fs i := by
  unfold stAt loose
  rw [List.zip_map_left, ← List.map_take, List.foldl_map]
  rfl
theorem loose_len (rs : List Row) : (loose rs).length = rs.length := by unfold loose; simp
theorem loose_good {n : Int} {rs : List Row} (h : AnyLog n rs) : AnyLog n (loose rs) := ⟨h.1, h.2.1, by rw [loose_len]; exact h.2.2.1, fun r hr => by
  obtain ⟨q, hq, rfl⟩ := List.mem_map.mp hr
  exact h.2.2.2 q hq⟩
theorem put_out {rs : List Row} {r : Row} {k : Nat} (h : k ≤ rs.length) : (rs.take k ++ r :: rs.drop k).take k ++ (rs.take k ++ r :: rs.drop k).drop (k + 1) = rs := by
  have e : (rs.take k).length = k := by rw [List.length_take]; omega
  rw [List.take_append_of_le_length (by omega), List.take_of_length_le (by omega), List.drop_append, e, List.drop_of_length_le (by omega), show k + 1 - k = 1 by omega]
  show rs.take k ++ ([] ++ rs.drop k) = rs
  rw [List.nil_append, List.take_append_drop]
theorem dp_cut {K : PySem.W.Frag} {H : Hp} {p : Addr} {xs : List V} {rs : List Row} {i j : Nat} (h : SqT K H p (xs.take i ++ xs.drop j)) (ha : DpAll K H xs (rs.map rowD)) : Dp K H (.ref p) (rowsD (rs.take i ++ rs.drop j)) := .tup h (by
  rw [List.map_append, List.map_take, List.map_drop]
  exact DpAll.app (DpAll.take _ ha) (DpAll.drop _ ha))
theorem dp_put {K : PySem.W.Frag} {H : Hp} {p : Addr} {xs : List V} {rs : List Row} {i j : Nat} {v : V} {r : Row} (h : SqT K H p ((xs.take i ++ [v]) ++ xs.drop j)) (ha : DpAll K H xs (rs.map rowD)) (hv : Dp K H v (rowD r)) : Dp K H (.ref p) (rowsD (rs.take i ++ r :: rs.drop j)) := .tup h (by
  rw [List.map_append, List.map_cons, List.map_take, List.map_drop, show rowD r :: List.drop j (List.map rowD rs) = [rowD r] ++ List.drop j (List.map rowD rs) from rfl, ← List.append_assoc]
  exact DpAll.app (DpAll.app (DpAll.take _ ha) (.cons hv .nil)) (DpAll.drop _ ha))
end Pf
namespace Pf
open PySem PySem.Spec PyProof.Rows L2
theorem units65 {k : Nat} {A : Around} (hr : Room k A) : A.units + 65 < cLine := by
  have := hr.un
  omega
def idleP (n : Int) (rs : List Row) (fs : List Bool) (i : Nat) : Bool := fs.getD i false && decide (stAt n rs fs i = stAt n rs fs (i + 1))
def idleTo (n : Int) (rs : List Row) (fs : List Bool) (m : Nat) : List Int := ((List.range m).filter (idleP n rs fs)).map fun (i : Nat) => (i : Int)
theorem idle_succ (n : Int) (rs : List Row) (fs : List Bool) (m : Nat) : idleTo n rs fs (m + 1) = idleTo n rs fs m ++ (if idleP n rs fs m = true then [(m : Int)] else []) := by
  unfold idleTo
  rw [List.range_succ, List.filter_append, List.map_append]
  by_cases h : idleP n rs fs m = true
  · rw [filt1 h, if_pos h]; rfl
  · rw [filt0 h, if_neg h]; rfl
theorem idle_len (n : Int) (rs : List Row) (fs : List Bool) (m : Nat) : (idleTo n rs fs m).length ≤ m := by
  unfold idleTo
  rw [List.length_map]
  have := List.length_filter_le (idleP n rs fs) (List.range m)
  rw [List.length_range] at this
  exact this
theorem allSt_at {n : Int} {rs : List Row} {fs : List Bool} {j : Nat} (h : j ≤ rs.length) : (allSt n rs fs)[j]? = some (tupI (stAt n rs fs j)) := by
  unfold allSt
  rw [List.getElem?_map, List.getElem?_range (by omega)]
  rfl
theorem allSt_len (n : Int) (rs : List Row) (fs : List Bool) : (allSt n rs fs).length = rs.length + 1 := by unfold allSt; simp
theorem imAll_allSt (n : Int) (rs : List Row) (fs : List Bool) : imAll (allSt n rs fs) = true := imAll_tupI _ _
/-- an item of such a list -/
theorem st_item {K : PySem.W.Frag} {H : Hp} {xs : List V} {n : Int} {rs : List Row} {fs : List Bool} {j : Nat} (h : DpAll K H xs (allSt n rs fs)) (hj : j ≤ rs.length) : ∃ v, xs[j]? = some v ∧ Dp K H v (tupI (stAt n rs fs j)) := by
  have hl : j < xs.length := by rw [DpAll.len h, allSt_len]; omega
  exact ⟨_, List.getElem?_eq_getElem hl, DpAll.at h (List.getElem?_eq_getElem hl) (allSt_at hj)⟩
/-- all doings of rows -/
def dStep (r : Row) (d : List Bool) : List (List Bool) := if r.2.2 = true then [d ++ [true]] else [d ++ [false], d ++ [true]]
def dTo : List Row → List (List Bool) → List (List Bool)
  | [], ds => ds
  | r :: rs, ds => dTo rs (ds.flatMap (dStep r))
def dAt (rs : List Row) (i : Nat) : List (List Bool) := dTo (rs.take i) [[]]
theorem dTo_snoc : ∀ (rs : List Row) (r : Row) (ds : List (List Bool)), dTo (rs ++ [r]) ds = (dTo rs ds).flatMap (dStep r)
  | [], _, _ => rfl
  | q :: rs, r, ds => dTo_snoc rs r (ds.flatMap (dStep q))
theorem dAt_succ {rs : List Row} {i : Nat} {r : Row} (h : rs[i]? = some r) : dAt rs (i + 1) = (dAt rs i).flatMap (dStep r) := by
  unfold dAt
  rw [take_snoc h, dTo_snoc]
theorem dStep_len (r : Row) (d : List Bool) : (dStep r d).length ≤ 2 := by
  unfold dStep
  split
  · exact Nat.le_succ 1
  · exact Nat.le_refl 2
theorem flatMap_len {α β : Type} (f : α → List β) (h : ∀ x, (f x).length ≤ 2) : ∀ xs : List α, (xs.flatMap f).length ≤ 2 * xs.length
  | [] => Nat.zero_le _
  | x :: xs => by
    rw [List.flatMap_cons, List.length_append, List.length_cons]
    have := h x
    have := flatMap_len f h xs
    omega
theorem dAt_len {rs : List Row} : ∀ i, i ≤ rs.length → (dAt rs i).length ≤ 2 ^ i
  | 0, _ => Nat.le_refl 1
  | i + 1, h => by
    rw [dAt_succ (List.getElem?_eq_getElem (show i < rs.length by omega))]
    have h1 := flatMap_len _ (dStep_len rs[i]) (dAt rs i)
    have h2 := dAt_len i (show i ≤ rs.length by omega)
    rw [Nat.pow_succ]
    omega
theorem canLay_flags : ∀ fs : List Bool, PyData.canLayAll0 (fs.map PyData.bool) = true
  | [] => rfl
  | _ :: r => by
    show (PyData.canLay0 (.bool _) && PyData.canLayAll0 (r.map PyData.bool)) = true
    rw [canLay_flags r]
    rfl
theorem depth_flags : ∀ fs : List Bool, PyData.depthAll (fs.map PyData.bool) = 0
  | [] => rfl
  | _ :: r => by
    show max (PyData.depth (.bool _)) (PyData.depthAll (r.map PyData.bool)) = 0
    rw [depth_flags r]
    rfl
theorem depth_flagsD (fs : List Bool) : PyData.depth (flagsD fs) = 1 := by
  show PyData.depthAll (fs.map PyData.bool) + 1 = 1
  rw [depth_flags]
theorem shaped_flagsD (fs : List Bool) : SeqAt.shaped (flagsD fs) = true := by
  unfold SeqAt.shaped
  rw [Bool.and_eq_true]
  exact ⟨canLay_flags fs, decide_eq_true (by rw [depth_flagsD]; decide)⟩
theorem canLay_fl : ∀ ds : List (List Bool), PyData.canLayAll0 (ds.map flagsD) = true
  | [] => rfl
  | d :: r => by
    show (PyData.canLay0 (flagsD d) && PyData.canLayAll0 (r.map flagsD)) = true
    rw [canLay_fl r, show PyData.canLay0 (flagsD d) = true from canLay_flags d]
    rfl
theorem depth_fl : ∀ ds : List (List Bool), PyData.depthAll (ds.map flagsD) ≤ 1
  | [] => Nat.zero_le _
  | d :: r => by
    have := depth_fl r
    show max (PyData.depth (flagsD d)) (PyData.depthAll (r.map flagsD)) ≤ 1
    rw [depth_flagsD]
    omega
theorem shaped_fl (ds : List (List Bool)) : SeqAt.shaped (.list (ds.map flagsD)) = true := by
  unfold SeqAt.shaped
  rw [Bool.and_eq_true]
  refine ⟨canLay_fl ds, decide_eq_true ?_⟩
  have := depth_fl ds
  show PyData.depthAll (ds.map flagsD) + 1 ≤ 64
  omega
theorem eqv_flags : ∀ fs gs : List Bool, PyData.eqvAll (fs.map PyData.bool) (gs.map PyData.bool) = decide (fs = gs)
  | [], [] => rfl
  | [], _ :: _ => rfl
  | _ :: _, [] => rfl
  | x :: r, y :: q => by
    show ((x == y) && PyData.eqvAll (r.map PyData.bool) (q.map PyData.bool)) = _
    rw [eqv_flags r q, Bool.eq_iff_iff]
    simp
theorem any_fl (ds : List (List Bool)) (fs : List Bool) : ((ds.map flagsD).any fun z => PyData.eqv z (flagsD fs)) = decide (fs ∈ ds) := by
  rw [Bool.eq_iff_iff, List.any_eq_true, decide_eq_true_iff]
  constructor
  · rintro ⟨z, hz, e⟩
    obtain ⟨g, hg, rfl⟩ := List.mem_map.mp hz
    have e2 : PyData.eqvAll (g.map PyData.bool) (fs.map PyData.bool) = true := e
    rw [eqv_flags] at e2
    rw [← of_decide_eq_true e2]
    exact hg
  · intro h
    exact ⟨flagsD fs, List.mem_map.mpr ⟨fs, h, rfl⟩, eqv_self (shaped_flagsD fs)⟩
end Pf
namespace Pf
open PySem PySem.Spec PyProof.Rows L2
theorem kit_self {K : PySem.W.Frag} {C : Addr} : PySem.W.kitOne K (.ref C) (.ref C) = some true := by
  unfold PySem.W.kitOne
  exact if_pos (by first | exact beq_self_eq_true _ | simp | rfl)
end Pf
namespace Pf
open PySem PySem.Spec PyProof.Rows L2
theorem range_map_ofX {n : Int} {rs : List Row} {fs : List Bool} {i : Nat} {e : PyData} (h : (allSt n rs fs)[i]? = some e) : ∃ j, j ≤ rs.length ∧ e = tupI (stAt n rs fs j) := by
  have hl : i < rs.length + 1 := by
    have := (List.getElem?_eq_some_iff.mp h).1
    rwa [allSt_len] at this
  rw [allSt_at (by omega)] at h
  exact ⟨i, by omega, (Option.some.inj h).symm⟩
end Pf
namespace Pf
open PySem PySem.Spec PyProof.Rows L2
theorem kInD {X : Cx} (K : PySem.W.Frag) (h : X.K = K) (hu : X.A.units + 65 < cLine) : OpR X (compareOp .In) (rInD K) := kO K (r := rInD) h (op_inD hu)
end Pf
namespace Pf
open PySem PySem.Spec PyProof.Rows L2
theorem kRepT {X : Cx} (K : PySem.W.Frag) (h : X.K = K) : OpR X (binaryOp .Mult) (rRepT K) := kO K (r := rRepT) h op_repT
/-! ### orders -/
def swapAt (o : List Int) (p : Nat) : List Int := if o.getD p 0 < o.getD (p + 1) 0 then (o.set p (o.getD (p + 1) 0)).set (p + 1) (o.getD p 0) else o
def isL (r : Row) : Bool := decide (r.1 < r.2.1)
def placeR (r : Row) : Int := (if r.2.1 > r.1 then r.2.1 else r.1) - 1
def sideR (rs : List Row) (b : Bool) : List Row := rs.filter fun r => isL r == b
def ordF (o : List Int) (rs : List Row) : List Int := rs.foldl (fun o r => swapAt o (placeR r).toNat) o
def ordOf (n : Int) (rs : List Row) (b : Bool) : List Int := ordF (firstSt n) (sideR rs b)
theorem swap_len (o : List Int) (p : Nat) : (swapAt o p).length = o.length := by
  unfold swapAt
  split
  · rw [List.length_set, List.length_set]
  · rfl
theorem ordF_len : ∀ (rs : List Row) (o : List Int), (ordF o rs).length = o.length
  | [], _ => rfl
  | r :: rs, o => by
    show (ordF (swapAt o (placeR r).toNat) rs).length = o.length
    rw [ordF_len rs, swap_len]
theorem ordF_snoc (o : List Int) (rs : List Row) (r : Row) : ordF o (rs ++ [r]) = swapAt (ordF o rs) (placeR r).toNat := by
  unfold ordF
  rw [List.foldl_append]
  rfl
theorem side_snoc (rs : List Row) (r : Row) (b : Bool) : sideR (rs ++ [r]) b = sideR rs b ++ (if (isL r == b) = true then [r] else []) := by
  unfold sideR
  rw [List.filter_append]
  by_cases h : (isL r == b) = true
  · rw [filt1 (p := fun r => isL r == b) h, if_pos h]
  · rw [filt0 (p := fun r => isL r == b) h, if_neg h]
theorem ordOf_snoc (n : Int) (rs : List Row) (r : Row) (b : Bool) : ordOf n (rs ++ [r]) b = if (isL r == b) = true then swapAt (ordOf n rs b) (placeR r).toNat else ordOf n rs b := by
  unfold ordOf
  rw [side_snoc]
  split
  · rw [ordF_snoc]
  · rw [List.append_nil]
theorem ordOf_len (n : Int) (rs : List Row) (b : Bool) : (ordOf n rs b).length = n.toNat := by
  unfold ordOf
  rw [ordF_len, firstSt_len]
theorem place_of {n : Int} {r : Row} (g : GoodRow n r) : 0 ≤ placeR r ∧ placeR r + 1 < n := by
  obtain ⟨g1, g2, g3, g4, g5⟩ := g
  unfold placeR
  split <;> omega
theorem getD_set_eq {o : List Int} {p : Nat} {z : Int} (h : p < o.length) : (o.set p z).getD p 0 = z := by
  rw [List.getD_eq_getElem?_getD, List.getElem?_set_self h]
  rfl
theorem getD_set_ne {o : List Int} {p q : Nat} {z : Int} (h : p ≠ q) : (o.set p z).getD q 0 = o.getD q 0 := by
  rw [List.getD_eq_getElem?_getD, List.getElem?_set_ne h, List.getD_eq_getElem?_getD]
theorem swap_swap {o : List Int} {p : Nat} (h : p + 1 < o.length) : swapAt (swapAt o p) p = swapAt o p := by
  by_cases c : o.getD p 0 < o.getD (p + 1) 0
  · have e : swapAt o p = (o.set p (o.getD (p + 1) 0)).set (p + 1) (o.getD p 0) := if_pos c
    rw [e]
    unfold swapAt
    rw [if_neg]
    rw [getD_set_eq (by rw [List.length_set]; exact h), getD_set_ne (by omega), getD_set_eq (by omega)]
    omega
  · have e : swapAt o p = o := if_neg c
    rw [e, e]
/-- the last row once more -/
theorem ord_again {n : Int} {rs : List Row} {r : Row} (hr : rs.getLast? = some r) (g : GoodRow n r) (b : Bool) : ordOf n (rs ++ [r]) b = ordOf n rs b := by
  obtain ⟨ps, rfl⟩ := List.getLast?_eq_some_iff.mp hr
  rw [ordOf_snoc, ordOf_snoc]
  split
  · have hp := place_of g
    exact swap_swap (by rw [ordOf_len]; omega)
  · rfl
theorem ord_loose (n : Int) (rs : List Row) (b : Bool) : ordOf n (loose rs) b = ordOf n rs b := by
  unfold ordOf sideR loose ordF
  rw [List.filter_map, List.foldl_map]
  rfl
theorem ord_lefts (n : Int) (rs : List Row) : ordOf n (rs.filter isL) true = ordOf n rs true ∧ ordOf n (rs.filter isL) false = firstSt n := by
  have e1 : (fun r : Row => isL r == true) = isL := by
    funext r
    cases isL r <;> rfl
  constructor
  · unfold ordOf sideR
    rw [List.filter_filter, e1]
    congr 2
    funext r
    cases isL r <;> rfl
  · unfold ordOf sideR
    rw [List.filter_filter, List.filter_eq_nil_iff.mpr (fun r _ => by cases isL r <;> decide)]
    rfl
def pairD (n : Int) (rs : List Row) : PyData := .tuple [tupI (ordOf n rs true), tupI (ordOf n rs false)]
theorem im_pairD (n : Int) (rs : List Row) : im (pairD n rs) = true := by
  show (im (tupI (ordOf n rs true)) && (im (tupI (ordOf n rs false)) && true)) = true
  rw [im_ints, im_ints]
  rfl
theorem shaped_pair (x y : List Int) : SeqAt.shaped (.tuple [tupI x, tupI y]) = true := by
  unfold SeqAt.shaped
  rw [Bool.and_eq_true]
  refine ⟨?_, decide_eq_true ?_⟩
  · show (PyData.canLay0 (tupI x) && (PyData.canLay0 (tupI y) && true)) = true
    rw [show PyData.canLay0 (tupI x) = true from canLay_ints x, show PyData.canLay0 (tupI y) = true from canLay_ints y]
    rfl
  · show max (PyData.depthAll (x.map PyData.int) + 1) (max (PyData.depthAll (y.map PyData.int) + 1) 0) + 1 ≤ 64
    rw [depth_ints, depth_ints]
    decide
theorem dpAll_rep {K : PySem.W.Frag} {H : Hp} {xs : List V} {rs : List Row} (h : DpAll K H xs (rs.map rowD)) : ∀ k : Nat, DpAll K H (List.replicate k xs).flatten ((List.replicate k rs).flatten.map rowD)
  | 0 => .nil
  | k + 1 => by
    rw [List.replicate_succ, List.replicate_succ, List.flatten_cons, List.flatten_cons, List.map_append]
    exact DpAll.app h (dpAll_rep h k)
theorem rep_mem {rs : List Row} {r : Row} {k : Nat} (h : r ∈ (List.replicate k rs).flatten) : r ∈ rs := by
  obtain ⟨l, hl, hr⟩ := List.mem_flatten.mp h
  rw [(List.mem_replicate.mp hl).2] at hr
  exact hr
theorem rep_len (rs : List Row) (k : Nat) : (List.replicate k rs).flatten.length = k * rs.length := by
  rw [List.length_flatten, List.map_replicate, List.sum_replicate_nat]
theorem getD_at {o : List Int} {p : Nat} (h : p < o.length) : o[p]? = some (o.getD p 0) := by
  rw [List.getElem?_eq_getElem h, getD_of (List.getElem?_eq_getElem h)]
theorem cutV_last {xs : List V} {v : V} (h : xs.getLast? = some v) : cutV xs (some (-1)) none = [v] := by
  obtain ⟨ys, rfl⟩ := List.getLast?_eq_some_iff.mp h
  have e1 : HT.sIx (ys ++ [v]).length 0 (some (-1)) = ys.length := by
    show (if (-1 : Int) < 0 then ((-1 : Int) + ((ys ++ [v]).length : Int)).toNat else min (-1 : Int).toNat (ys ++ [v]).length) = ys.length
    rw [if_pos (by decide), List.length_append, List.length_singleton]
    omega
  unfold cutV
  rw [e1, HT.sIx_none, List.drop_left, List.length_append, List.length_singleton, Nat.add_sub_cancel_left]
  rfl
end Pf

--BODY
namespace Pf
open PySem PySem.Spec PyProof.Rows L2 HT
section
variable {prog : Program} {w : World} {A : Around} {E : Value → Shared → Prop} {s : Shared}
theorem sliceApplied_rev {sl : Addr} {vl vu vs : Value} {n : Nat} {Q : Int × Int × Nat → Shared → Prop} (hs : s.heap.IsSliceOf sl vl vu vs) (pl : IsPart vl none) (pu : IsPart vu none) (ps : IsPart vs (some (-1)))
    (h : Q ((n : Int) - 1, -1, n) s) : wpAny (model prog w) A (Builtin.Slice.sliceApplied (.ref sl) (pure (n : Int))) Q E s := by
  obtain ⟨os, hos, hcs, hds⟩ := id hs
  unfold Builtin.Slice.sliceApplied Builtin.Slice.sliceFields
  refine wpAny_bind (wpAny_bind (wpAny_field hos hds (x := vl) rfl (wpAny_bind (wpAny_field hos hds (x := vu) rfl (wpAny_bind (wpAny_field hos hds (x := vs) rfl (wpAny_pure ?_)))))))
  refine wpAny_bind (slicePart_ ps ?_)
  show wpAny _ _ (if ((-1 : Int) == 0) = true then _ else _) _ _ s
  rw [if_neg (by decide)]
  refine wpAny_bind (slicePart_ pl (wpAny_bind (slicePart_ pu (wpAny_bind (wpAny_pure ?_)))))
  show wpAny _ _ (pure ((n : Int) - 1, (-1 : Int), Builtin.Slice.slicePlaces ((n : Int) - 1) (-1) (-1))) _ _ s
  have e : Builtin.Slice.slicePlaces ((n : Int) - 1) (-1) (-1) = n := by
    unfold Builtin.Slice.slicePlaces
    rw [if_neg (by decide)]
    by_cases c : (n : Int) - 1 > -1
    · rw [if_pos c, show (- -1 : Int) = 1 by decide, Int.ediv_one]
      omega
    · rw [if_neg c]
      omega
  rw [e]
  exact wpAny_pure h
theorem fm_congr {α β : Type} {f g : α → Option β} : ∀ {l : List α}, (∀ x ∈ l, f x = g x) → l.filterMap f = l.filterMap g
  | [], _ => rfl
  | x :: l, h => by
    rw [List.filterMap_cons, List.filterMap_cons, h x (List.mem_cons_self ..), fm_congr fun y hy => h y (List.mem_cons_of_mem _ hy)]
theorem pick_rev (xs : Array Value) : ((List.range xs.size).filterMap fun (m : Nat) => xs[(((xs.size : Int) - 1) + (m : Int) * (-1)).toNat]?).toArray = xs.toList.reverse.toArray := by
  have e : (List.range xs.size).filterMap (fun (m : Nat) => xs[(((xs.size : Int) - 1) + (m : Int) * (-1)).toNat]?) = ((List.range xs.size).map (fun k => xs.size - 1 - k)).filterMap (xs[·]?) := by
    rw [List.filterMap_map]
    refine fm_congr fun m hm => ?_
    have := List.mem_range.mp hm
    have e2 : (((xs.size : Int) - 1) + (m : Int) * (-1)).toNat = xs.size - 1 - m := by omega
    rw [e2]
    rfl
  rw [e, PySem.W.krv_range, List.filterMap_reverse, PySem.W.krv_all]
theorem getItem_tuple_rev {t sl : Addr} {items : Array Value} {vl vu vs : Value} {Q : Value → Shared → Prop} (ht : IsTup s.heap t items) (hs : s.heap.IsSliceOf sl vl vu vs) (pl : IsPart vl none) (pu : IsPart vu none) (ps : IsPart vs (some (-1)))
    (h : Q (.ref s.heap.objs.size) { s with heap := s.heap.push { cls := .type "tuple", data := .seq items.toList.reverse.toArray } })
    (hsz : items.size ≤ sizeLine) : wpAny (model prog w) A (getItem (.ref t) (.ref sl)) Q E s := by
  have htake : sizeOk (.seq items.toList.reverse.toArray) := by
    show items.toList.reverse.toArray.size ≤ sizeLine
    rw [List.size_toArray, List.length_reverse, Array.length_toList]
    exact hsz
  obtain ⟨os, hos, hcs, hds⟩ := id hs
  have hTs : s.TypeIs (.ref sl) "slice" := ⟨os, hos, hcs⟩
  unfold getItem
  try with_reducible refine wpAny_holding ?_
  first | refine wpAny_bind (wpAny_pure ?_) | skip
  refine wpAny_bind (wpAny_sequenceKey ht.typeIs (by decide) ?_)
  refine wpAny_bind (wpAny_callSpecial?_slot (name := Str.ofString "__getitem__") ht.typeIs PyProof.Rows.slot_tuple_getitem
    (wpAny_call_entry PyProof.Rows.slot_tuple_getitem ht.typeIs entry_tuple_getitem ?_ (args_tuple_getitem _ _)))
  show wpAny _ _ (Builtin.Tuple.tupleItemsOf (.ref t) >>= _) _ _ s
  refine wpAny_bind (tupleItemsOf_ ht ?_)
  refine wpAny_bind (wpAny_typeOf hTs ?_)
  rw [if_pos (by decide)]
  refine wpAny_bind (sliceApplied_rev hs pl pu ps ?_)
  show wpAny _ _ (if ((((items.size : Int) - 1) == 0 && (-1 : Int) == 1 && items.size == items.size) = true) then _ else _) _ _ s
  rw [if_neg (by rw [show ((-1 : Int) == 1) = false by decide, Bool.and_false, Bool.false_and]; exact Bool.false_ne_true), pick_rev]
  first
    | exact wpAny_bind (m := Builtin.Tuple.tupleExact _) (wpAny_newObj_type (wpAny_pure ⟨_, rfl, wpAny_pure h⟩) htake)
    | exact wpAny_bind (m := Builtin.Tuple.tupleExact _) (wpAny_newObj_type (wpAny_bind (wpAny_pure (wpAny_pure ⟨_, rfl, wpAny_pure h⟩))) htake)
    | exact wpAny_bind (wpAny_bind (m := Builtin.Tuple.tupleExact _) (wpAny_newObj_type (wpAny_pure (wpAny_pure ⟨_, rfl, wpAny_pure h⟩)) htake))
    | exact wpAny_bind (wpAny_bind (m := Builtin.Tuple.tupleExact _) (wpAny_newObj_type (wpAny_pure ⟨_, rfl, wpAny_pure h⟩) htake))
end
section
variable {X : Cx}
/-- t[::-1] of a tuple -/
def tRevT (K : PySem.W.Frag) (te : TE) : TE := fun σ H Q => te σ H fun x H1 => ∃ a xs, x = .ref a ∧ SqT K H1 a xs ∧ ∀ p, H1 p = none → Q (.ref p) (L2.upd H1 p (.tup xs.reverse))
theorem pe_revT {e : Expr} {te : TE} {k : Nat} {p1 p2 p3 pos : Pos} (he : PE X e te) : PE X (.Subscript e (.Slice none none (some (.UnaryOp .USub (.Constant (.int 1) k p1) p2)) p3) pos) (tRevT X.K te) := by
  refine ⟨fun pins s σ H Q I h => ?_⟩
  refine Subscript_ (thn (he.run pins s σ H _ I h) fun v s1 ⟨x, H1, I1, r1, q1⟩ => ?_)
  obtain ⟨a, xs, ex, hx, q⟩ := q1
  subst ex
  cases r1
  have hst : PO X (some (.UnaryOp .USub (.Constant (.int 1) k p1) p2)) (tPart (tUn (rU fun i => .int (-i)) (tC (.int 1)))) := po_some (pe_un un_neg pe_int)
  refine wpAny_Slice (thn (po_none.run pins s1 σ H1 (fun o H2 => o = none ∧ H2 = H1) I1 ⟨rfl, rfl⟩) fun vl s2 ⟨l, H2, I2, pl, el, e2⟩ => ?_)
  subst el e2
  refine thn (po_none.run pins s2 σ H2 (fun o H3 => o = none ∧ H3 = H2) I2 ⟨rfl, rfl⟩) fun vu s3 ⟨u, H3, I3, pu, eu, e3⟩ => ?_
  subst eu e3
  refine thn (hst.run pins s3 σ H3 (fun o H4 => o = some (-1) ∧ H4 = H3) I3 ⟨1, rfl, -1, rfl, rfl, rfl⟩) fun vs s4 ⟨o, H4, I4, ps, eo, e4⟩ => ?_
  subst eo e4
  have I5 : Inv X pins σ H4 { s4 with heap := s4.heap.push { cls := .type "slice", data := .fields #[vl, vu, vs] } } := I4.kept (t' := s4.toks) fun b ob q => Heap.get?_push_of_some _ q
  obtain ⟨its, r, ht, hz⟩ := I5.tuple hx
  have hlen := r.length
  show wpAny (model X.prog X.w) X.A (subscriptTail e (.Slice none none (some (.UnaryOp .USub (.Constant (.int 1) k p1) p2)) p3) (.ref a) (.ref s4.heap.objs.size)) (EP X pins σ Q) X.xe { s4 with heap := s4.heap.push { cls := .type "slice", data := .fields #[vl, vu, vs] } }
  refine tail_any (ops := [.ref a, .ref s4.heap.objs.size]) ht.typeIs (PyProof.Rows.slot_tuple_getitem.lookup) ?_ (by with_unfolding_all rfl)
  refine getItem_tuple_rev ht (Heap.IsSliceOf.new _ vl vu vs) pl pu ps ?_ (by rw [List.size_toArray]; omega)
  refine ⟨.ref _, _, I5.laid (t' := s4.toks) (o := .tup xs.reverse) (fun b ob q => Heap.get?_push_of_some _ q) (Nat.le_refl _) ?_, rfl, q _ (I5.hok.fresh (Nat.le_refl _))⟩
  exact ⟨by rw [List.length_reverse]; exact hz, _, r.reverse, IsTup.new _ _⟩
theorem keRevT (K : PySem.W.Frag) {e : Expr} {te : TE} {k : Nat} {p1 p2 p3 pos : Pos} (h : X.K = K) (he : PE X e te) : PE X (.Subscript e (.Slice none none (some (.UnaryOp .USub (.Constant (.int 1) k p1) p2)) p3) pos) (tRevT K te) := h ▸ pe_revT he
theorem keRevL (K : PySem.W.Frag) {e : Expr} {te : TE} {k : Nat} {p1 p2 p3 pos : Pos} (h : X.K = K) (he : PE X e te) : PE X (.Subscript e (.Slice none none (some (.UnaryOp .USub (.Constant (.int 1) k p1) p2)) p3) pos) (tRevL K te) := h ▸ pe_revL he
theorem g_revT {K : PySem.W.Frag} {te : TE} {σ : L2.St} {H : Hp} {Q : VK} (q : te σ H fun x H1 => ∃ a xs, x = .ref a ∧ SqT K H1 a xs ∧ ∀ p, H1 p = none → Q (.ref p) (L2.upd H1 p (.tup xs.reverse))) : tRevT K te σ H Q := q
theorem g_revL {K : PySem.W.Frag} {te : TE} {σ : L2.St} {H : Hp} {Q : VK} (q : te σ H fun x H1 => ∃ a xs, x = .ref a ∧ SqL K H1 a xs ∧ ∀ p, H1 p = none → Q (.ref p) (L2.upd H1 p (.lst xs.reverse))) : tRevL K te σ H Q := q
theorem g_iR3 {ta : TA} {σ : L2.St} {H : Hp} {R : It → Hp → Prop} (q : ta σ H fun vs H1 => ∃ (i j c : Int) (n : Nat), vs = [.int i, .int j, .int c] ∧ RgC i j c n ∧ R (Itc i c n) H1) : iRng3 ta σ H R := q
end
end Pf

--BODY
namespace Pf
open PySem PySem.Spec PyProof.Rows L2
theorem tuple_mulSame (l : Addr) (items : Array Value) (n : Nat) (dd : Option Addr) (sl : Array (Option Value)) (x : Int) (u : Tok) (c0 : (decide (x < -(2 ^ 63)) || decide (x ≥ 2 ^ 63)) = false) (c1 : (items.isEmpty || x == 1) = true) :
    Meets (Builtin.«tuple.__mul__» ⟨[.ref l, .int x u], []⟩) (fun _ R s => s.heap.get? l = some { cls := .type "tuple", dict := dd, data := .seq items n, slots := sl } ∧
      R (.ok (.ret (Value.ref l))) s) :=
  .of_wp fun prog w A R s h => by
    obtain ⟨hp, g, d, tk, os⟩ := s
    obtain ⟨hl, h⟩ := h
    have f1 := AutoSeq1.idx_int
    wp_walk using wpAny_loadPart' hl
    repeat (first
      | (refine wpAny_ite_false (decide_eq_false (by rw [c0]; exact Bool.false_ne_true)) ?_; wp_walk using wpAny_loadPart' hl)
      | (refine wpAny_ite_true (decide_eq_true c1) ?_; wp_walk using wpAny_loadPart' hl))
    exact ⟨_, rfl, h⟩
theorem tuple_mulZero (l : Addr) (items : Array Value) (n : Nat) (dd : Option Addr) (sl : Array (Option Value)) (x : Int) (u : Tok) (c0 : (decide (x < -(2 ^ 63)) || decide (x ≥ 2 ^ 63)) = false) (c1 : (items.isEmpty || x == 1) = false) (c2 : (decide (x ≤ 0) || items.isEmpty) = true) :
    Meets (Builtin.«tuple.__mul__» ⟨[.ref l, .int x u], []⟩) (fun _ R s => s.heap.get? l = some { cls := .type "tuple", dict := dd, data := .seq items n, slots := sl } ∧
      R (.ok (.ret (Value.ref s.heap.objs.size))) { s with heap := s.heap.push { cls := Value.type "tuple", data := Data.seq #[] }, toks := s.toks }) :=
  .of_wp fun prog w A R s h => by
    obtain ⟨hp, g, d, tk, os⟩ := s
    obtain ⟨hl, h⟩ := h
    have f1 := AutoSeq1.idx_int
    wp_walk using wpAny_loadPart' hl
    repeat (first
      | (refine wpAny_ite_false (decide_eq_false (by rw [c0]; exact Bool.false_ne_true)) ?_; wp_walk using wpAny_loadPart' hl)
      | (refine wpAny_ite_false (decide_eq_false (by rw [c1]; exact Bool.false_ne_true)) ?_; wp_walk using wpAny_loadPart' hl)
      | (refine wpAny_ite_true (decide_eq_true c2) ?_; wp_walk using wpAny_loadPart' hl))
    exact ⟨_, rfl, h⟩
/-- a tuple some times, any number -/
def rRepA (K : PySem.W.Frag) : R2 := fun x y H Q => ∃ l k xs, x = .ref l ∧ y = .int k ∧ SqT K H l xs ∧ 0 ≤ k ∧ k ≤ 1000 ∧ xs.length ≤ 1000 ∧ ∀ p H', Same H H' → SqT K H' p (List.replicate k.toNat xs).flatten → Q (.ref p) H'
theorem op_repA {X : Cx} : OpR X (binaryOp .Mult) (rRepA X.K) := by
  intro pins s σ H x y v u Q I rx ry h
  obtain ⟨l, k, xs, rfl, rfl, hT, h1, h2, hz, q⟩ := h
  by_cases hbig : xs ≠ [] ∧ 2 ≤ k
  · exact op_repT pins s σ H _ _ v u Q I rx ry ⟨l, k, xs, rfl, rfl, hT, hbig.1, hbig.2, h2, hz, fun p np => q p _ (same_new np) SqT.new⟩
  cases rx
  obtain ⟨t, rfl⟩ := ry
  obtain ⟨its, r, ⟨⟨cls, dd, data, sl⟩, ho, hc, n, hd⟩, hs⟩ := I.tuple hT
  simp only at hc hd
  subst hc hd
  have hle : its.length = xs.length := r.length.symm
  have c0 : (decide (k < -(2 ^ 63)) || decide (k ≥ 2 ^ 63)) = false := by
    rw [decide_eq_false (by omega), decide_eq_false (by omega)] <;> rfl
  by_cases hs1 : xs = [] ∨ k = 1
  · have c1 : (its.toArray.isEmpty || k == 1) = true := by
      rcases hs1 with e | e
      · have : its = [] := List.eq_nil_of_length_eq_zero (by rw [hle, e]; rfl)
        rw [this]
        rfl
      · rw [e]
        exact Bool.or_true _
    refine wpAny_binaryOp_repeat_ref (T := "tuple") (U := "int") (by decide) ⟨_, ho, rfl⟩ (fun s' => typeIs_int s' k t) noFill_tuple_mul F.fills_int_mul F.slot_int_rmul repeat_tuple F.slot_int_index.lookup
      (call_meets F.slot_int_rmul (typeIs_int s k t) F.entry_int_rmul (F.args_int_rmul_2 _ _) (int_rmul_tuple k t l its.toArray n dd sl)
        ⟨ho, rfl, ⟨_, ho, rfl⟩, call_meets F.slot_tuple_mul ⟨_, ho, rfl⟩ F.entry_tuple_mul (F.args_tuple_mul_2 _ _) (tuple_mulSame l its.toArray n dd sl k t c0 c1) ⟨ho, ?_⟩⟩)
    have e : (List.replicate k.toNat xs).flatten = xs := by
      rcases hs1 with e | e
      · rw [e]
        exact List.flatten_eq_nil_iff.mpr fun z hz => (List.mem_replicate.mp hz).2
      · rw [e]
        show (List.replicate 1 xs).flatten = xs
        rw [List.replicate_one, List.flatten_singleton]
    refine ⟨.ref l, H, I, rfl, q l H (Same.refl H) (by rw [e]; exact hT)⟩
  · have hne : xs ≠ [] := fun e => hs1 (.inl e)
    have hk1 : k ≠ 1 := fun e => hs1 (.inr e)
    have hk0 : k = 0 := by
      by_cases c : 2 ≤ k
      · exact absurd ⟨hne, c⟩ hbig
      · omega
    have hi : its.toArray.isEmpty = false := by
      cases its with
      | nil => exact absurd (List.eq_nil_of_length_eq_zero (by rw [← hle]; rfl)) hne
      | cons a b => rfl
    have c1 : (its.toArray.isEmpty || k == 1) = false := by
      rw [hi, Bool.false_or]
      exact beq_eq_false_iff_ne.mpr hk1
    have c2 : (decide (k ≤ 0) || its.toArray.isEmpty) = true := by
      rw [decide_eq_true (by omega)]
      rfl
    refine wpAny_binaryOp_repeat_ref (T := "tuple") (U := "int") (by decide) ⟨_, ho, rfl⟩ (fun s' => typeIs_int s' k t) noFill_tuple_mul F.fills_int_mul F.slot_int_rmul repeat_tuple F.slot_int_index.lookup
      (call_meets F.slot_int_rmul (typeIs_int s k t) F.entry_int_rmul (F.args_int_rmul_2 _ _) (int_rmul_tuple k t l its.toArray n dd sl)
        ⟨ho, rfl, ⟨_, ho, rfl⟩, call_meets F.slot_tuple_mul ⟨_, ho, rfl⟩ F.entry_tuple_mul (F.args_tuple_mul_2 _ _) (tuple_mulZero l its.toArray n dd sl k t c0 c1 c2) ⟨ho, ?_⟩⟩)
    refine ⟨.ref s.heap.objs.size, _, I.laid (t' := s.toks) (o := .tup []) (fun b ob q => Heap.get?_push_of_some _ q) (Nat.le_refl _) ?_, rfl, q _ _ (same_new (I.hok.fresh (Nat.le_refl _))) ?_⟩
    · exact ⟨Nat.zero_le _, [], .nil, IsTup.new _ _⟩
    · rw [hk0]
      exact SqT.new
theorem kRepA {X : Cx} (K : PySem.W.Frag) (h : X.K = K) : OpR X (binaryOp .Mult) (rRepA K) := kO K (r := rRepA) h op_repA
end Pf

namespace Pf
open PySem PySem.Spec PyProof.Rows L2
/-! ### len(set(t)) of a tuple of whole numbers -/
def tLenSetT (K : PySem.W.Frag) (ta : TE) : TE := fun σ H Q => ta σ H fun x H1 => ∃ (l : Addr) (ns : List Int), x = .ref l ∧ SqT K H1 l (ns.map V.int) ∧ ns.length ≤ 1000 ∧ ∀ out : List Int, out.Nodup → (∀ k, k ∈ out ↔ k ∈ ns) → Q (.int (out.length : Nat)) H1
theorem pe_lenSetT {X : Cx} {a : Expr} {ta : TE} {p p2 q pos : Pos} (hc : X.calm = true) (hg : Gl X "len") (hm : X.mg "len" = none) (hg2 : Gl X "set") (hm2 : X.mg "set" = none) (ha : PE X a ta)
    (na : starEach [a] X.env = (false, eval a X.env) :: starEach [] X.env := by rfl) : PE X (.Call (.Name "len" p) [.Call (.Name "set" p2) [a] [] q] [] pos) (tLenSetT X.K ta) := by
  refine ⟨fun pins s σ H Q I h => ?_⟩
  refine Call_ (ld_blt I hg hm boot_len ?_)
  refine PyProof.Rows.callWith_builtin1 (PyProof.Rows.args_cons ?_ rfl) rfl rfl
  refine Call_ (ld_blt I hg2 hm2 boot_set ?_)
  refine PyProof.Rows.callWith_type1 (PyProof.Rows.args_cons (thn (ha.run pins s σ H _ I h) fun v s1 ⟨x, H1, I1, r1, q1⟩ => PyProof.Rows.args_nil ?_) na) na rfl
  obtain ⟨l, ns, rfl, hq, hl, q1⟩ := q1
  cases r1
  obtain ⟨its, rv, pt, hz⟩ := I1.tuple hq
  have hi : IntsAre its.toArray.toList ns := ints_of_vals rv
  refine call_set_tupI ns (I1.ok.hd hc) (show s1.heap.IsTuple l its.toArray from pt) hi (by unfold scanBound; omega) fun h' tk c R1 hcn k => ?_
  refine PyProof.Rows.args_nil ?_
  obtain ⟨o, es, ep, t, ho, hex, hdt, g, nd, hm2, hb, hf, hn, hr, hl2⟩ := R1
  have I2 : Inv X pins σ H1 { s1 with heap := h', toks := tk } := I1.kept fun b o e => k b o e
  have hlen : (es.toList.map keyOf).length = es.size := by rw [List.length_map, Array.length_toList]
  have q2 := q1 (es.toList.map keyOf) nd fun j => by rw [← hm2 j, decide_eq_true_eq]
  rw [hlen] at q2
  have hsz : es.size ≤ ns.length := by
    have hsub : ∀ j ∈ es.toList.map keyOf, j ∈ ns := fun j hj => by
      have := (hm2 j).mpr hj
      simpa using this
    rw [← hlen]
    exact List.Nodup.length_le_of_subset nd hsub
  exact call_len_set ho hex hdt hf (by omega) ⟨.int es.size, H1, I2.tok _, ⟨_, rfl⟩, q2⟩
theorem keLenSetT {X : Cx} (K : PySem.W.Frag) {a : Expr} {ta : TE} {p p2 q pos : Pos} (h : X.K = K) (hc : X.calm = true) (hg : Gl X "len") (hm : X.mg "len" = none) (hg2 : Gl X "set") (hm2 : X.mg "set" = none) (ha : PE X a ta)
    (na : starEach [a] X.env = (false, eval a X.env) :: starEach [] X.env := by rfl) : PE X (.Call (.Name "len" p) [.Call (.Name "set" p2) [a] [] q] [] pos) (tLenSetT K ta) := h ▸ pe_lenSetT hc hg hm hg2 hm2 ha na
theorem g_lenSetT {K : PySem.W.Frag} {ta : TE} {σ : L2.St} {H : Hp} {Q : VK} (q : ta σ H fun x H1 => ∃ (l : Addr) (ns : List Int), x = .ref l ∧ SqT K H1 l (ns.map V.int) ∧ ns.length ≤ 1000 ∧ ∀ out : List Int, out.Nodup → (∀ k, k ∈ out ↔ k ∈ ns) → Q (.int (out.length : Nat)) H1) : tLenSetT K ta σ H Q := q
end Pf

namespace Pf
open PySem PySem.Spec PyProof.Rows L2
/-! ### sorted(set(t)) of a tuple of whole numbers -/
def tSortSet (K : PySem.W.Frag) (ta : TE) : TE := fun σ H Q => ta σ H fun x H1 => ∃ (l : Addr) (ns : List Int), x = .ref l ∧ SqT K H1 l (ns.map V.int) ∧ ns.length < 60 ∧
  ∀ (out : List Int) (p : Addr), out.Pairwise (· < ·) → (∀ k, k ∈ out ↔ k ∈ ns) → H1 p = none → Q (.ref p) (upd H1 p (.lst (out.map V.int)))
theorem pe_sortSet {X : Cx} {a : Expr} {ta : TE} {p p2 q pos : Pos} (hc : X.calm = true) (hg : Gl X "sorted") (hm : X.mg "sorted" = none) (hg2 : Gl X "set") (hm2 : X.mg "set" = none) (ha : PE X a ta)
    (na : starEach [a] X.env = (false, eval a X.env) :: starEach [] X.env := by rfl) : PE X (.Call (.Name "sorted" p) [.Call (.Name "set" p2) [a] [] q] [] pos) (tSortSet X.K ta) := by
  refine ⟨fun pins s σ H Q I h => ?_⟩
  refine Call_ (ld_blt I hg hm boot_sorted ?_)
  refine PyProof.Rows.callWith_builtin1 (PyProof.Rows.args_cons ?_ rfl) rfl rfl
  refine Call_ (ld_blt I hg2 hm2 boot_set ?_)
  refine PyProof.Rows.callWith_type1 (PyProof.Rows.args_cons (thn (ha.run pins s σ H _ I h) fun v s1 ⟨x, H1, I1, r1, q1⟩ => PyProof.Rows.args_nil ?_) na) na rfl
  obtain ⟨l, ns, rfl, hq, hl, q1⟩ := q1
  cases r1
  obtain ⟨its, rv, pt, hz⟩ := I1.tuple hq
  have hi : IntsAre its.toArray.toList ns := ints_of_vals rv
  refine call_set_tupI ns (I1.ok.hd hc) (show s1.heap.IsTuple l its.toArray from pt) hi (by unfold scanBound; omega) fun h' tk c R1 hcn k => ?_
  refine PyProof.Rows.args_nil ?_
  have I2 : Inv X pins σ H1 { s1 with heap := h', toks := tk } := I1.kept fun b o e => k b o e
  have R2 : SetR X.w ({ s1 with heap := h', toks := tk } : Shared).heap s1.heap.objs.size (fun j => decide (j ∈ ns)) c := R1
  generalize ({ s1 with heap := h', toks := tk } : Shared) = s2 at I2 R2 ⊢
  refine sorted_set R2 (I2.ok.hd hc) (by omega) fun s' p out c2 ns' k2 g o hp hg3 hi2 hs hm3 hl2 => ?_
  have hlen : (ns'.map V.int).length ≤ sizeLine := by rw [List.length_map, hl2, sizeLine_eq]; omega
  have hn : H1 p = none := I2.hok.fresh hp
  have J : Inv X pins σ (upd H1 p (.lst (ns'.map V.int))) { s2 with heap := s'.heap, gens := s'.gens, drawn := s'.drawn, toks := s'.toks } :=
    I2.call (ch := []) (Un.laid k2 hp hn) (I2.hok.laid k2 hp ⟨hlen, out.toList, c2, vals_of_ints hi2, hg3⟩) (by rw [g]; exact I2.bare) (fun _ z => nomatch z)
  have e : s' = { s2 with heap := s'.heap, gens := s'.gens, drawn := s'.drawn, toks := s'.toks } := by
    cases s'
    cases s2
    cases o
    rfl
  rw [e]
  exact ⟨.ref p, _, J, rfl, q1 ns' p hs (fun j => by rw [hm3 j, decide_eq_true_eq]) hn⟩
theorem keSortSet {X : Cx} (K : PySem.W.Frag) {a : Expr} {ta : TE} {p p2 q pos : Pos} (h : X.K = K) (hc : X.calm = true) (hg : Gl X "sorted") (hm : X.mg "sorted" = none) (hg2 : Gl X "set") (hm2 : X.mg "set" = none) (ha : PE X a ta)
    (na : starEach [a] X.env = (false, eval a X.env) :: starEach [] X.env := by rfl) : PE X (.Call (.Name "sorted" p) [.Call (.Name "set" p2) [a] [] q] [] pos) (tSortSet K ta) := h ▸ pe_sortSet hc hg hm hg2 hm2 ha na
theorem g_sortSet {K : PySem.W.Frag} {ta : TE} {σ : L2.St} {H : Hp} {Q : VK} (q : ta σ H fun x H1 => ∃ (l : Addr) (ns : List Int), x = .ref l ∧ SqT K H1 l (ns.map V.int) ∧ ns.length < 60 ∧ ∀ (out : List Int) (p : Addr), out.Pairwise (· < ·) → (∀ k, k ∈ out ↔ k ∈ ns) → H1 p = none → Q (.ref p) (upd H1 p (.lst (out.map V.int)))) : tSortSet K ta σ H Q := q
def tTruth (K : PySem.W.Frag) (ta : TE) : TT := fun σ H Q => ta σ H fun x H' => ∃ k, TruV K x H' k ∧ Q k H'
theorem kTruth {X : Cx} (K : PySem.W.Frag) {a : Expr} {ta : TE} (h : X.K = K) (ha : PE X a ta) (he : ∀ whole, isTrue a X.env whole = (do let v ← whole; standAt a.pos; holding [v] (truthy v))) : PT X a (tTruth K ta) := h ▸ pt_truth ha he
theorem g_truth {K : PySem.W.Frag} {ta : TE} {σ : L2.St} {H : Hp} {Q : Bool → Hp → Prop} (q : ta σ H fun x H' => ∃ k, TruV K x H' k ∧ Q k H') : tTruth K ta σ H Q := q
end Pf

namespace Pf
open PySem PySem.Spec PyProof.Rows L2
/-! ### list(range(a, b, c)) -/
def rg3 (i k : Int) (n : Nat) : List Int := (List.range n).map fun (m : Nat) => i + (m : Int) * k
def tLstRg3 (ta : TA) : TE := fun σ H Q => ta σ H fun vs H1 => ∃ (i j k : Int) (n : Nat), vs = [.int i, .int j, .int k] ∧ RgC i j k n ∧ n ≤ 1000 ∧ ∀ q, H1 q = none → Q (.ref q) (upd H1 q (.lst ((rg3 i k n).map V.int)))
theorem vals_rg3 {i k : Int} {n : Nat} {acc : Array Value} (h : ItemsOf (fun m v => ∃ t, v = .int (i + m * k) t) acc n) : Vals ((rg3 i k n).map V.int) acc.toList := by
  have e : acc.toList.length = n := by rw [Array.length_toList]; exact h.1
  unfold rg3
  rw [← e, List.map_map]
  refine vals_of_get acc.toList _ fun j u hj => ?_
  obtain ⟨t, rfl⟩ := h.2 j u (by rw [← hj, Array.getElem?_toList])
  exact ⟨t, rfl⟩
theorem pe_listRg3 {X : Cx} {a b c : Expr} {ta : TA} {p p2 pos pos2 : Pos} (hcalm : X.calm = true) (hg : Gl X "list") (hm : X.mg "list" = none) (hg2 : Gl X "range") (hm2 : X.mg "range" = none) (ha : PA X [a, b, c] ta)
    (hs : starEach [a, b, c] X.env = (false, eval a X.env) :: starEach [b, c] X.env := by rfl) (hpl : (backTo pos2 (starEach [b, c] X.env)).any (·.1) = false := by rfl)
    (na : starEach [Expr.Call (.Name "range" p2) [a, b, c] [] pos2] X.env = (false, eval (Expr.Call (.Name "range" p2) [a, b, c] [] pos2) X.env) :: starEach [] X.env := by rfl) :
    PE X (.Call (.Name "list" p) [.Call (.Name "range" p2) [a, b, c] [] pos2] [] pos) (tLstRg3 ta) := by
  refine ⟨fun pins s σ H Q I h => ?_⟩
  refine Call_ (ld_blt I hg hm boot_list (PyProof.Rows.callWith_type1 (PyProof.Rows.args_cons (thn (Q := fun x s' => ∃ r i j k n t u v H', x = .ref r ∧ IsRange s'.heap r i j k t u v ∧ RgC i j k n ∧ n ≤ 1000 ∧ Inv X pins σ H' s' ∧ ∀ q, H' q = none → Q (.ref q) (upd H' q (.lst ((rg3 i k n).map V.int)))) ?_ fun x s1 ⟨r, i, j, k, n, t, u, v, H1, ex, hr, ⟨c0, c1, c2, c3⟩, hn, I1, q⟩ => PyProof.Rows.args_nil ?_) na) na))
  · refine Call_ (ld_blt I hg2 hm2 boot_range (PyProof.Rows.callWith_type1 (thn (ha.run pos2 pins s σ H _ I h) fun us s1 ⟨vs, H1, I1, r1, q1⟩ => ?_) hs hpl))
    obtain ⟨i, j, k, n, e, ⟨c0, c1, c2, c3⟩, hn, q⟩ := q1
    subst e
    cases r1 with
    | cons r rr =>
      cases rr with
      | cons r' rr =>
        cases rr with
        | cons r'' rr =>
          cases rr
          obtain ⟨t, rfl⟩ := r
          obtain ⟨t', rfl⟩ := r'
          obtain ⟨t'', rfl⟩ := r''
          refine call_range_3 c0 ⟨_, i, j, k, n, _, _, _, H1, rfl, IsRange.new _ _ _ _ _ _ _, ⟨c0, c1, c2, c3⟩, hn, I1.kept (t' := s1.toks) fun b o e => Heap.get?_push_of_some _ e, q⟩ (.inl (PyProof.noPylong_small c1))
  · subst ex
    refine call_list_range (n := n) (I1.ok.hd hcalm) hr c2 c3 (Nat.le_trans hn (by decide)) fun h' tk acc c' hk e' hi => ?_
    refine ⟨.ref s1.heap.objs.size, upd H1 s1.heap.objs.size (.lst ((rg3 i k n).map V.int)), I1.laid hk (Nat.le_refl _) (show ObjOk X.prog X.w _ _ _ (.lst ((rg3 i k n).map V.int)) from ⟨?_, acc.toList, c', vals_rg3 hi, ?_⟩), rfl, q _ (I1.hok.fresh (Nat.le_refl _))⟩
    · unfold rg3
      rw [List.length_map, List.length_map, List.length_range, sizeLine_eq]
      omega
    · rw [Array.toArray_toList]; exact e'
theorem g_listRg3 {ta : TA} {σ : L2.St} {H : Hp} {Q : VK} (q : ta σ H fun vs H1 => ∃ (i j k : Int) (n : Nat), vs = [.int i, .int j, .int k] ∧ RgC i j k n ∧ n ≤ 1000 ∧ ∀ q, H1 q = none → Q (.ref q) (upd H1 q (.lst ((rg3 i k n).map V.int)))) : tLstRg3 ta σ H Q := q
theorem walk_rngC {lo c : Int} {n : Nat} : Walk (Itc lo c n) n (fun _ => True) (fun i H x H' => H' = H ∧ x = .int (lo + ((i : Nat) : Int) * c)) where
  goes := fun i H hi _ => hi
  stops := fun H _ => Nat.le_refl n
  yields := fun i H x H' _ _ h => h
theorem rgC_down {i j : Int} (hi : -1 ≤ i) (hi2 : i ≤ 1000) (hj : -1 ≤ j) (hj2 : j ≤ 1000) : RgC i j (-1) (i - j).toNat := RgC.neg (by omega) (by omega) (by omega) (by omega)
theorem g_rg2 {ta tb : TE} {σ : L2.St} {H : Hp} {Q : Int → Int → Hp → Prop} (q : ta σ H fun x H1 => tb σ H1 fun y H2 => ∃ i j, x = .int i ∧ y = .int j ∧ Q i j H2) : tRg2 ta tb σ H Q := q
end Pf

namespace Pf
open PySem PySem.Spec PyProof.Rows L2
/-! ### set(l) of a list of whole numbers, with its order, and sorted of it -/
section
variable {P : Program} {w : World} {A : Around} {E : Value → Shared → Prop} {s : Shared}
abbrev freshSet (w : World) : Obj := { cls := .type "set", dict := none, data := .set #[] 0 (.fresh 0 0 (!w.params.followText "set-order")) }
/-- a list of ints, given to the fresh set at the heap's end -/
theorem fill_by_list {l : Addr} {items : Array Value} {ns : List Int} (hh : A.in1.handled = none) (hl : s.heap.IsList l items) (hit : IntsAre items.toList ns) (hb : ns.length + 1 < scanBound)
    {R : Result → Shared → Prop}
    (h : ∀ (h' : Heap) (tk c : Nat), SetR w h' s.heap.objs.size (fun j => decide (j ∈ ns)) c → c ≤ ns.length → (∀ b o, s.heap.get? b = some o → h'.get? b = some o) → R (.ok (.ret .none)) { s with heap := h', toks := tk }) :
    codeAny (model P w) A (.builtin "set.update.loop" ⟨[.ref s.heap.objs.size, .ref (s.heap.push (freshSet w)).objs.size], []⟩) R { s with heap := (s.heap.push (freshSet w)).push { cls := .type "list_iterator", data := .fields #[.ref l, .int 0 0] } } := by
  have hsz : items.size = ns.length := (Array.length_toList ..).symm.trans (IntsAre.length hit)
  have hz : (s.heap.push (freshSet w)).objs.size = s.heap.objs.size + 1 := Heap.size_push ..
  have hlS : l < s.heap.objs.size := by
    obtain ⟨o, e, _⟩ := hl
    exact Heap.lt_size e
  have hne : l ≠ (s.heap.push (freshSet w)).objs.size := by
    rw [hz]
    exact Nat.ne_of_lt (Nat.lt_succ_of_lt hlS)
  have hfar : s.heap.objs.size ∉ [(s.heap.push (freshSet w)).objs.size, l] := by
    rw [hz]
    simp only [List.mem_cons, List.not_mem_nil, or_false, not_or]
    exact ⟨Nat.ne_of_lt (Nat.lt_succ_self _), Nat.ne_of_gt hlS⟩
  refine set_update_ints ((Walks.list hh _ l hne items).toS) s.heap.objs.size hfar ns hsz hb (fun i v hv => ?_) items.size 0 _ rfl (Nat.zero_le _) ⟨⟨_, Heap.get?_push_size _ rfl, rfl, rfl⟩, Heap.IsList.push (Heap.IsList.push hl _) _⟩ ⟨0, Nat.le_refl 0, setR_new_at (Heap.get?_push_of_some _ (Heap.get?_push_size _ rfl))⟩ (fun s' c hm hc hS => ?_)
  · have hi : i < ns.length := by rw [← hsz]; exact (Array.getElem?_eq_some_iff.mp hv).1
    obtain ⟨t, e⟩ := IntsAre.int_at hit i v (by rw [Array.getElem?_toList]; exact hv)
    refine ⟨ns[i], t, List.getElem?_eq_getElem hi, ?_⟩
    rw [e, List.getD_eq_getElem?_getD, List.getElem?_eq_getElem hi]
    rfl
  · obtain ⟨h', g, d, tk, os⟩ := s'
    obtain rfl : g = s.gens := hm.gens
    obtain rfl : d = s.drawn := hm.drawn
    obtain rfl : os = s.os := hm.os
    refine h h' tk c hS (hsz ▸ hc) fun b o e => ?_
    have hb0 : b < s.heap.objs.size := Heap.lt_size e
    refine hm.heap b o ?_ (Heap.get?_push_of_some _ (Heap.get?_push_of_some _ e))
    rw [hz]
    simp only [List.mem_cons, List.not_mem_nil, or_false, not_or]
    exact ⟨Nat.ne_of_lt hb0, Nat.ne_of_lt (Nat.lt_succ_of_lt hb0)⟩
set_option maxHeartbeats 3200000 in
theorem set_by_list {l : Addr} {items : Array Value} (ns : List Int) {Q : Value → Shared → Prop} (hh : A.handled = none) (hl : s.heap.IsList l items) (hit : IntsAre items.toList ns) (hb : ns.length + 1 < scanBound)
    (h : ∀ (h' : Heap) (tk c : Nat), SetR w h' s.heap.objs.size (fun j => decide (j ∈ ns)) c → c ≤ ns.length → (∀ b o, s.heap.get? b = some o → h'.get? b = some o) → Q (.ref s.heap.objs.size) { s with heap := h', toks := tk }) :
    wpAny (model P w) A (call (.type "set") [.ref l]) Q E s := by
  have hmro := PySem.F.called_set.mro
  obtain ⟨_, _, hmro⟩ := hmro
  have hmade := PySem.F.called_set.made
  have hsub := PySem.F.called_set.sub
  have hn := PySem.F.called_set.notType
  have hcc := PySem.F.called_set.canCreate
  have hct := PySem.F.typeCall_set_1 (.ref l)
  refine wpAny_call (codeAny_of_tree ?_)
  show wpAny _ _ (callAny (.type "set") _) _ _ _
  refine wpAny_pure ⟨Code.quiet_builtin _ (by decide +kernel), codeAny_builtin PySem.F.entry_type_call ?_⟩
  rw [Around.under_plain (weight_type_call_type "set" [.ref l] []) rfl]
  repeat (any_goals (first | assumption | wp_step))
  refine codeAny_mono (code_set_led1 (.ref l) (E := E) (Q₁ := fun obj s1 => obj = .ref s.heap.objs.size ∧ s1 = { s with heap := s.heap.push (freshSet w) }) ⟨rfl, rfl⟩) fun r s1 hr => ?_
  match r, hr with
  | .error e, hr => exact hr
  | .ok (.ret obj), hr =>
    obtain ⟨rfl, rfl⟩ := hr
    have hS : (s.heap.push (freshSet w)).get? s.heap.objs.size = some (freshSet w) := Heap.get?_push_size _ rfl
    have hT : Shared.TypeIs { s with heap := s.heap.push (freshSet w) } (.ref s.heap.objs.size) "set" := ⟨_, hS, rfl⟩
    have hli := PySem.F.called_set.init.lookup
    have hbi := PySem.F.called_set.init.bind (.ref s.heap.objs.size)
    repeat (any_goals (first | assumption | wp_step))
    refine codeAny_mono (codeAny_call_builtin (R := wants (fun v s2 => v = .none ∧ ∃ h' tk c, s2 = { s with heap := h', toks := tk } ∧ SetR w h' s.heap.objs.size (fun j => decide (j ∈ ns)) c ∧ c ≤ ns.length ∧ (∀ b o, s.heap.get? b = some o → h'.get? b = some o)) E) PySem.F.called_set.init.plain PySem.F.entry_set_init (check_set_init_1 hT ?_)) fun r2 s2 hr2 => ?_
    · have hl1 : (s.heap.push (freshSet w)).IsList l items := Heap.IsList.push hl _
      have hl' := hl
      obtain ⟨⟨oc, od, oda, osl⟩, ho, hcl, nl, hda⟩ := hl'
      simp only at hcl hda
      subst hcl
      subst hda
      have ho' := Heap.get?_push_of_some (freshSet w) ho
      have k1 := PySem.F.sub_list_set
      have k2 := PySem.F.sub_list_frozenset
      have k3 : (Value.type "list" == Value.type "dict") = false := by decide
      unfold Builtin.«set.__init__» noKeywords Builtin.Frozenset.updateFrom
      generalize hPI : pyIter = PI
      wp_walk
      subst hPI
      refine wpAny_pyIter_list hl1 ?_
      refine wpAny_bind (wpAny_runValue ?_)
      refine fill_by_list (by simp [hh]) hl hit hb fun h' tk c q1 q2 q3 => ?_
      show wpAny _ _ _ _ _ _
      refine wpAny_pure ?_
      show wpAny _ _ (ret Value.none) _ _ _
      exact wpAny_pure ⟨rfl, h', tk, c, rfl, q1, q2, q3⟩
    · match r2, hr2 with
      | .error e, hr2 => exact hr2
      | .ok (.ret v), hr2 =>
        obtain ⟨rfl, h', tk, c, rfl, q1, q2, q3⟩ := hr2
        repeat (any_goals (first | assumption | wp_step))
        exact h _ _ _ q1 q2 q3
end
def tSortSetL (K : PySem.W.Frag) (ta : TE) : TE := fun σ H Q => ta σ H fun x H1 => ∃ (l : Addr) (ns : List Int), x = .ref l ∧ SqL K H1 l (ns.map V.int) ∧ ns.length < 60 ∧
  ∀ (out : List Int) (p : Addr), out.Pairwise (· < ·) → (∀ k, k ∈ out ↔ k ∈ ns) → H1 p = none → Q (.ref p) (upd H1 p (.lst (out.map V.int)))
theorem pe_sortSetL {X : Cx} {a : Expr} {ta : TE} {p p2 q pos : Pos} (hc : X.calm = true) (hg : Gl X "sorted") (hm : X.mg "sorted" = none) (hg2 : Gl X "set") (hm2 : X.mg "set" = none) (ha : PE X a ta)
    (na : starEach [a] X.env = (false, eval a X.env) :: starEach [] X.env := by rfl) : PE X (.Call (.Name "sorted" p) [.Call (.Name "set" p2) [a] [] q] [] pos) (tSortSetL X.K ta) := by
  refine ⟨fun pins s σ H Q I h => ?_⟩
  refine Call_ (ld_blt I hg hm boot_sorted ?_)
  refine PyProof.Rows.callWith_builtin1 (PyProof.Rows.args_cons ?_ rfl) rfl rfl
  refine Call_ (ld_blt I hg2 hm2 boot_set ?_)
  refine PyProof.Rows.callWith_type1 (PyProof.Rows.args_cons (thn (ha.run pins s σ H _ I h) fun v s1 ⟨x, H1, I1, r1, q1⟩ => PyProof.Rows.args_nil ?_) na) na rfl
  obtain ⟨l, ns, rfl, hq, hl, q1⟩ := q1
  cases r1
  obtain ⟨its, rv, pt, hz⟩ := I1.list hq
  have hi : IntsAre its.toArray.toList ns := ints_of_vals rv
  refine set_by_list ns (I1.ok.hd hc) pt.isList hi (by unfold scanBound; omega) fun h' tk c R1 hcn k => ?_
  refine PyProof.Rows.args_nil ?_
  have I2 : Inv X pins σ H1 { s1 with heap := h', toks := tk } := I1.kept fun b o e => k b o e
  have R2 : SetR X.w ({ s1 with heap := h', toks := tk } : Shared).heap s1.heap.objs.size (fun j => decide (j ∈ ns)) c := R1
  generalize ({ s1 with heap := h', toks := tk } : Shared) = s2 at I2 R2 ⊢
  refine sorted_set R2 (I2.ok.hd hc) (by omega) fun s' p out c2 ns' k2 g o hp hg3 hi2 hs hm3 hl2 => ?_
  have hlen : (ns'.map V.int).length ≤ sizeLine := by rw [List.length_map, hl2, sizeLine_eq]; omega
  have hn : H1 p = none := I2.hok.fresh hp
  have J : Inv X pins σ (upd H1 p (.lst (ns'.map V.int))) { s2 with heap := s'.heap, gens := s'.gens, drawn := s'.drawn, toks := s'.toks } :=
    I2.call (ch := []) (Un.laid k2 hp hn) (I2.hok.laid k2 hp ⟨hlen, out.toList, c2, vals_of_ints hi2, hg3⟩) (by rw [g]; exact I2.bare) (fun _ z => nomatch z)
  have e : s' = { s2 with heap := s'.heap, gens := s'.gens, drawn := s'.drawn, toks := s'.toks } := by
    cases s'
    cases s2
    cases o
    rfl
  rw [e]
  exact ⟨.ref p, _, J, rfl, q1 ns' p hs (fun j => by rw [hm3 j, decide_eq_true_eq]) hn⟩
theorem keSortSetL {X : Cx} (K : PySem.W.Frag) {a : Expr} {ta : TE} {p p2 q pos : Pos} (h : X.K = K) (hc : X.calm = true) (hg : Gl X "sorted") (hm : X.mg "sorted" = none) (hg2 : Gl X "set") (hm2 : X.mg "set" = none) (ha : PE X a ta)
    (na : starEach [a] X.env = (false, eval a X.env) :: starEach [] X.env := by rfl) : PE X (.Call (.Name "sorted" p) [.Call (.Name "set" p2) [a] [] q] [] pos) (tSortSetL K ta) := h ▸ pe_sortSetL hc hg hm hg2 hm2 ha na
theorem g_sortSetL {K : PySem.W.Frag} {ta : TE} {σ : L2.St} {H : Hp} {Q : VK} (q : ta σ H fun x H1 => ∃ (l : Addr) (ns : List Int), x = .ref l ∧ SqL K H1 l (ns.map V.int) ∧ ns.length < 60 ∧ ∀ (out : List Int) (p : Addr), out.Pairwise (· < ·) → (∀ k, k ∈ out ↔ k ∈ ns) → H1 p = none → Q (.ref p) (upd H1 p (.lst (out.map V.int)))) : tSortSetL K ta σ H Q := q
end Pf

namespace Pf
open PySem PySem.Spec PyProof.Rows L2
/-! ### own errors whose __init__(self) keeps nothing, and hands on to that of an own class above -/
/-- S.__init__, read off an own class, is ValueError's -/
structure SInit (K : PySem.W.Frag) (S : Addr) : Prop where
  rd : PySem.W.readsIn K S (.type "type") = true
  ga : PySem.W.specialIn K (.ref S) "__getattribute__" = some (some (.builtin "type.__getattribute__"))
  vI : PySem.W.findCls K (.ref S) (.type "type") "__init__" = some (.val (.builtin "ValueError.__init__"))
section
variable {X : Cx} {o e : Expr} {es : List Expr} {ta : TA} {x : Str} {S : Addr} {p p1 p2 pos : Pos}
theorem pe_sinit {pl : Sem Bool} (hg : Gl X x) (hm : X.mg x = some (.ref S)) (T : SInit X.K S) (ha : PA X (e :: es) ta)
    (hdb : (x == ("__debug__" : Str)) = false := by decide)
    (hc : eval (.Call (.Attribute (.Name x p1) "__init__" p2) (e :: es) [] pos) X.env = (do
      let ov ← eval (.Name x p1) X.env
      standAt p2.atName
      let (f, first) ← holding [ov] (getMethod ov "__init__" pl)
      callWith pos f first (backTo pos (starEach (e :: es) X.env)) (backToKw pos (keywordEach [] X.env))) := by rfl)
    (he : starEach (e :: es) X.env = (false, eval e X.env) :: starEach es X.env := by rfl) (hpl : (backTo pos (starEach es X.env)).any (·.1) = false := by rfl) :
    PE X (.Call (.Attribute (.Name x p1) "__init__" p2) (e :: es) [] pos) (tVeI X.K ta) := by
  refine ⟨fun pins s σ H Q I h => ?_⟩
  refine PySem.W.methodCall_KW (ld_glob I hg hm ?_ hdb) hc
  refine PySem.W.method_cls I.kIn T.ga (PySem.W.cls_value I.kIn T.rd T.vI (by decide +kernel) ?_)
  show wpAny _ _ (callWith pos (Value.builtin "ValueError.__init__") [] (backTo pos (starEach (e :: es) X.env)) []) _ _ _
  refine PyProof.Rows.callWith_method1 (thn (ha.run pos pins _ σ H _ (I.tok _) h) fun us s1 ⟨vs, H1, I1, r1, a, C, ws, ev, hl, T, ea, q⟩ => ?_) he hpl
  subst ev
  cases r1 with
  | @cons _ u0 _ ur ra rw' =>
    obtain rfl : u0 = Value.ref a := ra
    have hlen : ur.length ≤ sizeLine := by
      rw [← Paired.length rw', sizeLine_eq]
      omega
    exact oinit_ok T I1 ea hlen fun s' J => ⟨.non, H1, J, rfl, q⟩
theorem g_vei {K : PySem.W.Frag} {σ : L2.St} {H : Hp} {Q : VK} (q : ta σ H fun vs H1 => ∃ (a C : Addr) (ws : List V), vs = .ref a :: ws ∧ ws.length ≤ 1000 ∧ OexC K C ∧ H1 a = some (exo a C none) ∧ Q .non H1) : tVeI K ta σ H Q := q
/-- C(), C's own __init__ keeping sp -/
def tMkZ (C : Addr) (sp : Sp) : L2.St → Hp → XK → Prop := fun σ H Q => ∀ a, H a = none → sp [.ref a] (upd H a (exo a C none))
  (fun v H2 => v = .non ∧ H2 a = some (exo a C none) ∧ Q (.ref C) none (del H2 a)) (fun _ _ _ => False)
/-- the end of C(): the exception is let go -/
theorem mk_endZ {pins : List (Addr × Obj)} {σ : L2.St} {H1 H2 : Hp} {Q : XK} {hp hp2 h2 : Heap} {g1 g2 : Array GenState} {d1 d2 : Drawn} {t1 t2 : Nat} {os1 os2 : OsState} {a C : Addr} (T : Raises X (.ref C)) (I1 : Inv X pins σ H1 ⟨hp, g1, d1, t1, os1⟩)
    (ha : hp.objs.size ≤ a) (k : ∀ b o, hp.get? b = some o → hp2.get? b = some o) (un : Un (frs X.stack) [] (upd H1 a (exo a C none)) H2 hp2 h2) (hok : HOk X.prog X.w H2 h2) (ho : os2 = os1) (hb : AllBare g2)
    (ea : H2 a = some (exo a C none)) (q : Q (.ref C) none (del H2 a)) : MkP X pins σ Q (.ref a) ⟨h2, g2, d2, t2, os2⟩ := by
  obtain ⟨t0, hoe⟩ := exo_at hok ea
  have hn : H1 a = none := I1.hok.fresh ha
  obtain ⟨G, g1', g2'⟩ := restrict h2 fun b => decide (b ≠ a)
  have gk : ∀ b, b ≠ a → G.get? b = h2.get? b := fun b hb => g1' b (decide_eq_true hb)
  have ge : G.get? a = none := g2' a (by simp)
  have nha : ∀ {b : Addr} {o : Obj}, hp.get? b = some o → b ≠ a := fun {b o} z => Nat.ne_of_lt (Nat.lt_of_lt_of_le (Heap.lt_size z) ha)
  have up : ∀ {b : Addr}, b ≠ a → H1 b = none → upd H1 a (exo a C none) b = none := fun {b} hb n => by rw [upd_ne hb]; exact n
  have U : Un (frs X.stack) [] H1 (del H2 a) hp G := {
    keep := fun b o z n hf hx => by
      rw [gk b (nha z)]
      exact un.keep b o (k b o z) (up (nha z) n) hf hx
    slot := fun b o z n hf hx => by
      rw [gk b (nha z)]
      exact un.slot b o (k b o z) (up (nha z) n) hf hx
    free := fun b o z n hx => by
      rw [del_ne (nha z)]
      exact un.free b o (k b o z) (up (nha z) n) hx
    there := fun b o z hx => by
      rw [gk b (nha z)]
      exact un.there b o (k b o z) hx
    tups := fun b xs z => by
      rw [del_ne (ne_of_none z hn)]
      exact un.tups b xs (by rw [upd_ne (ne_of_none z hn)]; exact z)
    frzs := fun b o v z => by
      rw [del_ne (ne_of_none z hn)]
      exact un.frzs b o v (by rw [upd_ne (ne_of_none z hn)]; exact z)
    tbls := fun b ps z => by
      rw [del_ne (ne_of_none z hn)]
      exact un.tbls b ps (by rw [upd_ne (ne_of_none z hn)]; exact z) }
  have hok3 : HOk X.prog X.w (del H2 a) G := fun b o z => by
    have hba : b ≠ a := fun e => by
      rw [e, del_same] at z
      cases z
    rw [del_ne hba] at z
    have noa : ∀ {c : Addr}, H2 c = some (.own b) → c ≠ a := fun {c} hc => at_ne ea hc exo_own
    exact (hok b o z).stay (fun c v hc y => by
        have hca : c ≠ a := by
          rcases hc with hc | hc
          · rw [hc]
            exact hba
          · exact noa hc
        rw [gk c hca]
        exact y)
      (fun c hc => by rw [del_ne (noa hc)]; exact hc) (fun c xs hc => by rw [del_ne (at_ne ea hc exo_tup)]; exact hc)
  have J : Inv X pins σ (del H2 a) ⟨G, g2, d2, t2, os2⟩ := I1.call' (ch := []) ho U hok3 hb (fun b z => absurd z (by simp))
  refine ⟨a, _, _, ⟨G, g2, d2, t2, os2⟩, _, .ref C, none, rfl, J, fun b o z => ?_, ge, hoe, ⟨rfl, rfl⟩, rfl, rfl, del_same, rfl, hb, T, q⟩
  by_cases hba : b = a
  · rw [hba, ge] at z
    cases z
  · exact (gk b hba).symm.trans z
theorem pmk_z {CX : CXT} {C fI : Addr} {k : Nat} {fd : FuncData} {ps : List Str} {sp : Sp} (T : OexC X.K C) (iC : PySem.W.findIn X.K (.ref C) "__init__" = some (some (.ref fI))) (tI : PySem.W.typeIn X.K (.ref fI) = some (.type "function"))
    (F1 : FnOk X.prog X.w X.K X.mg X.base CX k fI fd ps sp) (hr : Room (k + 1) X.A) (hb : Binds X.K fd ps []) (hx : Passes CX X (fun _ _ _ => False)) (hg : Gl X x) (hm : X.mg x = some (.ref C))
    (hdb : (x == ("__debug__" : Str)) = false := by decide) :
    PMk X (.Call (.Name x p) [] [] pos) (tMkZ C sp) := by
  intro pins s σ H Q I h
  obtain ⟨nm, q, N, bs, bm, sn, sub, ab, col, dd, k0, k1, k2, k3, k5, hC, hbm⟩ := T.cls
  refine wpAny_Call_Name_kw (ld_glob I hg hm ?_ hdb)
  refine PySem.W.callWith_K0 I.kIn T.kC ?_
  show wpAny _ _ (call (.ref C) []) _ _ _
  obtain ⟨hp, g, dr, tk, os⟩ := s
  have hsz : hp.objs.size ≤ hp.objs.size + 1 := Nat.le_succ _
  have hn : H (hp.objs.size + 1) = none := I.hok.fresh hsz
  have hq := h (hp.objs.size + 1) hn
  have kk : ∀ b o, hp.get? b = some o → ((hp.push (PySem.W.kdv_tup [])).push (PySem.HandSPX.excO C hp.objs.size)).get? b = some o := fun b o e => Heap.get?_push_of_some _ (Heap.get?_push_of_some _ e)
  have hget : ((hp.push (PySem.W.kdv_tup [])).push (PySem.HandSPX.excO C hp.objs.size)).get? (hp.objs.size + 1) = some (PySem.HandSPX.excO C hp.objs.size) := by heap_get
  have I2 : Inv X pins σ (upd H (hp.objs.size + 1) (exo (hp.objs.size + 1) C none)) ⟨(hp.push (PySem.W.kdv_tup [])).push (PySem.HandSPX.excO C hp.objs.size), g, dr, tk, os⟩ :=
    I.laid (t' := tk) (a := hp.objs.size + 1) (o := exo (hp.objs.size + 1) C none) (h' := (hp.push (PySem.W.kdv_tup [])).push (PySem.HandSPX.excO C hp.objs.size)) kk hsz (exo_ok hget)
  have r2 : Vals [V.ref (hp.objs.size + 1)] [Value.ref (hp.objs.size + 1)] := .cons rfl .nil
  have hl : (Value.ref (hp.objs.size + 1) :: ([] : List Value) ++ []).length = ps.length := by
    have e := r2.length
    rw [F1.len _ _ _ _ hq] at e
    exact e.symm
  refine wpAny_call (PySem.HandSPX.call_own F.excBase_ValueError (fun Y => PySem.HandSPX.refsVE_contains Y bm hbm) (I.kIn _ _ hC) (PySem.W.looks_findIn I.kIn iC) (fun self => PySem.W.bind_fn I.kIn self tI) (by rw [sizeLine_eq]; decide)
    (codeAny_mono (F1.run _ X.stack _ _ ⟨[Value.ref (hp.objs.size + 1)], []⟩ [Value.ref (hp.objs.size + 1)] _ _ (fun _ _ _ => False) (hr.make C [] []) (I2.env0.make C [] []) (hb _ [Value.ref (hp.objs.size + 1)] I2.kIn hl) r2 hq) fun r s' hq' => ?_))
  cases r with
  | error er => exact hx pins σ _ _ er s' I2 hq'
  | ok fl =>
    cases fl with
    | ret u =>
      obtain ⟨v, H2, os2, bare2, un2, hok2, rv, ev, ea, q2⟩ := hq'
      subst ev
      obtain ⟨h2, g2, d2, t2, os'⟩ := s'
      exact ⟨rv, mk_endZ (raises_own T.exC T.tyC) I hsz kk un2 hok2 os2 bare2 ea q2⟩
    | next => exact False.elim hq'
    | brk => exact False.elim hq'
    | cont => exact False.elim hq'
end
end Pf

namespace Pf
open PySem PySem.Spec PyProof.Rows L2
/-! ### things of any kind: what isinstance says of them -/
theorem kit_own {K : PySem.W.Frag} {C : Addr} {n : String} {b : Bool} (hk : PySem.W.kitMeta n = true) (h : PySem.W.mroIn K C (.type n) = some b) : PySem.W.kitOne K (.ref C) (.type n) = some b := by
  unfold PySem.W.kitOne PySem.W.kitCls
  rw [if_neg (by intro z; cases (beq_iff_eq.mp z))]
  show (if PySem.W.kitMeta n = true then PySem.W.subIn K (.ref C) (.type n) else none) = some b
  rw [if_pos hk]
  exact h
/-- an own class that is of no built-in kind -/
structure OwnC1 (K : PySem.W.Frag) (C : Addr) : Prop where
  ic : C8.InsC K C
  tu : PySem.W.mroIn K C (.type "tuple") = some false
  li : PySem.W.mroIn K C (.type "list") = some false
  it : PySem.W.mroIn K C (.type "int") = some false
  bo : PySem.W.mroIn K C (.type "bool") = some false
  st : PySem.W.mroIn K C (.type "str") = some false
/-- .. or none at all: 0 -/
def OwnC (K : PySem.W.Frag) (C : Addr) : Prop := C ≠ 0 → OwnC1 K C
/-- what is no tuple -/
inductive Nt (d C : Addr) (H : Hp) : V → Prop
  | int (i : Int) : Nt d C H (.int i)
  | bl (b : Bool) : Nt d C H (.bl b)
  | str (s : Str) : Nt d C H (.str s)
  | non : Nt d C H .non
  | lst {p : Addr} {xs : List V} (e : H p = some (.lst xs)) (n : p ≠ d) : Nt d C H (.ref p)
  | dct {p : Addr} {kvs : List (Key × V)} (e : H p = some (.dK kvs)) (n : p ≠ d) : Nt d C H (.ref p)
  | own {p dx : Addr} {fs : List (Str × V)} (e : H p = some (.ins C dx fs)) (n : p ≠ d) (z : C ≠ 0) : Nt d C H (.ref p)
theorem Nt.fr {d C : Addr} {H H' : Hp} {v : V} (f : Fr d H H') (h : Nt d C H v) : Nt d C H' v := by
  cases h with
  | int i => exact .int i
  | bl b => exact .bl b
  | str s => exact .str s
  | non => exact .non
  | lst e n => exact .lst (f _ _ n e) n
  | dct e n => exact .dct (f _ _ n e) n
  | own e n z => exact .own (f _ _ n e) n z
section
variable {K : PySem.W.Frag} {d C : Addr} {H : Hp} {v : V}
theorem Nt.tup (c : OwnC K C) (h : Nt d C H v) : ∃ t, TyX K H v t ∧ PySem.W.kitOne K t (.type "tuple") = some false := by
  cases h with
  | int i => exact ⟨_, .base (.int i), kit_ty (by decide +kernel)⟩
  | bl b => exact ⟨_, .base (.bl b), kit_ty (by decide +kernel)⟩
  | str s => exact ⟨_, .base (.str s), kit_ty (by decide +kernel)⟩
  | non => exact ⟨_, .base .non, kit_ty (by decide +kernel)⟩
  | lst e n => exact ⟨_, .base (.lst e), kit_ty (by decide +kernel)⟩
  | dct e n => exact ⟨_, .base (.dK e), kit_ty (by decide +kernel)⟩
  | own e n z0 => exact ⟨_, .base (.ins e (c z0).ic.cl (c z0).ic.ha (c z0).ic.hn (c z0).ic.htk (c z0).ic.hm), kit_own (by decide +kernel) (c z0).tu⟩
/-- an integer, or what is_integer refuses -/
theorem Nt.num (c : OwnC K C) (h : Nt d C H v) : (∃ i, v = .int i) ∨ ((∀ i, v ≠ .int i) ∧ IntK K H v false) := by
  cases h with
  | int i => exact .inl ⟨i, rfl⟩
  | bl b => exact .inr ⟨(fun i z => by cases z), _, true, true, .base (.bl b), kit_ty (by decide +kernel), kit_ty (by decide +kernel), rfl⟩
  | str s => exact .inr ⟨(fun i z => by cases z), _, false, false, .base (.str s), kit_ty (by decide +kernel), kit_ty (by decide +kernel), rfl⟩
  | non => exact .inr ⟨(fun i z => by cases z), _, false, false, .base .non, kit_ty (by decide +kernel), kit_ty (by decide +kernel), rfl⟩
  | lst e n => exact .inr ⟨(fun i z => by cases z), _, false, false, .base (.lst e), kit_ty (by decide +kernel), kit_ty (by decide +kernel), rfl⟩
  | dct e n => exact .inr ⟨(fun i z => by cases z), _, false, false, .base (.dK e), kit_ty (by decide +kernel), kit_ty (by decide +kernel), rfl⟩
  | own e n z0 => exact .inr ⟨(fun i z => by cases z), _, false, false, .base (.ins e (c z0).ic.cl (c z0).ic.ha (c z0).ic.hn (c z0).ic.htk (c z0).ic.hm), kit_own (by decide +kernel) (c z0).it, kit_own (by decide +kernel) (c z0).bo, rfl⟩
/-- a string, or none -/
theorem Nt.strs (c : OwnC K C) (h : Nt d C H v) : (∃ s, v = .str s) ∨ ((∀ s, v ≠ .str s) ∧ ∃ t, TyX K H v t ∧ PySem.W.kitOne K t (.type "str") = some false) := by
  cases h with
  | int i => exact .inr ⟨(fun s z => by cases z), _, .base (.int i), kit_ty (by decide +kernel)⟩
  | bl b => exact .inr ⟨(fun s z => by cases z), _, .base (.bl b), kit_ty (by decide +kernel)⟩
  | str s => exact .inl ⟨s, rfl⟩
  | non => exact .inr ⟨(fun s z => by cases z), _, .base .non, kit_ty (by decide +kernel)⟩
  | lst e n => exact .inr ⟨(fun s z => by cases z), _, .base (.lst e), kit_ty (by decide +kernel)⟩
  | dct e n => exact .inr ⟨(fun s z => by cases z), _, .base (.dK e), kit_ty (by decide +kernel)⟩
  | own e n z0 => exact .inr ⟨(fun s z => by cases z), _, .base (.ins e (c z0).ic.cl (c z0).ic.ha (c z0).ic.hn (c z0).ic.htk (c z0).ic.hm), kit_own (by decide +kernel) (c z0).st⟩
theorem TyX.tup' {p : Addr} {xs : List V} (h : SqT K H p xs) : TyX K H (.ref p) (.type "tuple") := by
  rcases h with (q | ⟨o, q⟩) | ⟨o, its, n, e, c, _⟩
  · exact .base (.tup q)
  · exact .fTuple q
  · exact .kTuple e c
theorem IntK.tup {p : Addr} {xs : List V} (h : SqT K H p xs) : IntK K H (.ref p) false := ⟨_, false, false, TyX.tup' h, kit_ty (by decide +kernel), kit_ty (by decide +kernel), rfl⟩
/-- anything -/
def Th (K : PySem.W.Frag) (d C : Addr) (H : Hp) (v : V) : Prop := Nt d C H v ∨ ∃ p xs, v = .ref p ∧ SqT K H p xs
theorem Th.int (i : Int) : Th K d C H (.int i) := .inl (.int i)
theorem Th.tup {p : Addr} {xs : List V} (h : SqT K H p xs) : Th K d C H (.ref p) := .inr ⟨p, xs, rfl, h⟩
theorem Th.num (c : OwnC K C) (h : Th K d C H v) : (∃ i, v = .int i) ∨ ((∀ i, v ≠ .int i) ∧ IntK K H v false) := by
  rcases h with h | ⟨p, xs, rfl, h⟩
  · exact h.num c
  · exact .inr ⟨(fun i z => by cases z), IntK.tup h⟩
theorem Th.strs (c : OwnC K C) (h : Th K d C H v) : (∃ s, v = .str s) ∨ ((∀ s, v ≠ .str s) ∧ ∃ t, TyX K H v t ∧ PySem.W.kitOne K t (.type "str") = some false) := by
  rcases h with h | ⟨p, xs, rfl, h⟩
  · exact h.strs c
  · exact .inr ⟨(fun i z => by cases z), _, TyX.tup' h, kit_ty (by decide +kernel)⟩
theorem Th.fr {H' : Hp} (f : Fr d H H') (x : Tx H H') (h : Th K d C H v) : Th K d C H' v := by
  rcases h with h | ⟨p, xs, rfl, h⟩
  · exact .inl (h.fr f)
  · exact .inr ⟨p, xs, rfl, x.seq h⟩
/-- whether an integer from 0 to n -/
def wholeV (n : Int) : V → Bool
  | .int i => decide (0 ≤ i ∧ i ≤ n)
  | _ => false
theorem wholeV_not {n : Int} (h : ∀ i, v ≠ .int i) : wholeV n v = false := by
  cases v <;> first | rfl | exact absurd rfl (h _)
end
end Pf

/-! ### isinstance of a caught error of an own class, with fields or without -/
namespace Pf
open PySem PySem.Spec PySem.Calls PyProof.Rows PySem.W
section
variable {prog : Program} {w : World} {A : Around} {E : Value → Shared → Prop} {s : Shared} {K : Frag} {x D : Addr} {ox : Obj} {od : Option Obj}
theorem find_data {C : Addr} {name : Str} {a g : Value} (hc : (clsIn K C).isSome = true) (ha : findIn K (.ref C) name = some (some a)) (hg : specialIn K a "__get__" = some (some g)) (ht : takesIn K a = some true) : findObj K C od name = some (.bind g a) := by
  obtain ⟨cd, hc⟩ := Option.isSome_iff_exists.mp hc
  unfold findObj
  rw [hc, Option.bind_some, ha, Option.bind_some]
  simp [hg, ht]
theorem kin_class {Q : Option Value → Shared → Prop} (T : L2.ExcC K D) (X : K.In s.heap) (I : InstAt s.heap x ox D od) (h : Q (some (.ref D)) { s with toks := s.toks + 1 }) : wpAny (model prog w) A (getAttr? (.ref x) "__class__") Q E s := by
  obtain ⟨hga, hgt, hsub, hdct, ha, hn, htk, hm⟩ := T
  have hf : findObj K D od "__class__" = some (.bind (.builtin "getset_descriptor.__get__") (.builtin "object.__class__")) := find_data (by obtain ⟨cd, hc, _⟩ := any_some hdct; rw [hc]; rfl) ha hn htk
  obtain ⟨hp, g, d, t, os⟩ := s
  have L0 := I.type (M := model prog w)
  have L1 := looks_findIn (M := model prog w) X hga
  have L2 := looks_findIn (M := model prog w) X hgt
  have L3 := looks_find (M := model prog w) X I hf
  have sub : Looks (model prog w) hp (isInstance (.ref x) (.type "BaseException")) true := L0.andThen (looks_subIn X hsub)
  have hx0 : (false && onTheHeap (Value.builtin "BaseException.__getattribute__")) = false := rfl
  have hx2 : (Value.builtin "BaseException.__getattribute__" == Value.builtin "object.__getattribute__") = false := by decide +kernel
  have hx1 : (onTheHeap (Value.ref D) && Value.builtin "BaseException.__getattribute__" == Value.builtin "object.__getattribute__") = false := by rw [hx2]; rfl
  unfold getAttr? getAttrBy? getAttrBy
  refine wpAny_bind (wpAny_mkText (wpAny_bind (wpAny_attempt (wpAny_holding (wpAny_bind (L0.at (wpAny_bind (L1.at ?_))))))))
  show wpAny _ _ (if (onTheHeap (Value.ref D) && Value.builtin "BaseException.__getattribute__" == Value.builtin "object.__getattribute__") = true then _ else _) _ _ _
  rw [hx1, if_neg Bool.false_ne_true]
  unfold getAttrByItsOwn hookBefore
  refine wpAny_bind ?_
  rw [if_pos (show onTheHeap (Value.ref D) = true from rfl)]
  refine L2.at ?_
  refine wpAny_bind (wpAny_attempt (wpAny_holding ?_))
  unfold callGetattribute
  rw [hx0, if_neg Bool.false_ne_true]
  unfold boundAndCalled
  rw [PySem.F.excAttr_ValueError.ga.bind (.ref x)]
  refine wpAny_bind (wpAny_pure ?_)
  show wpAny _ _ (call (.builtin "BaseException.__getattribute__") [.ref x, .str "__class__" t]) _ _ _
  refine wpAny_call (codeAny_call_builtin PySem.F.excAttr_ValueError.ga.plain PySem.F.entry_bexc_ga ?_)
  refine @check_slot (model prog w) _ _ ⟨hp, g, d, t + 1, os⟩ "BaseException.__getattribute__" "BaseException" "__getattribute__" (.ref x) [.str "__class__" t] [] _ (by decide +kernel) (by decide +kernel) sub (PySem.F.args_bexc_ga (.ref x) (.str "__class__" t)) ?_
  unfold Builtin.«object.__getattribute__»
  refine wpAny_bind (wpAny_of_eq (a := ((Value.ref x : Value), [Value.str "__class__" t])) (by first | rfl | (simp only [slotArgs]; rfl)) ?_)
  refine wpAny_bind (wpAny_pure (wpAny_bind (L0.at (wpAny_bind (L3.at ?_)))))
  show wpAny _ _ (holding [Value.builtin "object.__class__"] (call (.builtin "getset_descriptor.__get__") [.builtin "object.__class__", .ref x, .ref D]) >>= ret) _ _ _
  refine wpAny_bind (wpAny_holding (wpAny_call (class_get (s := ⟨hp, g, d, t + 1, os⟩) (ox := ox) (od := od) X I hm ?_)))
  refine wpAny_pure ?_
  show wpAny _ _ (handedOut (.ref D)) _ _ _
  rw [handedOut_of (v := .ref D) rfl]
  first
    | exact wpAny_pure (wpAny_pure h)
    | exact wpAny_pure h
    | exact wpAny_pure (wpAny_bind (wpAny_pure (wpAny_pure h)))
theorem kitx_own (T : L2.ExcC K D) : KitX K (.ref x) (.ref D) (fun h => ∃ od, InstAt h x ox D od) where
  ty := fun _ _ _ ⟨_, I⟩ => I.type
  it := fun _ _ X _ => by
    obtain ⟨cdD, hcD, _⟩ := any_some T.hd
    unfold clsIn at hcD
    split at hcD
    · rename_i c' d' cd' sl' ho
      intro A' Q' E' s' k q
      unfold isType loadHead
      exact wpAny_bind (wpAny_loadPart (k _ _ (X _ _ ho)) (wpAny_pure q))
    · cases hcD
  ne := fun h tp dd its n sl X htp => by
    obtain ⟨cdD, hcD, _⟩ := any_some T.hd
    refine Bool.eq_false_iff.mpr fun q => ?_
    have e : D = tp := Value.ref.inj (beq_iff_eq.mp q)
    subst e
    unfold clsIn at hcD
    split at hcD
    · rename_i c' d' cd' sl' ho
      have z := (X _ _ ho).symm.trans htp
      cases z
    · cases hcD
  ca := fun X ⟨_, I⟩ k => kin_class T X I k
end
end Pf
namespace Pf
open PySem PySem.Spec PyProof.Rows L2
/-- isinstance(e, c), e the error that the suite holds; d its dict -/
def rIsX (K : PySem.W.Frag) (cls : Value) (d : Option Addr) (a : Addr) : List V → Hp → VK → Prop := fun xs H Q => ∃ (D : Addr) (c : V) (cv : Value) (b : Bool), xs = [.ref a, c] ∧ cls = .ref D ∧ ExcC K D ∧ (∀ u, RelV c u → u = cv) ∧ (∀ dd, d = some dd → ∃ fs, H dd = some (.xd fs)) ∧ PySem.W.kitOne K (.ref D) cv = some b ∧ Q (.bl b) H
theorem call_isX {X : Cx} {a : Addr} {oe : Obj} {cls : Value} {d : Option Addr} {pn : List (Addr × Obj)} (hz : Zc cls d oe) (hf : ∃ vs, oe.data = .fields vs) : CallR (X.suite a ((a, oe) :: pn)) (.builtin "isinstance") (rIsX X.K cls d a) := by
  intro pins s σ H xs us Q I r h
  obtain ⟨D, c, cv, b, rfl, rfl, C, hcv, hfs, e, q⟩ := h
  cases r with
  | cons rx rr =>
    cases rr with
    | cons rt rr =>
      cases rr
      cases rx
      have ec := hcv _ rt
      subst ec
      obtain ⟨hget, _⟩ := I.pin (a, oe) (List.mem_append.mpr (.inl List.mem_cons_self))
      obtain ⟨vs, hv⟩ := hf
      have J : ∃ od, PySem.W.InstAt s.heap a oe D od := by
        cases d with
        | none =>
          obtain ⟨oc, od, oda, osl⟩ := oe
          obtain ⟨h1, h2⟩ := hz
          dsimp only at h1 h2 hv
          subst h1 h2 hv
          exact ⟨none, hget, rfl, rfl, trivial⟩
        | some dd =>
          obtain ⟨fs, ea⟩ := hfs dd rfl
          have hx : ObjOk X.prog X.w H s.heap dd (.xd fs) := I.hok dd _ ea
          obtain ⟨mA, hns, hr⟩ := hx
          obtain ⟨od, ho, hl⟩ := lookIn_ns hns
          exact ⟨some od, hget, hz.1, by unfold PySem.W.notCls; rw [hv] <;> rfl, by rw [hz.2]; exact ho⟩
      exact PySem.W.kia_one (kitx_own C) I.kIn J e (fun z => nomatch z) fun tk => ⟨.bl b, H, I.kept (t' := tk) fun _ _ z => z, rfl, q⟩
/-- C(..) with its field, as it leaves a def -/
theorem g_ost {K : PySem.W.Frag} {f : Str} {to te : TE} {D : Ends} {σ : L2.St} {H : Hp} (q : te σ H fun y H1 => to σ H1 fun x H2 => ∃ a C : Addr, x = .ref a ∧ OexC K C ∧ PySem.W.findIn K (.ref C) f = some none ∧
  ((H2 a = some (exo a C none) ∧ ∀ dx, H2 dx = none → dx ≠ a → D.nx σ (upd (upd H2 dx (exd dx [(f, y)])) a (exo a C (some dx)))) ∨
    ∃ (dx : Addr) (fs : List (Str × V)), H2 a = some (exo a C (some dx)) ∧ H2 dx = some (exd dx fs) ∧ fs.length ≤ 900 ∧ D.nx σ (upd H2 dx (exd dx ((f, y) :: fs))))) : tOst K f to te D σ H := q
theorem g_mko {C : Addr} {sp : Sp} {ta : TA} {σ : L2.St} {H : Hp} {Q : XK} (q : ta σ H fun vs H1 => vs.length ≤ 1000 ∧ ∀ a, H1 a = none → sp (.ref a :: (vs ++ [])) (upd H1 a (exo a C none))
  (fun v H2 => v = .non ∧ ∃ (d : Addr) (fs : List (Str × V)), H2 a = some (exo a C (some d)) ∧ H2 d = some (exd d fs) ∧ H1 d = none ∧ Q (.ref C) (some d) (upd (del H2 a) d (.xd fs))) (fun _ _ _ => False)) : tMkO C sp [] ta σ H Q := q
/-- C(e, ..) where what is raised is wished for at the caller's slots -/
def tMakeS (C : Addr) (sp : Sp) (E : L2.St → XK) (t : TA) : TE := fun σ H Q => t σ H fun vs H1 => ∀ x dx, H1 x = none → H1 dx = none → dx ≠ x → sp (.ref x :: vs) (upd (upd H1 dx (.own x)) x (.ins C dx [])) (fun v H2 => v = .non ∧ Q (.ref x) H2) (E σ)
section
variable {X : Cx} {CX : CXT} {k : Nat} {f C : Addr} {fd : FuncData} {ps : List Str} {sp : Sp} {E : L2.St → XK} {x : Str} {p pos : Pos} {e : Expr} {es : List Expr} {t : TA}
theorem run_makeS {pins : List (Addr × Obj)} {σ : L2.St} {H : Hp} {s : Shared} {Q : VK} {us : List Value} {vs : List V} (M : Mk X.K C f) (F : FnOk X.prog X.w X.K X.mg X.base CX k f fd ps sp) (hr : Room (k + 1) X.A) (hb : Binds X.K fd ps [])
    (hx : PassesAt CX X σ (E σ)) (I : Inv X pins σ H s) (r : Vals vs us)
    (h : ∀ x dx, H x = none → H dx = none → dx ≠ x → sp (.ref x :: vs) (upd (upd H dx (.own x)) x (.ins C dx [])) (fun v H2 => v = .non ∧ Q (.ref x) H2) (E σ)) :
    wpAny (model X.prog X.w) X.A (call (.ref C) us) (EP X pins σ Q) X.xe s := by
  have hq := h (s.heap.objs.size + 1) s.heap.objs.size (I.hok.fresh (Nat.le_succ _)) (I.hok.fresh (Nat.le_refl _)) (Nat.ne_of_lt (Nat.lt_succ_self _))
  have I2 := Inv.made (C := C) I
  have r2 : Vals (V.ref (s.heap.objs.size + 1) :: vs) (Value.ref (s.heap.objs.size + 1) :: us) := .cons rfl r
  have hl : (Value.ref (s.heap.objs.size + 1) :: us ++ []).length = ps.length := by
    have e := r2.length
    rw [F.len _ _ _ _ hq] at e
    rw [List.append_nil]
    exact e.symm
  have b := hb _ (Value.ref (s.heap.objs.size + 1) :: us) I2.kIn hl
  rw [List.append_nil] at b
  refine wpAny_call (make_map (f := f) I.kIn M.makes M.init (beq_iff_eq.mp M.fn) (codeAny_mono (F.run _ X.stack _ _ ⟨Value.ref (s.heap.objs.size + 1) :: us, []⟩ (Value.ref (s.heap.objs.size + 1) :: us) _ _ (E σ) (hr.make C us [])
    (I2.env0.make C us []) b r2 hq) fun r s' hq' => ?_))
  cases r with
  | error e => exact hx pins _ _ e s' I2 hq'
  | ok fl =>
    cases fl with
    | ret u =>
      obtain ⟨v, H', I3, rv, ev, q3⟩ := I2.after hq'
      subst ev
      exact ⟨rv, ⟨V.ref (s.heap.objs.size + 1), H', I3, rfl, q3⟩⟩
    | next => exact False.elim hq'
    | brk => exact False.elim hq'
    | cont => exact False.elim hq'
theorem pe_makeS (M : Mk X.K C f) (F : FnOk X.prog X.w X.K X.mg X.base CX k f fd ps sp) (hr : Room (k + 1) X.A) (hg : Gl X x) (hm : X.mg x = some (.ref C)) (hb : Binds X.K fd ps []) (hx : ∀ σ, PassesAt CX X σ (E σ)) (ha : PA X (e :: es) t)
    (hdb : (x == ("__debug__" : Str)) = false := by decide) (he : starEach (e :: es) X.env = (false, eval e X.env) :: starEach es X.env := by rfl) (hpl : (backTo pos (starEach es X.env)).any (·.1) = false := by rfl) :
    PE X (.Call (.Name x p) (e :: es) [] pos) (tMakeS C sp E t) := by
  refine ⟨fun pins s σ H Q I h => ?_⟩
  refine wpAny_Call_Name_kw (ld_glob I hg hm ?_ hdb)
  refine PySem.W.callWith_K (h₀ := X.base) I.ok.mod.kin M.kp (thn (ha.run pos pins s σ H _ I h) fun us s1 ⟨vs, H1, I1, r, q⟩ => ⟨I1.kIn, ?_⟩) he hpl
  exact run_makeS M F hr hb (hx σ) I1 r q
end
theorem g_makeS {C : Addr} {sp : Sp} {W : WX} {t : TA} {σ : L2.St} {H : Hp} {Q : VK} (q : t σ H fun vs H1 => ∀ x dx, H1 x = none → H1 dx = none → dx ≠ x → sp (.ref x :: vs) (upd (upd H1 dx (.own x)) x (.ins C dx [])) (fun v H2 => v = .non ∧ Q (.ref x) H2) (fun cls d H => W cls d σ H)) : tMakeS C sp (WE W) t σ H Q := q
end Pf

/-! ### own ==, and != by it, whatever they say -/
namespace Pf
open PySem PySem.Spec PySem.Calls PyProof.Rows PySem.W
section
variable {prog : Program} {w : World} {A : Around} {E : Value → Shared → Prop} {s : Shared} {K : Frag} {x C f : Addr} {ox : Obj} {od : Option Obj} {b tb : Value}
theorem ifBound_ne {M : Model} {args : List Value} {Q : Option Value → Shared → Prop} (X : K.In s.heap) (I : InstAt s.heap x ox C od) (hs : findIn K (.ref C) "__ne__" = some (some (.builtin "object.__ne__")))
    (h : wpAny M A (call (.builtin "object.__ne__") (.ref x :: args)) (fun v => Q (some v)) E s) : wpAny M A (callSpecialIfBound? (.ref x) "__ne__" args) Q E s := by
  simp only [callSpecialIfBound?, bindSpecialIfBound?]
  refine wpAny_holding (wpAny_bind (wpAny_bind (wpAny_bind (I.type.here ((looks_findIn X hs).here ?_)))))
  simp only [PySem.F.cmp_object.ne.bind]
  refine wpAny_bind (wpAny_askSetting (wpAny_ite ?_))
  have fin : wpAny M A (call (.builtin "object.__ne__") ([.ref x] ++ args) >>= fun v => pure (some v)) Q E s := wpAny_bind (wpAny_mono h (fun v s' h' => wpAny_pure h') fun _ _ h' => h')
  split
  · exact wpAny_bind (wpAny_pure (wpAny_pure fin))
  · exact wpAny_tryCatch (wpAny_bind (wpAny_pure (wpAny_pure fin)))
theorem ne_body (hu : A.units < cLine) (X : K.In s.heap) (I : InstAt s.heap x ox C od) (hs : findIn K (.ref C) "__eq__" = some (some (.ref f))) (hf : isFn K (.ref f) = true) {Q : Fin → Shared → Prop}
    (h : wpAny (model prog w) A (call (.ref f) [.ref x, b]) (fun v s' => ∃ r, v = .bool r ∧ Q (.done (.ret (.bool !r))) s') E s) : wpAny (model prog w) A (Builtin.«object.__ne__» ⟨[.ref x, b], []⟩) Q E s := by
  unfold Builtin.«object.__ne__»
  refine wpAny_bind (wpAny_of_eq (a := ((Value.ref x : Value), [b])) (by first | rfl | (simp only [slotArgs]; rfl)) ?_)
  refine wpAny_bind (wpAny_cRoomFor hu ?_)
  refine wpAny_bind (ifBound_K X I hs hf (wpAny_mono h (fun v s' hv => ?_) fun _ _ e => e))
  obtain ⟨r, rfl, q⟩ := hv
  show wpAny (model prog w) A (do ret (.bool (!(← truthy (.bool r))))) Q E s'
  repeat (any_goals (first | assumption | wp_step))
theorem try_ne (hu : A.in1.units < cLine) (X : K.In s.heap) (I : InstAt s.heap x ox C od) (hn : findIn K (.ref C) "__ne__" = some (some (.builtin "object.__ne__"))) (ho : mroIn K C (.type "object") = some true)
    (hs : findIn K (.ref C) "__eq__" = some (some (.ref f))) (hf : isFn K (.ref f) = true) {Q : Value → Shared → Prop}
    (h : wpAny (model prog w) A.in1 (call (.ref f) [.ref x, b]) (fun v s' => ∃ r, v = .bool r ∧ Q (.bool !r) s') (fun _ _ => False) s) :
    wpAny (model prog w) A (tryCompare (.ref x) "__ne__" b) (fun r s' => ∃ v, r = some v ∧ Q v s') E s := by
  have L0 := I.type (M := model prog w)
  have sub : Looks (model prog w) s.heap (isInstance (.ref x) (.type "object")) true := L0.andThen (looks_mroIn X ho)
  unfold tryCompare
  refine wpAny_bind (ifBound_ne X I hn (wpAny_call (codeAny_call_builtin PySem.F.cmp_object.ne.plain PySem.F.cmpEntry_ne (check_slot PySem.F.cmpKind_ne PySem.F.cmpSplit_ne sub (PySem.F.cmpArgs_ne _ _) ?_))))
  refine ne_body (A := A.in1) hu X I hs hf (wpAny_mono h (fun v s' hv => ?_) fun _ _ z => z.elim)
  obtain ⟨r, rfl, q⟩ := hv
  refine ⟨r, rfl, ?_⟩
  exact wpAny_pure ⟨_, rfl, q⟩
theorem cmp_ne (hu : A.units < cLine) (hu1 : A.in1.units < cLine) (X : K.In s.heap) (I : InstAt s.heap x ox C od) (hb : Looks (model prog w) s.heap (typeOf b) tb) (hnf : notFirst K C tb = true)
    (hn : findIn K (.ref C) "__ne__" = some (some (.builtin "object.__ne__"))) (ho : mroIn K C (.type "object") = some true)
    (hs : findIn K (.ref C) "__eq__" = some (some (.ref f))) (hf : isFn K (.ref f) = true) {Q : Value → Shared → Prop}
    (h : wpAny (model prog w) A.in1 (call (.ref f) [.ref x, b]) (fun v s' => ∃ r, v = .bool r ∧ Q (.bool !r) s') (fun _ _ => False) s) :
    wpAny (model prog w) A (richCompare .NotEq (.ref x) b) Q E s := by
  have one := try_ne (E := E) hu1 X I hn ho hs hf h
  unfold richCompare
  simp only [oneThing_ref]
  refine wpAny_holding (wpAny_bind (wpAny_cRoomFor hu ?_))
  refine wpAny_bind (I.type.here (wpAny_bind (hb.here ?_)))
  split
  · rename_i q
    have e : subIn K tb (.ref C) = some false := by
      rcases Bool.or_eq_true_iff.mp hnf with e | e
      · rw [beq_iff_eq.mp e] at q; simp at q
      · exact beq_iff_eq.mp e
    refine wpAny_bind ((looks_subIn X e).here ?_)
    simp only [Bool.false_eq_true, if_false]
    refine wpAny_bind (wpAny_mono one (fun r s' z => ?_) fun _ _ e => e)
    obtain ⟨v, rfl, hq⟩ := z
    exact wpAny_pure hq
  · refine wpAny_bind (wpAny_pure ?_)
    simp only [Bool.false_eq_true, if_false]
    refine wpAny_bind (wpAny_mono one (fun r s' z => ?_) fun _ _ e => e)
    obtain ⟨v, rfl, hq⟩ := z
    exact wpAny_pure hq
end
end Pf
namespace Pf
open PySem PySem.Spec PyProof.Rows L2
/-- what the class says of its own == -/
structure EqC (K : PySem.W.Frag) (C f : Addr) : Prop where
  eq : PySem.W.findIn K (.ref C) "__eq__" = some (some (.ref f))
  fn : PySem.W.isFn K (.ref f) = true
  ne : PySem.W.findIn K (.ref C) "__ne__" = some (some (.builtin "object.__ne__"))
  ob : PySem.W.mroIn K C (.type "object") = some true
/-- x == y, x != y, x of an own class, y of another kind or of the same -/
def rCmpI (K : PySem.W.Frag) (C : Addr) (sp : Sp) (g : Bool → Bool) : R2 := fun x y H Q => ∃ (a dx : Addr) (fs : List (Str × V)) (t : Value), x = .ref a ∧ H a = some (.ins C dx fs) ∧ TyX K H y t ∧ PySem.W.notFirst K C t = true ∧ sp [x, y] H (fun v H' => ∃ b, v = .bl b ∧ Q (.bl (g b)) H') E0
section
variable {X : Cx} {CX : CXT} {C f : Addr} {fd : FuncData} {ps : List Str} {sp : Sp} {n : Nat}
theorem op_eqI (F : FnOk X.prog X.w X.K X.mg X.base CX n f fd ps sp) (T : EqC X.K C f) (hb : Binds X.K fd ps []) (hx : Passes CX X E0) (hr : Room n X.A) : OpR X (compareOp .Eq) (rCmpI X.K C sp id) := by
  intro pins s σ H x y v u Q I rx ry hq
  obtain ⟨a, dx, fs, t, rfl, ha, ty, hnf, hsp⟩ := hq
  cases rx
  obtain ⟨P, hk, hP, _⟩ := kit_of I ry ty
  obtain ⟨mA, J, _⟩ := ins_get I.hok ha
  obtain ⟨od, J, _⟩ := J.look
  obtain ⟨m, hF⟩ := I.fr
  show wpAny (model X.prog X.w) X.A (richCompare .Eq (.ref a) u) (EP X pins σ Q) X.xe s
  refine PySem.W.cmp_K (op := .Eq) (tb := t) hr.units0 hF I.ok.mod.kin J (hk.ty (model X.prog X.w) s.heap I.kIn hP) hnf T.eq T.fn ?_
  have r2 : Vals [V.ref a, y] [Value.ref a, u] := .cons rfl (.cons ry .nil)
  have hl := F.len _ _ _ _ hsp
  have b2 := hb s [.ref a, u] I.kIn (by simpa using hl)
  rw [List.append_nil] at b2
  refine wpAny_call (codeAny_mono (F.run X.A X.stack s H ⟨[.ref a, u], []⟩ [.ref a, u] [.ref a, y] _ E0 hr I.env0 b2 r2 hsp) fun r s' hq => ?_)
  cases r with
  | error e => exact hx pins σ H s e s' I hq
  | ok fl =>
    cases fl with
    | ret w =>
      obtain ⟨z, H', I', rz, b, ez, q⟩ := I.after hq
      subst ez
      cases rz
      exact ⟨.bl b, H', I', rfl, q⟩
    | next => exact False.elim hq
    | brk => exact False.elim hq
    | cont => exact False.elim hq
theorem op_neI (F : FnOk X.prog X.w X.K X.mg X.base CX n f fd ps sp) (T : EqC X.K C f) (hb : Binds X.K fd ps []) (hx : Passes CX X E0) (hx0 : ∀ H s e s', ¬ CX X.stack H s E0 e s') (hr : Room (n + 1) X.A) : OpR X (compareOp .NotEq) (rCmpI X.K C sp not) := by
  intro pins s σ H x y v u Q I rx ry hq
  obtain ⟨a, dx, fs, t, rfl, ha, ty, hnf, hsp⟩ := hq
  cases rx
  obtain ⟨P, hk, hP, _⟩ := kit_of I ry ty
  obtain ⟨mA, J, _⟩ := ins_get I.hok ha
  obtain ⟨od, J, _⟩ := J.look
  have hr1 : Room n X.A.in1 := hr.in1
  show wpAny (model X.prog X.w) X.A (richCompare .NotEq (.ref a) u) (EP X pins σ Q) X.xe s
  refine cmp_ne (tb := t) hr.units0 hr1.units0 I.kIn J (hk.ty (model X.prog X.w) s.heap I.kIn hP) hnf T.ne T.ob T.eq T.fn ?_
  have e0 : Env0 X.prog X.w X.K X.mg X.base X.A.in1 X.stack s H := by
    have e := I.env0
    exact ⟨e.frames, e.mod, e.bs, e.bsz, e.funs, e.frf, e.hok, e.bare⟩
  have r2 : Vals [V.ref a, y] [Value.ref a, u] := .cons rfl (.cons ry .nil)
  have hl := F.len _ _ _ _ hsp
  have b2 := hb s [.ref a, u] I.kIn (by simpa using hl)
  rw [List.append_nil] at b2
  refine wpAny_call (codeAny_mono (F.run X.A.in1 X.stack s H ⟨[.ref a, u], []⟩ [.ref a, u] [.ref a, y] _ E0 hr1 e0 b2 r2 hsp) fun r s' hq => ?_)
  cases r with
  | error e => exact hx0 _ _ _ _ hq
  | ok fl =>
    cases fl with
    | ret w =>
      obtain ⟨z, H', I', rz, b, ez, q⟩ := I.after hq
      subst ez
      cases rz
      exact ⟨b, rfl, .bl (!b), H', I', rfl, q⟩
    | next => exact False.elim hq
    | brk => exact False.elim hq
    | cont => exact False.elim hq
end
theorem no_CX0 {outer : List Env} {H : Hp} {s : Shared} {E : XK} {e : Value} {s' : Shared} : ¬ CX0 outer H s E e s' := fun h => h
end Pf

namespace Pf
open PySem PySem.Spec PyProof.Rows L2
/-! ### f-strings, parts of texts put together -/
theorem g_js0 {acc : Str} {σ : L2.St} {H : Hp} {Q : Str → Hp → Prop} (q : Q acc H) : tJs [] acc σ H Q := q
theorem g_js {t : TE} {ts : List TE} {acc : Str} {σ : L2.St} {H : Hp} {Q : Str → Hp → Prop} (q : t σ H fun x H1 => ∃ y : Str, x = .str y ∧ (acc ++ y).length ≤ sizeLine ∧ tJs ts (acc ++ y) σ H1 Q) : tJs (t :: ts) acc σ H Q := q
theorem g_fmt {te : TE} {σ : L2.St} {H : Hp} {Q : VK} (q : te σ H fun x H1 => (∃ y : Str, x = .str y ∧ y.length ≤ sizeLine ∧ Q (.str y) H1) ∨ ∃ i : Int, x = .int i ∧ i.natAbs.log2 < 1920 ∧ Q (.str (toString i)) H1) : tFmt te σ H Q := q
theorem append_empty (a : Str) : a ++ Str.ofString "" = a := Str.ext' (by simp [Str.cps_append, show (Str.ofString "").cps = #[] from rfl])
theorem join_cons (h : Str) (t : List Str) : Txt.join (Str.ofString "") (h :: t) = h ++ Txt.join (Str.ofString "") t := by
  rw [TL.join_eq, TL.join_eq]
  cases t with
  | nil =>
    show h = h ++ Str.empty
    exact (append_empty h).symm
  | cons x t =>
    show h ++ Str.ofString "" ++ Str.join (Str.ofString "") (x :: t) = _
    rw [append_empty]
end Pf

namespace Pf
open PySem PySem.Spec PyProof.Rows L2
/-! ### within an except suite: xs.count(y), a comprehension over a list -/
section
variable {X : Cx}
theorem cnt_of {y : V} {uy : Value} (fy : flatV y = true) : ∀ {ys : List V} {us : List Value}, Vals ys us → ys.all flatV = true → us.countP (eqU y) = ys.countP (fun z => eqV z y)
  | [], us, rv, _ => by
    cases rv
    rfl
  | z :: ys, us, rv, f => by
    cases rv with
    | cons r rt =>
      rw [List.all_cons, Bool.and_eq_true] at f
      rw [List.countP_cons, List.countP_cons, cnt_of (uy := uy) fy rt f.2, eqU_of r f.1]
def rCntF (K : PySem.W.Frag) : V → List V → Hp → VK → Prop := fun x xs H Q => ∃ (a : Addr) (ys : List V) (y : V), x = V.ref a ∧ xs = [y] ∧ SqL K H a ys ∧ flatV y = true ∧ ys.all flatV = true ∧ Q (.int ((ys.countP fun z => eqV z y : Nat) : Int)) H
theorem mt_lcountF : MtR X "list.count" (rCntF X.K) := by
  intro pins s σ H x xs v us Q I rx rxs h
  obtain ⟨a, ys, y, rfl, rfl, hs, fy, fys, q⟩ := h
  cases rx
  cases rxs with
  | cons ry rt =>
    rename_i uy ut
    cases rt
    obtain ⟨its, rv, ⟨⟨cls, dd, data, sl⟩, n, ho, hc, hdn, hd⟩, hlen⟩ := I.list hs
    simp only at hc hd
    subst hc hd
    refine call_meets PySem.F.slot_list_count ⟨_, ho, rfl⟩ PySem.F.entry_list_count (PySem.F.args_list_count_2 _ _)
      (SeqAt.list_countAt a its.toArray n dd sl uy (eqU y)) ⟨ho, fun u' hu' => mem_eqAt ry fy rv fys u' (by simpa using hu'), ?_⟩
    refine ⟨.int ((ys.countP fun z => eqV z y : Nat) : Int), H, I.tok _, ⟨s.toks, ?_⟩, q⟩
    show Value.int ((its.countP (eqU y) : Nat) : Int) s.toks = _
    rw [cnt_of (uy := uy) fy rv fys]
end
section
variable {prog : Program} {w : World} {A : Around} {E : Value → Shared → Prop} {s : Shared}
theorem pyNext_list_end_hot {it l x1 : Addr} {i : Nat} {items : Array Value} {Q : Option Value → Shared → Prop} (hot : HotX.HotAt A x1 s.heap) (hit : s.heap.IsListIter it l i) (hl : s.heap.IsList l items) (hx : items[i]? = none) (hne : x1 ≠ it)
    (hQ : ∀ h', (∀ b o, b ≠ it → s.heap.get? b = some o → h'.get? b = some o) → Q none { s with heap := h' }) : wpAny (model prog w) A (pyNext (.ref it)) Q E s := by
  obtain ⟨hh, o1, vs1, h1, d1, c1⟩ := hot
  obtain ⟨o, ho, hc, hd⟩ := id hit
  obtain ⟨ol, hol, _, nl, hdl⟩ := hl
  unfold pyNext
  refine wpAny_bind (wpAny_attempt (wpAny_callSpecial?_slot (name := Str.ofString "__next__") hit.typeIs slot_listiter_next
    (wpAny_call_entry slot_listiter_next hit.typeIs entry_listiter_next ?_ (args_listiter_next _))))
  show wpAny _ _ (field (.ref it) 0 >>= _) _ _ s
  refine wpAny_bind (wpAny_field ho hd (x := .ref l) rfl ?_)
  show wpAny _ _ (if (Value.ref l == Value.none) = true then _ else _) _ _ s
  rw [if_neg (show ¬ ((Value.ref l == Value.none) = true) from Bool.false_ne_true)]
  show wpAny _ _ (field (.ref it) 1 >>= _) _ _ s
  refine wpAny_bind (wpAny_field ho hd (x := .int i 0) rfl ?_)
  show wpAny _ _ (seqItems? (.ref l) >>= _) _ _ s
  refine wpAny_bind (wpAny_seqItems hol hdl ?_)
  simp only [Int.toNat_natCast, hx]
  refine wpAny_bind (wpAny_rule (wpAny_bind (wpAny_setField ho hd (by simp) ?_)))
  show wpAny _ _ (newExc (.type "StopIteration") [] >>= _) _ _ _
  refine wpAny_bind ?_
  simp only [newExc, newTuple]
  refine wpAny_bind (wpAny_newObj_type ?_ (by size_fits))
  refine wpAny_bind (m := firstArgMember _ _) (wpAny_of_eq (a := Value.none) (by first | rfl | (simp only [firstArgMember]; rfl)) ?_)
  refine wpAny_newObj_type ?_ (by size_fits)
  have k1 : ∀ b o, b ≠ it → s.heap.get? b = some o → (s.heap.update it (Obj.mapFields (·.setIfInBounds 0 Value.none))).get? b = some o := fun b o hb e => by
    rw [Heap.get?_update_other _ _ (Ne.symm hb)]
    exact e
  refine HotX.raiseNew_hot ⟨hh, o1, vs1, Heap.get?_push_of_some _ (Heap.get?_push_of_some _ (k1 _ _ hne h1)), d1, c1⟩ (Nat.ne_of_lt (Heap.lt_size (Heap.get?_push_of_some _ (k1 _ _ hne h1)))) (Heap.get?_push_size _ rfl) rfl (by first | (simp; done) | (simp; omega) | (simp only [Array.size_append]; simp; omega)) ?_
  refine wpAny_bind (wpAny_isInstance (T := "StopIteration") (b := true) ⟨_, Heap.get?_update_self _ (Heap.get?_push_size _ rfl) rfl, rfl⟩ isSubtype_stop ?_)
  refine wpAny_pure (hQ _ fun b o hb e => ?_)
  rw [Heap.get?_update_other _ _ (Nat.ne_of_gt (Heap.lt_size (Heap.get?_push_of_some _ (k1 _ _ hb e))))]
  exact Heap.get?_push_of_some _ (Heap.get?_push_of_some _ (k1 _ _ hb e))
end
/-! ### a comprehension over a list, an exception being handled -/
section
variable {X : Cx}
theorem list_itemH {tg : Expr} {a it : Addr} {i : Nat} {pins : List (Addr × Obj)} {s : Shared} {σ : L2.St} {H : Hp} {E : Value → Shared → Prop} (I : Inv X pins σ H s) (hf : FpOk X pins H it) (st : s.heap.IsListIter it a i) (hg : (Itl X.K a).go i H) :
    wpAny (model X.prog X.w) X.A (pyNext (.ref it)) (fun r s1 => ∃ u, r = some u ∧
      wpAny (model X.prog X.w) X.A (letOwnedTupleGo tg (.ref it) u) (fun _ s2 => ∃ x H', Inv X pins σ H' s2 ∧ RelV x u ∧ (Itl X.K a).yld i H x H' ∧ s2.heap.IsListIter it a (i + 1) ∧ H' it = none) E s1) E s := by
  obtain ⟨xs, x, hq, hx⟩ := hg
  obtain ⟨its, rv, p, hz⟩ := I.list hq
  obtain ⟨u, hu, ru⟩ := rv.get hx
  obtain ⟨f0, f1, f2, f3, f4, f5⟩ := hf
  refine wpAny_pyNext_list_item st p.isList (x := u) (by simpa using hu) fun h' st' sb => ?_
  have I1 : Inv X pins σ H { s with heap := h' } := I.turned (t' := s.toks) (fun b o hb e => (sb.2 b hb).trans e) f0 f1 f3 f4 f5
  obtain ⟨o, e, c, d⟩ := id st'
  exact ⟨u, rfl, go_of (s := { s with heap := h' }) e c d (by decide) ⟨x, H, I1, ru, ⟨rfl, fun ys hy => by rw [I.list_inj hy hq]; exact hx⟩, st', f0⟩⟩
theorem list_doneH {a it : Addr} {i : Nat} {p : Addr × Obj} {pins : List (Addr × Obj)} {s : Shared} {σ : L2.St} {H : Hp} {E : Value → Shared → Prop} (hot : L2H.Hot1 X.A p) (hp : p ∈ X.pn ++ pins) (I : Inv X pins σ H s) (hf : FpOk X pins H it) (st : s.heap.IsListIter it a i) (hg : (Itl X.K a).stop i H) :
    wpAny (model X.prog X.w) X.A (pyNext (.ref it)) (fun r s1 => r = none ∧ Inv X pins σ H s1) E s := by
  obtain ⟨xs, hq, hx⟩ := hg
  obtain ⟨its, rv, pl, hz⟩ := I.list hq
  obtain ⟨f0, f1, f2, f3, f4, f5⟩ := hf
  have hl := rv.length
  obtain ⟨hh, v1, e1, c1⟩ := hot
  exact pyNext_list_end_hot ⟨hh, p.2, v1, (I.pin p hp).1, e1, c1⟩ st pl.isList (by simp; omega) (f5 p hp) fun h' eb => ⟨rfl, I.turned (t' := s.toks) (fun b o hb e => eb b o hb e) f0 f1 f3 f4 f5⟩
/-- the block's state bears the handled exception as a pin -/
theorem pin_blk {scope : Scope} {cenv : Env} {fp : List Addr} {p : Addr × Obj} {s3 s4 : Shared} {H3 : Hp} {σ : L2.St} (I : Inv (X.blk s3 H3 scope cenv fp) [] σ H3 s4) (h1 : s4.heap.get? p.1 = some p.2) (h2 : H3 p.1 = none) (h3 : p.1 ≠ cenv.locals) (h4 : p.1 ∉ frs X.stack) (h5 : ∀ v, p.2.data ≠ .cell v) :
    Inv (X.blk s3 H3 scope cenv fp) [p] σ H3 s4 :=
  { ok := I.ok, os := I.os, bare := I.bare, base := I.base, loc := I.loc, cell := I.cell, free := I.free, freeC := I.freeC, hok := I.hok, len := I.len,
    pin := fun q hq => by
      have e : q = p := by simpa using (show q ∈ ([] : List (Addr × Obj)) ++ [p] from hq)
      subst e
      exact ⟨h1, h2, h3, h4, h5⟩ }
theorem lc_hot {pins : List (Addr × Obj)} {s : Shared} {σ : L2.St} {H : Hp} {Q : VK} {elt tg iter : Expr} {ifs : List Expr} {scope : Scope} {own : List (Str × Nat)} {pos pos' : Pos} {tl : TE} {g : TG} {tt : TT} {te : TE} {use : Option (Value → Sem Unit)} {Qf : Value → Shared → Prop}
    (hot : L2H.HotC X) (hN : X.N.Nodup) (I : Inv X pins σ H s) (hl : PE X iter tl) (ok : BlkOk X.N X.env.scope scope own)
    (hg : ∀ (s : Shared) (H : Hp) (C : Addr) (cl : List (Str × Addr)) (fp : List Addr), PG (X.blk s H scope (compEnvC scope cl C X.env) fp) tg g) (ht : ∀ (s : Shared) (H : Hp) (C : Addr) (cl : List (Str × Addr)) (fp : List Addr), PTs (X.blk s H scope (compEnvC scope cl C X.env) fp) ifs tt)
    (he : ∀ (s : Shared) (H : Hp) (C : Addr) (cl : List (Str × Addr)) (fp : List Addr), PE (X.blk s H scope (compEnvC scope cl C X.env) fp) elt te) (hs : ∀ x, foldedSetIterable iter X.env x = pure x)
    (h : tLc (iList X.K tl) g tt te (own.map (·.2)) σ H Q)
    (hR : ∀ D C s' m H', Inv X pins σ H' s' → Q (.ref D) H' → s'.heap.Ns C m → FpOk X pins H' C → compPost (model X.prog X.w) X.A X.xe use Qf (.ref D) C (.ok .next) s') :
    wpAny (model X.prog X.w) X.A (comprehension (.ListComp elt [⟨tg, iter, ifs, 0⟩] scope pos) scope X.env pos' (newList []) false (eval iter X.env) use) Qf X.xe s := by
  obtain ⟨p, hp1, hpX⟩ := hot
  have hfree : ∀ y ∈ scope.names, y.2 = .free → ∃ c, X.env.cells.lookup y.1 = some c := fun y hy e => (ok.free y hy e).elim (fun k => I.ok.has _ (.inl k)) fun k => I.ok.has _ (.inr k)
  refine wpAny_comprehension_free (use := use) rfl hs (closure_ok hfree) ok.kind (fun y hy e => by rw [ok.uniq y hy, e]) (thn (hl.run pins s σ H _ I h) fun xv s1 ⟨xx, H2, I1, r1, q1⟩ => ?_)
  obtain ⟨a, rfl, ⟨xs, hq⟩, q⟩ := q1
  cases r1
  obtain ⟨its, rv, pl, hz⟩ := I1.list hq
  refine wpAny_pyIter_list pl.isList ?_
  generalize hit : s1.heap.objs.size = it
  have I2 : Inv X pins σ H2 { s1 with heap := s1.heap.push { cls := .type "list_iterator", data := .fields #[.ref a, .int 0 0] } } := I1.kept (t' := s1.toks) fun b o e => Heap.get?_push_of_some _ e
  have st2 : ({ s1 with heap := s1.heap.push { cls := .type "list_iterator", data := .fields #[.ref a, .int 0 0] } } : Shared).heap.IsListIter it a 0 := by
    rw [← hit]
    exact ⟨_, Heap.get?_push_size _ rfl, rfl, rfl⟩
  have f2 : FpOk X pins H2 it := by
    rw [← hit]
    exact I1.fpOk (Nat.le_refl _) (I1.hok.fresh (Nat.le_refl _))
  generalize ({ s1 with heap := s1.heap.push { cls := .type "list_iterator", data := .fields #[.ref a, .int 0 0] } } : Shared) = s2 at I2 st2 ⊢
  refine wpAny_newObj_type (newEnv_comp ?_) (by show 0 ≤ sizeLine; decide)
  generalize hD : s2.heap.objs.size = D
  have hDn : H2 D = none := I2.hok.fresh (Nat.le_of_eq hD)
  obtain ⟨W, ⟨m0, w0⟩, turn⟩ := q D hDn
  have hDit : it ≠ D := by
    obtain ⟨o, e, _⟩ := st2
    rw [← hD]
    exact Nat.ne_of_lt (Heap.lt_size e)
  have kD : ∀ b o, s2.heap.get? b = some o → (s2.heap.push { cls := .type "list", data := .seq ([] : List Value).toArray }).get? b = some o := fun b o e => Heap.get?_push_of_some _ e
  have hpD : ∀ b o, s2.heap.get? b = some o → b ≠ D := fun b o e => by
    rw [← hD]
    exact Nat.ne_of_lt (Heap.lt_size e)
  have I3 : Inv X pins σ (upd H2 D (.lst [])) { s2 with heap := s2.heap.push { cls := .type "list", data := .seq ([] : List Value).toArray } } :=
    I2.laid (t' := s2.toks) kD (Nat.le_of_eq hD) ⟨Nat.zero_le _, [], 0, .nil, by rw [← hD]; exact Heap.get?_push_size _ rfl⟩
  have st3 : ({ s2 with heap := s2.heap.push { cls := .type "list", data := .seq ([] : List Value).toArray } } : Shared).heap.IsListIter it a 0 := st2.at fun o e => kD _ _ e
  have f3 : FpOk X pins (upd H2 D (.lst [])) it := ⟨by rw [upd_ne hDit]; exact f2.1, f2.2⟩
  generalize ({ s2 with heap := s2.heap.push { cls := .type "list", data := .seq ([] : List Value).toArray } } : Shared) = s3 at I3 st3 ⊢
  have lt3 : it < s3.heap.objs.size := by
    obtain ⟨o, e, _⟩ := st3
    exact Heap.lt_size e
  have hf3 : ∀ b ∈ [it], FpOk X pins (upd H2 D (.lst [])) b ∧ b < s3.heap.objs.size := fun b hb => by
    have e : b = it := by simpa using hb
    rw [e]
    exact ⟨f3, lt3⟩
  have I4 := block_start I3 ok hN hf3
  have pg := hg s3 (upd H2 D (.lst [])) s3.heap.objs.size (cellsFrom (s3.heap.objs.size + 1) scope.names (cloFrom X.env.cells scope.names [])) [it]
  have pt := ht s3 (upd H2 D (.lst [])) s3.heap.objs.size (cellsFrom (s3.heap.objs.size + 1) scope.names (cloFrom X.env.cells scope.names [])) [it]
  have pe := he s3 (upd H2 D (.lst [])) s3.heap.objs.size (cellsFrom (s3.heap.objs.size + 1) scope.names (cloFrom X.env.cells scope.names [])) [it]
  show codeAny _ _ (.compStart (.ListComp elt [⟨tg, iter, ifs, 0⟩] scope pos) 0 (.ref it) (.ref D) (compEnvC scope (cellsFrom (s3.heap.objs.size + 1) scope.names (cloFrom X.env.cells scope.names [])) s3.heap.objs.size X.env)) (compPost (model X.prog X.w) X.A X.xe use Qf (.ref D) s3.heap.objs.size) { s3 with heap := pushCells (s3.heap.push { cls := .type "dict", data := .dict #[] }) scope.names }
  generalize hce : compEnvC scope (cellsFrom (s3.heap.objs.size + 1) scope.names (cloFrom X.env.cells scope.names [])) s3.heap.objs.size X.env = ce at I4 pg pt pe ⊢
  have cL : ce.locals = s3.heap.objs.size := by rw [← hce]; rfl
  generalize hH3 : upd H2 D (.lst []) = H3 at I3 I4 pg pt pe w0 f3
  have kp : ∀ b o, s3.heap.get? b = some o → (pushCells (s3.heap.push { cls := .type "dict", data := .dict #[] }) scope.names).get? b = some o := fun b o e => pushCells_keeps _ _ _ _ (Heap.get?_push_of_some _ e)
  have st4 : ({ s3 with heap := pushCells (s3.heap.push { cls := .type "dict", data := .dict #[] }) scope.names } : Shared).heap.IsListIter it a 0 := st3.at fun o e => kp _ _ e
  obtain ⟨pin1, pin2, pin3, pin4, pin5⟩ := I3.pin p (List.mem_append_left _ hpX)
  have hpit : p.1 ≠ it := f3.2.2.2.2.2 p (List.mem_append_left _ hpX)
  have I5 : Inv (X.blk s3 H3 scope ce [it]) [p] (wipe σ (own.map (·.2))) H3 { s3 with heap := pushCells (s3.heap.push { cls := .type "dict", data := .dict #[] }) scope.names } :=
    pin_blk I4 (kp _ _ pin1) pin2 (by rw [cL]; exact Nat.ne_of_lt (Heap.lt_size pin1)) (fun z => (List.mem_cons.mp (I3.stkSub _ z)).elim pin3 pin4) pin5
  generalize ({ s3 with heap := pushCells (s3.heap.push { cls := .type "dict", data := .dict #[] }) scope.names } : Shared) = s4 at I5 st4 ⊢
  clear I4
  have stat : ∀ {σ' : L2.St} {H' : Hp} {s' : Shared}, Inv (X.blk s3 H3 scope ce [it]) [p] σ' H' s' → H' it = none → FpOk (X.blk s3 H3 scope ce [it]) [p] H' it := fun {σ' H' s'} I' hn => by
    have hm : it ∈ [it] := List.mem_cons_self
    refine ⟨hn, (I'.ok.exf it hm).1, I'.ok.exfs it hm, .inl hm, fun x c e => (I'.ok.exf it hm).2 x c e, fun r hr => ?_⟩
    have e : r = p := by simpa using (show r ∈ ([] : List (Addr × Obj)) ++ [p] from hr)
    rw [e]
    exact hpit
  have loop : codeAny (model X.prog X.w) X.A (.compLoop (.ListComp elt [⟨tg, iter, ifs, 0⟩] scope pos) 0 (.ref it) (.ref D) ce) (compPost (model X.prog X.w) X.A X.xe use Qf (.ref D) s3.heap.objs.size) s4 := by
    refine compLoop_any (fun n s' => ∃ i H', Inv (X.blk s3 H3 scope ce [it]) [p] (wipe σ (own.map (·.2))) H' s' ∧ s'.heap.IsListIter it a i ∧ H' it = none ∧ W i n H') ?_ m0 ⟨0, H3, I5, st4, f3.1, w0⟩
    rintro n s5 ⟨i, H5, I6, st5, n5, w5⟩
    rcases turn i n H5 w5 with ⟨stop, qq⟩ | ⟨go, Nx, hNx, step⟩
    · refine thnF (list_doneH (X := X.blk s3 H3 scope ce [it]) (E := fun _ _ => False) hp1 (List.mem_append_right _ List.mem_cons_self) I6 (stat I6 n5) st5 stop) fun r s6 ⟨hr, I7⟩ => ?_
      subst hr
      have I8 : Inv X pins σ H5 s6 := I3.call' (ch := [it]) I7.os I7.base I7.hok I7.bare fun b hb => by
        have e : b = it := by simpa using hb
        rw [e]
        exact ⟨f3.2.2.2.1, f3.2.1, f3.2.2.2.2.1, f3.2.2.2.2.2⟩
      have nC : H5 s3.heap.objs.size = none := by
        have z : H5 ce.locals = none := I7.free
        rw [cL] at z
        exact z
      obtain ⟨m, hn, _⟩ := I7.loc
      have hn : s6.heap.Ns ce.locals m := hn
      rw [cL] at hn
      exact hR D s3.heap.objs.size s6 m H5 I8 qq hn (I3.fpOk (Nat.le_refl _) nC)
    · refine thnF (list_itemH (X := X.blk s3 H3 scope ce [it]) (tg := tg) (E := fun _ _ => False) I6 (stat I6 n5) st5 go) fun r s6 ⟨u, hr, h6⟩ => ?_
      subst hr
      refine thnF h6 fun _ s7 ⟨x, H7, I7, r7, y7, st7, n7⟩ => ?_
      have hob : ∀ b ∈ [it], ∃ o, s7.heap.get? b = some o ∧ ∀ v, o.data ≠ .cell v := fun b hb => by
        have e : b = it := by simpa using hb
        rw [e]
        obtain ⟨o, e1, _, d1⟩ := id st7
        exact ⟨o, e1, fun v z => by rw [d1] at z; cases z⟩
      have I7' := I7.pinned (fp := [it]) (fun b hb => by
        have e : b = it := by simpa using hb
        rw [e]
        exact stat I7 n7) hob
      refine thnF (pg.run _ s7 _ H7 x u _ I7' r7 (step x H7 y7)) fun _ s8 ⟨σ8, H8, I8, hw8, q8⟩ => ?_
      refine thnF (pt.run _ s8 σ8 H8 _ I8 q8) fun b s9 ⟨H9, I9, q9⟩ => ?_
      have fin : ∀ {s' : Shared} {H' : Hp}, Inv (X.blk s3 H3 scope ce [it]) ([p] ++ pinsAt [it] s7.heap) σ8 H' s' → Nx H' → ∃ m, m < n ∧ ∃ i H', Inv (X.blk s3 H3 scope ce [it]) [p] (wipe σ (own.map (·.2))) H' s' ∧ s'.heap.IsListIter it a i ∧ H' it = none ∧ W i m H' := fun {s' H'} I' nx => by
        obtain ⟨m', hm, w'⟩ := hNx H' nx
        obtain ⟨o, e1, _⟩ := id st7
        have pp := I'.pin (it, o) (List.mem_append_right _ (List.mem_append_right _ (mem_pinsAt List.mem_cons_self e1)))
        have hl : (wipe σ (own.map (·.2))).length = σ8.length := by rw [← hw8, wipe_length]
        refine ⟨m', hm, i + 1, H', (I'.unpinned (pins := [p])).weak hl (fun j v e => ?_), st7.at fun o' e' => ?_, pp.2.1, w'⟩
        · rw [← hw8] at e
          exact (wipe_some e).1
        · rw [e1] at e'
          cases e'
          exact pp.1
      cases b with
      | false =>
        simp only [Bool.false_eq_true, if_false] at q9 ⊢
        exact fin I9 q9
      | true =>
        simp only [if_true] at q9 ⊢
        refine thnF (pe.run _ s9 σ8 H9 _ I9 q9) fun z s10 ⟨yv, H10, I10, r10, acc, hD10, hz10, nx⟩ => ?_
        exact app_ok (X := X.blk s3 H3 scope ce [it]) I10 hD10 hz10 r10 fun s11 I11 => fin I11 nx
  exact codeAny_compStart_list loop (wpAny_pyIter_listiter st4 loop)
theorem pe_lcH {elt tg iter : Expr} {ifs : List Expr} {scope : Scope} {own : List (Str × Nat)} {pos : Pos} {tl : TE} {g : TG} {tt : TT} {te : TE} (hot : L2H.HotC X) (hN : X.N.Nodup) (hl : PE X iter tl) (ok : BlkOk X.N X.env.scope scope own)
    (hg : ∀ (s : Shared) (H : Hp) (C : Addr) (cl : List (Str × Addr)) (fp : List Addr), PG (X.blk s H scope (compEnvC scope cl C X.env) fp) tg g) (ht : ∀ (s : Shared) (H : Hp) (C : Addr) (cl : List (Str × Addr)) (fp : List Addr), PTs (X.blk s H scope (compEnvC scope cl C X.env) fp) ifs tt)
    (he : ∀ (s : Shared) (H : Hp) (C : Addr) (cl : List (Str × Addr)) (fp : List Addr), PE (X.blk s H scope (compEnvC scope cl C X.env) fp) elt te) (hs : ∀ x, foldedSetIterable iter X.env x = pure x := by intro _; rfl) :
    PE X (.ListComp elt [⟨tg, iter, ifs, 0⟩] scope pos) (tLc (iList X.K tl) g tt te (own.map (·.2))) := by
  refine ⟨fun pins s σ H Q I h => ?_⟩
  rw [eval_ListComp]
  refine lc_hot hot hN I hl ok hg ht he hs h fun D C s' m H' I' q hn f => ⟨m, hn, fun h'' sb => ?_⟩
  obtain ⟨f0, f1, f2, f3, f4, f5⟩ := f
  exact ⟨.ref D, H', I'.turned (t' := s'.toks) (fun b o hb e => (sb.2 b hb).trans e) f0 f1 f3 f4 f5, rfl, q⟩
theorem kpLcH {K : PySem.W.Frag} {elt tg iter : Expr} {ifs : List Expr} {scope : Scope} {own : List (Str × Nat)} {pos : Pos} {tl : TE} {g : TG} {tt : TT} {te : TE} (h : X.K = K) (hot : L2H.HotC X) (hN : X.N.Nodup) (hl : PE X iter tl) (ok : BlkOk X.N X.env.scope scope own)
    (hg : ∀ (s : Shared) (H : Hp) (C : Addr) (cl : List (Str × Addr)) (fp : List Addr), PG (X.blk s H scope (compEnvC scope cl C X.env) fp) tg g) (ht : ∀ (s : Shared) (H : Hp) (C : Addr) (cl : List (Str × Addr)) (fp : List Addr), PTs (X.blk s H scope (compEnvC scope cl C X.env) fp) ifs tt)
    (he : ∀ (s : Shared) (H : Hp) (C : Addr) (cl : List (Str × Addr)) (fp : List Addr), PE (X.blk s H scope (compEnvC scope cl C X.env) fp) elt te) (hs : ∀ x, foldedSetIterable iter X.env x = pure x := by intro _; rfl) :
    PE X (.ListComp elt [⟨tg, iter, ifs, 0⟩] scope pos) (tLc (iList K tl) g tt te (own.map (·.2))) := h ▸ pe_lcH hot hN hl ok hg ht he hs
theorem kMtIndex {X : Cx} (K : PySem.W.Frag) (h : X.K = K) : MtR X "list.index" (rIndex K) := h ▸ mt_index
theorem kMtCount {X : Cx} (K : PySem.W.Frag) (h : X.K = K) : MtR X "list.count" (rCntF K) := h ▸ mt_lcountF
theorem kpBm {X : Cx} (K : PySem.W.Frag) (h : X.K = K) {o e : Expr} {es : List Expr} {to : TE} {t : TA} {T id : String} {name : Str} {r : V → List V → Hp → VK → Prop} {apos cpos : Pos} (pa : PlainAttrs T) (slot : Slot T name id) (hty : typeOf (.builtin id) = pure (.type "method_descriptor")) (hm : MtR X id r) (ho : PE X o to) (ha : PA X (e :: es) t)
    (hbase : attributeBase o name X.env (eval o X.env) = eval o X.env := by rfl)
    (hfew : ((backTo cpos (starEach (e :: es) X.env)).all (fun x => !x.1) && (backToKw cpos (keywordEach [] X.env)).all (fun x => x.1.isSome)
      && decide ((e :: es).length + ([] : List Keyword).length + (if ([] : List Keyword).isEmpty then 0 else 1) < 30)) = true := by rfl)
    (hline : (apos.endLine == cpos.line) = true := by rfl) (hs : starEach (e :: es) X.env = (false, eval e X.env) :: starEach es X.env := by rfl) (hplain : (backTo cpos (starEach es X.env)).any (·.1) = false := by rfl) :
    PE X (.Call (.Attribute o name apos) (e :: es) [] cpos) (tBM K T r to t) := h ▸ pe_bm pa slot hty hm ho ha hbase hfew hline hs hplain
/-- the suite of a try bears the exception that was caught -/
theorem hotSuite {X : Cx} {a : Addr} {oe : Obj} {cls : Value} {d : Option Addr} {pn : List (Addr × Obj)} (hz : L2N.Zn cls d oe) (hf : ∃ vs, oe.data = .fields vs) : L2H.HotC (X.suite a ((a, oe) :: pn)) := by
  obtain ⟨vs, e⟩ := hf
  exact ⟨(a, oe), ⟨rfl, vs, e, hz.2.2 vs e⟩, List.mem_cons_self⟩
end
/-! ### own errors, their context told: that none stands there -/
section
variable {X : Cx} {o e : Expr} {es : List Expr} {ta : TA} {x : Str} {S : Addr} {p p1 p2 pos : Pos}
/-- the end of C(): the exception is let go -/
theorem mk_endZN {pins : List (Addr × Obj)} {σ : L2.St} {H1 H2 : Hp} {Q : XK} {hp hp2 h2 : Heap} {g1 g2 : Array GenState} {d1 d2 : Drawn} {t1 t2 : Nat} {os1 os2 : OsState} {a C : Addr} (T : Raises X (.ref C)) (I1 : Inv X pins σ H1 ⟨hp, g1, d1, t1, os1⟩)
    (ha : hp.objs.size ≤ a) (k : ∀ b o, hp.get? b = some o → hp2.get? b = some o) (un : Un (frs X.stack) [] (upd H1 a (exo a C none)) H2 hp2 h2) (hok : HOk X.prog X.w H2 h2) (ho : os2 = os1) (hb : AllBare g2)
    (ea : H2 a = some (exo a C none)) (q : Q (.ref C) none (del H2 a)) : L2N.MkP X pins σ Q (.ref a) ⟨h2, g2, d2, t2, os2⟩ := by
  obtain ⟨t0, hoe⟩ := exo_at hok ea
  have hn : H1 a = none := I1.hok.fresh ha
  obtain ⟨G, g1', g2'⟩ := restrict h2 fun b => decide (b ≠ a)
  have gk : ∀ b, b ≠ a → G.get? b = h2.get? b := fun b hb => g1' b (decide_eq_true hb)
  have ge : G.get? a = none := g2' a (by simp)
  have nha : ∀ {b : Addr} {o : Obj}, hp.get? b = some o → b ≠ a := fun {b o} z => Nat.ne_of_lt (Nat.lt_of_lt_of_le (Heap.lt_size z) ha)
  have up : ∀ {b : Addr}, b ≠ a → H1 b = none → upd H1 a (exo a C none) b = none := fun {b} hb n => by rw [upd_ne hb]; exact n
  have U : Un (frs X.stack) [] H1 (del H2 a) hp G := {
    keep := fun b o z n hf hx => by
      rw [gk b (nha z)]
      exact un.keep b o (k b o z) (up (nha z) n) hf hx
    slot := fun b o z n hf hx => by
      rw [gk b (nha z)]
      exact un.slot b o (k b o z) (up (nha z) n) hf hx
    free := fun b o z n hx => by
      rw [del_ne (nha z)]
      exact un.free b o (k b o z) (up (nha z) n) hx
    there := fun b o z hx => by
      rw [gk b (nha z)]
      exact un.there b o (k b o z) hx
    tups := fun b xs z => by
      rw [del_ne (ne_of_none z hn)]
      exact un.tups b xs (by rw [upd_ne (ne_of_none z hn)]; exact z)
    frzs := fun b o v z => by
      rw [del_ne (ne_of_none z hn)]
      exact un.frzs b o v (by rw [upd_ne (ne_of_none z hn)]; exact z)
    tbls := fun b ps z => by
      rw [del_ne (ne_of_none z hn)]
      exact un.tbls b ps (by rw [upd_ne (ne_of_none z hn)]; exact z) }
  have hok3 : HOk X.prog X.w (del H2 a) G := fun b o z => by
    have hba : b ≠ a := fun e => by
      rw [e, del_same] at z
      cases z
    rw [del_ne hba] at z
    have noa : ∀ {c : Addr}, H2 c = some (.own b) → c ≠ a := fun {c} hc => at_ne ea hc exo_own
    exact (hok b o z).stay (fun c v hc y => by
        have hca : c ≠ a := by
          rcases hc with hc | hc
          · rw [hc]
            exact hba
          · exact noa hc
        rw [gk c hca]
        exact y)
      (fun c hc => by rw [del_ne (noa hc)]; exact hc) (fun c xs hc => by rw [del_ne (at_ne ea hc exo_tup)]; exact hc)
  have J : Inv X pins σ (del H2 a) ⟨G, g2, d2, t2, os2⟩ := I1.call' (ch := []) ho U hok3 hb (fun b z => absurd z (by simp))
  refine ⟨a, _, _, ⟨G, g2, d2, t2, os2⟩, _, .ref C, none, rfl, J, fun b o z => ?_, ge, hoe, ⟨rfl, rfl, fun vs e => by cases e; rfl⟩, rfl, rfl, del_same, rfl, hb, T, q⟩
  by_cases hba : b = a
  · rw [hba, ge] at z
    cases z
  · exact (gk b hba).symm.trans z
theorem pmk_zN {CX : CXT} {C fI : Addr} {k : Nat} {fd : FuncData} {ps : List Str} {sp : Sp} (T : OexC X.K C) (iC : PySem.W.findIn X.K (.ref C) "__init__" = some (some (.ref fI))) (tI : PySem.W.typeIn X.K (.ref fI) = some (.type "function"))
    (F1 : FnOk X.prog X.w X.K X.mg X.base CX k fI fd ps sp) (hr : Room (k + 1) X.A) (hb : Binds X.K fd ps []) (hx : Passes CX X (fun _ _ _ => False)) (hg : Gl X x) (hm : X.mg x = some (.ref C))
    (hdb : (x == ("__debug__" : Str)) = false := by decide) :
    L2N.PMk X (.Call (.Name x p) [] [] pos) (tMkZ C sp) := by
  intro pins s σ H Q I h
  obtain ⟨nm, q, N, bs, bm, sn, sub, ab, col, dd, k0, k1, k2, k3, k5, hC, hbm⟩ := T.cls
  refine wpAny_Call_Name_kw (ld_glob I hg hm ?_ hdb)
  refine PySem.W.callWith_K0 I.kIn T.kC ?_
  show wpAny _ _ (call (.ref C) []) _ _ _
  obtain ⟨hp, g, dr, tk, os⟩ := s
  have hsz : hp.objs.size ≤ hp.objs.size + 1 := Nat.le_succ _
  have hn : H (hp.objs.size + 1) = none := I.hok.fresh hsz
  have hq := h (hp.objs.size + 1) hn
  have kk : ∀ b o, hp.get? b = some o → ((hp.push (PySem.W.kdv_tup [])).push (PySem.HandSPX.excO C hp.objs.size)).get? b = some o := fun b o e => Heap.get?_push_of_some _ (Heap.get?_push_of_some _ e)
  have hget : ((hp.push (PySem.W.kdv_tup [])).push (PySem.HandSPX.excO C hp.objs.size)).get? (hp.objs.size + 1) = some (PySem.HandSPX.excO C hp.objs.size) := by heap_get
  have I2 : Inv X pins σ (upd H (hp.objs.size + 1) (exo (hp.objs.size + 1) C none)) ⟨(hp.push (PySem.W.kdv_tup [])).push (PySem.HandSPX.excO C hp.objs.size), g, dr, tk, os⟩ :=
    I.laid (t' := tk) (a := hp.objs.size + 1) (o := exo (hp.objs.size + 1) C none) (h' := (hp.push (PySem.W.kdv_tup [])).push (PySem.HandSPX.excO C hp.objs.size)) kk hsz (exo_ok hget)
  have r2 : Vals [V.ref (hp.objs.size + 1)] [Value.ref (hp.objs.size + 1)] := .cons rfl .nil
  have hl : (Value.ref (hp.objs.size + 1) :: ([] : List Value) ++ []).length = ps.length := by
    have e := r2.length
    rw [F1.len _ _ _ _ hq] at e
    exact e.symm
  refine wpAny_call (PySem.HandSPX.call_own F.excBase_ValueError (fun Y => PySem.HandSPX.refsVE_contains Y bm hbm) (I.kIn _ _ hC) (PySem.W.looks_findIn I.kIn iC) (fun self => PySem.W.bind_fn I.kIn self tI) (by rw [sizeLine_eq]; decide)
    (codeAny_mono (F1.run _ X.stack _ _ ⟨[Value.ref (hp.objs.size + 1)], []⟩ [Value.ref (hp.objs.size + 1)] _ _ (fun _ _ _ => False) (hr.make C [] []) (I2.env0.make C [] []) (hb _ [Value.ref (hp.objs.size + 1)] I2.kIn hl) r2 hq) fun r s' hq' => ?_))
  cases r with
  | error er => exact hx pins σ _ _ er s' I2 hq'
  | ok fl =>
    cases fl with
    | ret u =>
      obtain ⟨v, H2, os2, bare2, un2, hok2, rv, ev, ea, q2⟩ := hq'
      subst ev
      obtain ⟨h2, g2, d2, t2, os'⟩ := s'
      exact ⟨rv, mk_endZN (raises_own T.exC T.tyC) I hsz kk un2 hok2 os2 bare2 ea q2⟩
    | next => exact False.elim hq'
    | brk => exact False.elim hq'
    | cont => exact False.elim hq'
end
theorem takesN0 {X : Cx} : L2N.Takes X (fun _ _ _ _ => False) := fun _ _ x => by
  obtain ⟨_, _, _, _, _, _, _, _, _, _, _, _, _, _, _, _, z⟩ := x
  exact z.elim
theorem passLN {X : Cx} : Passes (L2N.CX X.prog X.w) X E0 := fun _ _ _ _ _ _ _ h => by
  obtain ⟨_, _, _, _, _, _, _, _, _, _, _, _, z⟩ := h
  exact z.elim
section
variable {P : Program} {w : World} {K : PySem.W.Frag} {mg : Str → Option Value} {base : Heap} {CX : CXT} {k : Nat} {f : Addr} {fd : FuncData} {ps : List Str} {sp sp1 sp2 : Sp}
theorem okXN {x qual : Str} {st : Stmt} {N : List Str} (F : Fun K x qual st f fd) (S : FnScope N ps (defScope st)) (len : ∀ vs H Q E, sp vs H Q E → vs.length = ps.length)
    (hbody : ∀ (cdv : Value) (A : Around) (outer : List Env) (s : Shared) (H : Hp) (vs : List V) (Q : VK) (E : XK), Room k (A.deeper (envOfC qual (defScope st) s.heap.objs.size f cdv)) → sp vs H Q E →
      ∃ t, PSs (cxOf (L2N.CX P w) P w K mg base N qual (defScope st) f cdv A outer s H E) (defBody st) t ∧ t { nx := fun _ H' => Q .non H', rt := Q } (L2.start N vs) H) : FnOk P w K mg base (L2N.CX P w) (k + 1) f fd ps sp := by
  obtain ⟨oc, od, kV, doc, pm, an, cdv, ct, osl, rfl, lk, hcd⟩ := F.ex
  exact fn_of lk hcd S len fun A outer s H vs Q E hr hsp => hbody cdv A outer s H vs Q E hr hsp
/-- what never raises is there among what may -/
theorem FnLift (F : FnOk P w K mg base CX0 k f fd ps sp) : FnOk P w K mg base CX k f fd ps sp :=
  ⟨F.len, fun A outer s H args us vs Q E r e b v h => codeAny_mono (F.run A outer s H args us vs Q E r e b v h) fun rr s' hh => by
    cases rr with
    | error e => exact False.elim hh
    | ok fl => cases fl <;> exact hh⟩
theorem FnOr (F : FnOk P w K mg base CX k f fd ps sp1) (G : FnOk P w K mg base CX k f fd ps sp2) : FnOk P w K mg base CX k f fd ps (fun vs H Q E => sp1 vs H Q E ∨ sp2 vs H Q E) :=
  ⟨fun vs H Q E h => h.elim (F.len vs H Q E) (G.len vs H Q E), fun A outer s H args us vs Q E r e b v h => h.elim (F.run A outer s H args us vs Q E r e b v) (G.run A outer s H args us vs Q E r e b v)⟩
end
theorem g_callN {sp : Sp} {W : WX} {t : TA} {σ : L2.St} {H : Hp} {Q : VK} (q : t σ H fun vs H1 => sp vs H1 Q (fun cls d H => W cls d σ H)) : tCallS sp (WE W) t σ H Q := q
/-- of two unlike own classes none above the other -/
theorem kit_two {K : PySem.W.Frag} {C D : Addr} (h1 : PySem.W.subIn K (.ref C) (.ref D) = some false) (h2 : PySem.W.subIn K (.ref C) (.ref C) = some true) (h3 : PySem.W.subIn K (.ref D) (.ref D) = some true) (h4 : PySem.W.typeIn K (.ref D) = some (.type "type")) :
    PySem.W.kitOne K (.ref C) (.ref D) = some false := by
  have hne : C ≠ D := fun e => by
    rw [e, h3] at h1
    cases h1
  unfold PySem.W.kitOne PySem.W.kitCls
  rw [if_neg (by intro z; exact hne (by cases (beq_iff_eq.mp z); rfl))]
  have h5 : (PySem.W.clsIn K D).isSome = true := by
    have h3' : PySem.W.mroIn K D (.ref D) = some true := h3
    unfold PySem.W.mroIn at h3'
    cases e : PySem.W.clsIn K D with
    | none => rw [e] at h3'; cases h3'
    | some c => rfl
  show (if ((PySem.W.clsIn K D).isSome && PySem.W.typeIn K (.ref D) == some (.type "type")) = true then PySem.W.subIn K (.ref C) (.ref D) else none) = some false
  rw [h5, h4, if_pos (by first | rfl | decide | simp)]
  exact h1
end Pf

/-! ### x == y, y of an own class with its own ==, x of a kind that the text did not make -/
namespace Pf
open PySem PySem.Spec PySem.Calls PyProof.Rows PySem.W PySem.SeqAt
open AutoSeq1 (wpAny_loadPart')
section
variable {l C dx : Addr}
theorem int_decl (b : Int) (u : Tok) : Meets (Builtin.«int.__eq__» ⟨[.int b u, .ref l], []⟩) (fun _ R s => s.heap.get? l = some (instObj C dx) ∧ R (.ok (.ret .notImplemented)) s) :=
  .of_wp fun prog w A R s h => by obtain ⟨hp, g, d, tk, os⟩ := s; obtain ⟨hl, h⟩ := h; wp_walk using wpAny_loadPart' hl, wpAny_load hl; exact ⟨_, rfl, h⟩
theorem bool_decl (b : Bool) : Meets (Builtin.«int.__eq__» ⟨[.bool b, .ref l], []⟩) (fun _ R s => s.heap.get? l = some (instObj C dx) ∧ R (.ok (.ret .notImplemented)) s) :=
  .of_wp fun prog w A R s h => by obtain ⟨hp, g, d, tk, os⟩ := s; obtain ⟨hl, h⟩ := h; wp_walk using wpAny_loadPart' hl, wpAny_load hl; exact ⟨_, rfl, h⟩
theorem str_decl (b : Str) (u : Tok) : Meets (Builtin.«str.__eq__» ⟨[.str b u, .ref l], []⟩) (fun _ R s => s.heap.get? l = some (instObj C dx) ∧ R (.ok (.ret .notImplemented)) s) :=
  .of_wp fun prog w A R s h => by obtain ⟨hp, g, d, tk, os⟩ := s; obtain ⟨hl, h⟩ := h; wp_walk using wpAny_loadPart' hl, wpAny_load hl; exact ⟨_, rfl, h⟩
end
section
variable {x y : Addr}
theorem list_decl : Meets (Builtin.«list.__eq__» ⟨[.ref y, .ref x], []⟩) (fun _ R s => (∀ (prog : Program) (w : World), Looks (model prog w) s.heap (isInstance (.ref x) (.type "list")) false) ∧ R (.ok (.ret .notImplemented)) s) :=
  .of_wp fun prog w A R s h => by obtain ⟨hp, g, d, tk, os⟩ := s; obtain ⟨hl, h⟩ := h; have hl := hl prog w; wp_walk using hl.here; exact ⟨_, rfl, h⟩
theorem tup_decl : Meets (Builtin.«tuple.__eq__» ⟨[.ref y, .ref x], []⟩) (fun _ R s => (∀ (prog : Program) (w : World), Looks (model prog w) s.heap (isInstance (.ref x) (.type "tuple")) false) ∧ R (.ok (.ret .notImplemented)) s) :=
  .of_wp fun prog w A R s h => by obtain ⟨hp, g, d, tk, os⟩ := s; obtain ⟨hl, h⟩ := h; have hl := hl prog w; wp_walk using hl.here; exact ⟨_, rfl, h⟩
theorem dict_decl : Meets (Builtin.«dict.__eq__» ⟨[.ref y, .ref x], []⟩) (fun _ R s => (∀ (prog : Program) (w : World), Looks (model prog w) s.heap (isInstance (.ref x) (.type "dict")) false) ∧ R (.ok (.ret .notImplemented)) s) :=
  .of_wp fun prog w A R s h => by obtain ⟨hp, g, d, tk, os⟩ := s; obtain ⟨hl, h⟩ := h; have hl := hl prog w; wp_walk using hl.here; exact ⟨_, rfl, h⟩
end
section
variable {prog : Program} {w : World} {A : Around} {E : Value → Shared → Prop} {s : Shared} {K : Frag} {x C f : Addr} {ox : Obj} {od : Option Obj} {a : Value} {Ta id : String}
theorem rc_refl (hu : A.units < cLine) (X : K.In s.heap) (I : InstAt s.heap x ox C od) (ha : s.TypeIs a Ta) (h0 : mroIn K C (.type Ta) = some false) (sl : Slot Ta (cmpInfo .Eq).2.1 id)
    (hc : ∀ Q' : Value → Shared → Prop, Q' .notImplemented s → wpAny (model prog w) A (call (.builtin id) [a, .ref x]) Q' E s)
    (hs : findIn K (.ref C) "__eq__" = some (some (.ref f))) (hf : isFn K (.ref f) = true) {Q : Value → Shared → Prop}
    (h : wpAny (model prog w) A (call (.ref f) [.ref x, a]) (PySem.W.CmpBack Q) E s) : wpAny (model prog w) A (richCompare .Eq a (.ref x)) Q E s := by
  have one : wpAny (model prog w) A (tryCompare (.ref x) "__eq__" a) (fun r s' => ∃ v, r = some v ∧ Q v s') E s := by
    unfold tryCompare
    refine wpAny_bind (ifBound_K X I hs hf (wpAny_mono h (fun v s' hv => ?_) fun _ _ e => e))
    cases v <;> first | exact hv.elim | exact wpAny_pure ⟨_, rfl, hv⟩
  simp only [richCompare, cmpInfo, ha.oneThing_none] at sl ⊢
  refine wpAny_holding (wpAny_bind (wpAny_cRoomFor hu ?_))
  refine wpAny_bind (wpAny_typeOf ha (wpAny_bind (I.type.here ?_)))
  rw [if_pos (show (Value.type Ta != Value.ref C) = true from by simp)]
  refine wpAny_bind ((looks_mroIn X h0).here ?_)
  simp only [Bool.false_eq_true, if_false, Bool.not_false, if_true]
  refine wpAny_bind (m := tryCompare a _ (.ref x)) (wpAny_tryCompare_declines ha sl (hc _ ⟨rfl, ?_⟩))
  refine wpAny_bind (wpAny_mono one (fun r s' z => ?_) fun _ _ e => e)
  obtain ⟨v, rfl, hq⟩ := z
  exact wpAny_pure hq
end
end Pf
namespace Pf
open PySem PySem.Spec PyProof.Rows L2
/-- a class above which no such kind stands -/
structure DecC (K : PySem.W.Frag) (C : Addr) : Prop where
  no : PySem.W.mroIn K C (.type "NoneType") = some false
  it : PySem.W.mroIn K C (.type "int") = some false
  bo : PySem.W.mroIn K C (.type "bool") = some false
  st : PySem.W.mroIn K C (.type "str") = some false
  li : PySem.W.mroIn K C (.type "list") = some false
  tu : PySem.W.mroIn K C (.type "tuple") = some false
  di : PySem.W.mroIn K C (.type "dict") = some false
/-- of such a kind -/
inductive DecK (K : PySem.W.Frag) (H : Hp) : V → Prop
  | non : DecK K H .non
  | int (i : Int) : DecK K H (.int i)
  | bl (b : Bool) : DecK K H (.bl b)
  | str (s : Str) : DecK K H (.str s)
  | lst {p : Addr} {xs : List V} (h : SqL K H p xs) : DecK K H (.ref p)
  | tup {p : Addr} {xs : List V} (h : SqT K H p xs) : DecK K H (.ref p)
  | dct {p : Addr} {kvs : List (Key × V)} (h : H p = some (.dK kvs)) : DecK K H (.ref p)
def rReflI (K : PySem.W.Frag) (C : Addr) (sp : Sp) : R2 := fun x y H Q => ∃ (a dx : Addr) (fs : List (Str × V)), y = .ref a ∧ H a = some (.ins C dx fs) ∧ DecK K H x ∧ sp [y, x] H (fun v H' => ∃ b, v = .bl b ∧ Q (.bl b) H') E0
section
variable {X : Cx} {CX : CXT} {C f : Addr} {fd : FuncData} {ps : List Str} {sp : Sp} {n : Nat}
theorem op_eqR (F : FnOk X.prog X.w X.K X.mg X.base CX n f fd ps sp) (T : EqC X.K C f) (D : DecC X.K C) (hb : Binds X.K fd ps []) (hx : Passes CX X E0) (hr : Room n X.A) : OpR X (compareOp .Eq) (rReflI X.K C sp) := by
  intro pins s σ H x y u v Q I rx ry hq
  obtain ⟨a, dx, fs, rfl, ha, hk, hsp⟩ := hq
  cases ry
  obtain ⟨mA, J, _⟩ := ins_get I.hok ha
  have hI := J.obj
  obtain ⟨od, J, _⟩ := J.look
  have fin : wpAny (model X.prog X.w) X.A (call (.ref f) [.ref a, u]) (PySem.W.CmpBack (EP X pins σ Q)) X.xe s := by
    have r2 : Vals [V.ref a, x] [Value.ref a, u] := .cons rfl (.cons rx .nil)
    have hl := F.len _ _ _ _ hsp
    have b2 := hb s [.ref a, u] I.kIn (by simpa using hl)
    rw [List.append_nil] at b2
    refine wpAny_call (codeAny_mono (F.run X.A X.stack s H ⟨[.ref a, u], []⟩ [.ref a, u] [.ref a, x] _ E0 hr I.env0 b2 r2 hsp) fun r s' hq => ?_)
    cases r with
    | error e => exact hx pins σ H s e s' I hq
    | ok fl =>
      cases fl with
      | ret w =>
        obtain ⟨z, H', I', rz, b, ez, q⟩ := I.after hq
        subst ez
        cases rz
        exact ⟨.bl b, H', I', rfl, q⟩
      | next => exact False.elim hq
      | brk => exact False.elim hq
      | cont => exact False.elim hq
  have inst : ∀ (T : String), PySem.W.mroIn X.K C (.type T) = some false → ∀ (prog : Program) (w : World), PySem.W.Looks (model prog w) s.heap (isInstance (.ref a) (.type T)) false := fun T h prog w => J.type.andThen (PySem.W.looks_mroIn I.kIn h)
  show wpAny (model X.prog X.w) X.A (richCompare .Eq u (.ref a)) (EP X pins σ Q) X.xe s
  cases hk with
  | non =>
    cases rx
    exact rc_refl hr.units0 I.kIn J (show s.TypeIs .none "NoneType" from rfl) D.no PySem.F.slot_NoneType_eq (fun Q' q => PySem.call_gives PySem.F.slot_NoneType_eq rfl PySem.F.entry_NoneType_eq (PySem.F.args_NoneType_eq_2 _ _) (PySem.SeqAt.NoneType___eq___none_ref_0 a) q) T.eq T.fn fin
  | int i =>
    obtain ⟨t, rfl⟩ := rx
    exact rc_refl hr.units0 I.kIn J (show s.TypeIs (.int i t) "int" from rfl) D.it PySem.F.slot_int_eq (fun Q' q => PySem.call_meets PySem.F.slot_int_eq rfl PySem.F.entry_int_eq (PySem.F.args_int_eq_2 _ _) (int_decl i t) ⟨hI, q⟩) T.eq T.fn fin
  | bl b =>
    cases rx
    exact rc_refl hr.units0 I.kIn J (show s.TypeIs (.bool b) "bool" from rfl) D.bo PySem.F.slot_bool_eq (fun Q' q => PySem.call_meets PySem.F.slot_bool_eq rfl PySem.F.entry_int_eq (PySem.F.args_int_eq_2 _ _) (bool_decl b) ⟨hI, q⟩) T.eq T.fn fin
  | str z =>
    obtain ⟨t, rfl⟩ := rx
    exact rc_refl hr.units0 I.kIn J (show s.TypeIs (.str z t) "str" from rfl) D.st PySem.F.slot_str_eq (fun Q' q => PySem.call_meets PySem.F.slot_str_eq rfl PySem.F.entry_str_eq (PySem.F.args_str_eq_2 _ _) (str_decl z t) ⟨hI, q⟩) T.eq T.fn fin
  | @lst p _ h =>
    cases rx
    obtain ⟨its, rv, ⟨o, n', ho, hc, hdn, hd⟩, hlen⟩ := I.list h
    have ty : s.TypeIs (.ref p) "list" := ⟨o, ho, hc⟩
    exact rc_refl hr.units0 I.kIn J ty D.li PySem.F.slot_list_eq (fun Q' q => PySem.call_meets PySem.F.slot_list_eq ty PySem.F.entry_list_eq (PySem.F.args_list_eq_2 _ _) list_decl ⟨inst _ D.li, q⟩) T.eq T.fn fin
  | @tup p _ h =>
    cases rx
    obtain ⟨its, rv, ⟨o, ho, hc, n', hd⟩, hlen⟩ := I.tuple h
    have ty : s.TypeIs (.ref p) "tuple" := ⟨o, ho, hc⟩
    exact rc_refl hr.units0 I.kIn J ty D.tu PySem.F.slot_tuple_eq (fun Q' q => PySem.call_meets PySem.F.slot_tuple_eq ty PySem.F.entry_tuple_eq (PySem.F.args_tuple_eq_2 _ _) tup_decl ⟨inst _ D.tu, q⟩) T.eq T.fn fin
  | @dct p _ h =>
    cases rx
    obtain ⟨_, _, vs, _, o, es, ep, h1, h2, _⟩ := (show ObjOk X.prog X.w H s.heap _ (.dK _) from I.hok _ _ h)
    have ty : s.TypeIs (.ref p) "dict" := ⟨o, h1, h2.1⟩
    exact rc_refl hr.units0 I.kIn J ty D.di PySem.F.slot_dict_eq (fun Q' q => PySem.call_meets PySem.F.slot_dict_eq ty PySem.F.entry_dict_eq (PySem.F.args_dict_eq_2 _ _) dict_decl ⟨inst _ D.di, q⟩) T.eq T.fn fin
/-- two rules for one operator -/
theorem op_or {g : Value → Value → Sem Value} {r1 r2 : R2} (h1 : OpR X g r1) (h2 : OpR X g r2) : OpR X g (fun x y H Q => r1 x y H Q ∨ r2 x y H Q) := fun pins s σ H x y v u Q I rx ry h => h.elim (h1 pins s σ H x y v u Q I rx ry) (h2 pins s σ H x y v u Q I rx ry)
end
end Pf

namespace Pf
/-! ### spans of the offices of a row, and the greatest numbers that they can hold -/
/-- n offices, m rows that go from Y t to X t, sure ones; iv: how offices and editions are counted; finds (moment, office, edition) -/
structure Spn where
  n : Nat
  m : Nat
  X : Nat → Nat
  Y : Nat → Nat
  Su : Nat → Bool
  iv : Nat → Nat
  fs : List (Nat × Nat × Nat)
namespace Spn
structure Ok (D : Spn) : Prop where
  hX : ∀ t, t < D.m → D.X t < D.n
  hY : ∀ t, t < D.m → D.Y t < D.n
  hXY : ∀ t, t < D.m → D.iv (D.Y t) = D.iv (D.X t) + 1 ∨ D.iv (D.X t) = D.iv (D.Y t) + 1
  ivn : ∀ z, z < D.n → D.iv z < D.n
  ivv : ∀ z, z < D.n → D.iv (D.iv z) = z
  fin : ∀ f ∈ D.fs, f.1 ≤ D.m ∧ f.2.1 < D.n ∧ f.2.2 < D.n
def th (D : Spn) : Nat → Nat → Nat
  | 0, z => z
  | t + 1, z => if z = D.X t then D.n + t else D.th t z
/-- the one holds no greater number than the other -/
inductive R (D : Spn) : Nat → Nat → Prop
  | up {t} (h : t < D.m) (g : D.iv (D.Y t) = D.iv (D.X t) + 1) : R D (D.th t (D.X t)) (D.n + t)
  | upS {t} (h : t < D.m) (g : D.iv (D.Y t) = D.iv (D.X t) + 1) (s : D.Su t = true) : R D (D.th t (D.Y t)) (D.n + t)
  | dn {t} (h : t < D.m) (g : D.iv (D.X t) = D.iv (D.Y t) + 1) : R D (D.n + t) (D.th t (D.X t))
  | dnS {t} (h : t < D.m) (g : D.iv (D.X t) = D.iv (D.Y t) + 1) (s : D.Su t = true) : R D (D.n + t) (D.th t (D.Y t))
  | lo {t z} (h : t < D.m) (hz : z < D.n) (g : D.iv (D.X t) = D.iv z + 1) : R D (D.th t z) (D.n + t)
  | hi {t z} (h : t < D.m) (hz : z < D.n) (g : D.iv z = D.iv (D.X t) + 1) : R D (D.n + t) (D.th t z)
/-- neighbours, there together from a moment on -/
inductive A (D : Spn) : Nat → Nat → Nat → Prop
  | lo {t z} (h : t < D.m) (hz : z < D.n) (g : D.iv (D.X t) = D.iv z + 1) : A D (D.th t z) (D.n + t) (t + 1)
  | hi {t z} (h : t < D.m) (hz : z < D.n) (g : D.iv z = D.iv (D.X t) + 1) : A D (D.n + t) (D.th t z) (t + 1)
def M (D : Spn) (s v : Nat) : Prop := (s < D.n ∧ v = D.iv s) ∨ ∃ f ∈ D.fs, s = D.th f.1 f.2.1 ∧ v = D.iv f.2.2
def Sh (D : Spn) (v mu : Nat) : Prop := ∃ f ∈ D.fs, D.iv f.2.2 = v ∧ mu ≤ f.1
inductive Der (D : Spn) : Nat → Nat → Prop
  | most {s v} (h : D.M s v) : Der D s v
  | near {s g v} (h : Der D g v) (r : D.R s g) : Der D s v
  | apart {a b u v mu} (h : Der D a u) (r : D.A a b mu) (l : u < v) (sh : D.Sh v mu) : Der D b v
structure IsG (D : Spn) (F : Nat → Nat) : Prop where
  le : ∀ s, F s ≤ D.n - 1
  der : ∀ s, F s < D.n - 1 → D.Der s (F s)
  least : ∀ s v, D.Der s v → F s ≤ v
/-- all that is told of a number is reached -/
def Fit (D : Spn) (F : Nat → Nat) : Prop := ∀ s v, D.M s v → v ≤ F s
section
variable {D : Spn} {F : Nat → Nat}
theorem th_new {t : Nat} : D.th (t + 1) (D.X t) = D.n + t := by unfold th; rw [if_pos rfl]
theorem th_old {t z : Nat} (h : z ≠ D.X t) : D.th (t + 1) z = D.th t z := by
  rw [th, if_neg h]
theorem th_lt : ∀ {t z : Nat}, z < D.n → D.th t z < D.n + t
  | 0, z, h => by show z < D.n + 0; omega
  | t + 1, z, h => by
    by_cases e : z = D.X t
    · rw [e, th_new]; omega
    · rw [th_old e]
      have := th_lt (t := t) h
      omega
/-- a span that was there before is there at once -/
theorem th_stay {t z g : Nat} : ∀ {t' : Nat}, t ≤ t' → D.th t' z = g → g < D.n + t → D.th t z = g
  | 0, h, e, _ => by
    have : t = 0 := by omega
    rw [this]
    exact e
  | t' + 1, h, e, l => by
    by_cases ht : t = t' + 1
    · rw [ht]; exact e
    · by_cases hz : z = D.X t'
      · rw [hz, th_new] at e
        omega
      · rw [th_old hz] at e
        exact th_stay (t' := t') (by omega) e l
theorem iv_inj (O : D.Ok) {x y : Nat} (hx : x < D.n) (hy : y < D.n) (e : D.iv x = D.iv y) : x = y := by
  rw [← O.ivv x hx, ← O.ivv y hy, e]
theorem G_R (G : D.IsG F) {s g : Nat} (r : D.R s g) : F s ≤ F g := by
  by_cases h : F g < D.n - 1
  · exact G.least _ _ (.near (G.der _ h) r)
  · have := G.le s
    omega
theorem G_first (G : D.IsG F) (T : D.Fit F) {z : Nat} (hz : z < D.n) : F z = D.iv z := by
  have h1 := G.least z _ (.most (.inl ⟨hz, rfl⟩))
  have h2 := T z _ (.inl ⟨hz, rfl⟩)
  omega
/-- they do not fall along the row -/
theorem G_mono (O : D.Ok) (G : D.IsG F) (T : D.Fit F) : ∀ {t : Nat}, t ≤ D.m → ∀ {z z' : Nat}, z < D.n → z' < D.n → D.iv z' = D.iv z + 1 → F (D.th t z) ≤ F (D.th t z')
  | 0, _, z, z', hz, hz', e => by
    show F z ≤ F z'
    rw [G_first G T hz, G_first G T hz']
    omega
  | t + 1, ht, z, z', hz, hz', e => by
    by_cases e1 : z = D.X t
    · by_cases e2 : z' = D.X t
      · rw [e1, e2] at e; omega
      · rw [th_old e2, e1, th_new]
        rw [e1] at e
        exact G_R G (.hi (by omega) hz' e)
    · by_cases e2 : z' = D.X t
      · rw [th_old e1, e2, th_new]
        rw [e2] at e
        exact G_R G (.lo (by omega) hz e)
      · rw [th_old e1, th_old e2]
        exact G_mono O G T (by omega) hz hz' e
theorem G_beside : ∀ {t : Nat}, t ≤ D.m → ∀ {z z' : Nat}, z < D.n → z' < D.n → D.iv z' = D.iv z + 1 → (D.th t z = z ∧ D.th t z' = z') ∨ ∃ mu, mu ≤ t ∧ D.A (D.th t z) (D.th t z') mu
  | 0, _, z, z', _, _, _ => .inl ⟨rfl, rfl⟩
  | t + 1, ht, z, z', hz, hz', e => by
    by_cases e1 : z = D.X t
    · by_cases e2 : z' = D.X t
      · rw [e1, e2] at e; omega
      · rw [th_old e2, e1, th_new]
        rw [e1] at e
        exact .inr ⟨t + 1, Nat.le_refl _, .hi (by omega) hz' e⟩
    · by_cases e2 : z' = D.X t
      · rw [th_old e1, e2, th_new]
        rw [e2] at e
        exact .inr ⟨t + 1, Nat.le_refl _, .lo (by omega) hz e⟩
      · rw [th_old e1, th_old e2]
        rcases G_beside (t := t) (by omega) hz hz' e with h | ⟨mu, l, h⟩
        · exact .inl h
        · exact .inr ⟨mu, by omega, h⟩
theorem Sh.down {v mu mu' : Nat} (h : D.Sh v mu) (l : mu' ≤ mu) : D.Sh v mu' := by
  obtain ⟨f, hf, e, g⟩ := h
  exact ⟨f, hf, e, Nat.le_trans l g⟩
theorem Sh.lt (O : D.Ok) {v mu : Nat} (h : D.Sh v mu) : v < D.n := by
  obtain ⟨f, hf, e, g⟩ := h
  rw [← e]
  exact O.ivn _ (O.fin f hf).2.2
theorem G_apart (O : D.Ok) (G : D.IsG F) (T : D.Fit F) {t z z' v : Nat} (ht : t ≤ D.m) (hz : z < D.n) (hz' : z' < D.n) (e : D.iv z' = D.iv z + 1) (l : F (D.th t z) < v) (sh : D.Sh v t) : F (D.th t z') ≤ v := by
  rcases G_beside ht hz hz' e with ⟨e1, e2⟩ | ⟨mu, lm, r⟩
  · rw [e1, G_first G T hz] at l
    rw [e2, G_first G T hz']
    omega
  · have := sh.lt O
    exact G.least _ _ (.apart (G.der _ (by omega)) r l (sh.down lm))
/-- what is told of a late span, if nobody holds it ahead, is shown later on -/
theorem late (O : D.Ok) (G : D.IsG F) (T : D.Fit F) {t v : Nat} (ht : t < D.m) (no : ∀ q, q < D.n → F (D.th t q) ≠ v) : ∀ {s w : Nat}, D.Der s w → w = v → F s = v → D.n + t ≤ s → D.Sh v (t + 1) := by
  intro s w h
  induction h with
  | most h =>
    intro ew es ls
    rcases h with ⟨h, _⟩ | ⟨f, hf, e, e2⟩
    · omega
    · refine ⟨f, hf, by rw [← e2, ew], ?_⟩
      have := th_lt (D := D) (t := f.1) (O.fin f hf).2.1
      omega
  | @near s g w h r ih =>
    intro ew es ls
    have e1 := G_R G r
    have e2 := G.least _ _ h
    refine ih ew (by omega) ?_
    have eg : F g = v := by omega
    have key : ∀ {t' q : Nat}, q < D.n → D.th t' q = g → D.n + t' = s → D.n + t ≤ g := fun {t' q} hq eq et => by
      rcases Nat.lt_or_ge g (D.n + t) with hl | hl
      · exact absurd (by rw [th_stay (by omega) eq hl]; exact eg) (no q hq)
      · exact hl
    have key2 : ∀ {t' q : Nat}, q < D.n → D.th t' q = s → D.n + t' = g → D.n + t ≤ g := fun {t' q} hq eq et => by
      have := th_lt (D := D) (t := t') hq
      omega
    cases r with
    | up h1 g1 => exact key2 (O.hX _ h1) rfl rfl
    | upS h1 g1 s1 => exact key2 (O.hY _ h1) rfl rfl
    | dn h1 g1 => exact key (O.hX _ h1) rfl rfl
    | dnS h1 g1 s1 => exact key (O.hY _ h1) rfl rfl
    | lo h1 hz g1 => exact key2 hz rfl rfl
    | hi h1 hz g1 => exact key hz rfl rfl
  | @apart a b u w mu h r l sh ih =>
    intro ew es ls
    subst ew
    refine sh.down ?_
    cases r with
    | lo h1 hz g1 => omega
    | @hi t' z h1 hz g1 =>
      have := th_lt (D := D) (t := t') hz
      omega
/-- no number between those of two neighbours comes behind a row -/
theorem gap (O : D.Ok) (G : D.IsG F) (T : D.Fit F) {t z z' s : Nat} (ht : t < D.m) (hz : z < D.n) (hz' : z' < D.n) (e : D.iv z' = D.iv z + 1) (mono : ∀ {x y : Nat}, x < D.n → y < D.n → D.iv x ≤ D.iv y → F (D.th t x) ≤ F (D.th t y)) (l : F (D.th t z) < F s) (g : F s < F (D.th t z')) (hs : D.n + t ≤ s) : False := by
  have hl := G.le (D.th t z')
  have sh := late O G T ht (v := F s) (fun q hq => by
    rcases Nat.lt_or_ge (D.iv z) (D.iv q) with h | h
    · have := mono hz' hq (by omega)
      omega
    · have := mono hq hz (by omega)
      omega) (G.der s (by omega)) rfl rfl hs
  have := G_apart O G T (by omega) hz hz' e l (sh.down (Nat.le_succ t))
  omega
theorem mono_all (O : D.Ok) (f : Nat → Nat) (h : ∀ z z', z < D.n → z' < D.n → D.iv z' = D.iv z + 1 → f z ≤ f z') : ∀ {x y : Nat}, x < D.n → y < D.n → D.iv x ≤ D.iv y → f x ≤ f y := by
  have main : ∀ (k a : Nat), a + k < D.n → f (D.iv a) ≤ f (D.iv (a + k)) := fun k => by
    induction k with
    | zero => intro a _; exact Nat.le_refl _
    | succ k ih =>
      intro a ha
      refine Nat.le_trans (ih a (by omega)) (h _ _ (O.ivn _ (by omega)) (O.ivn _ (by omega)) ?_)
      rw [O.ivv _ (by omega), O.ivv _ (by omega)]
      rfl
  intro x y hx hy e
  have := main (D.iv y - D.iv x) (D.iv x) (by have := O.ivn y hy; omega)
  rw [show D.iv x + (D.iv y - D.iv x) = D.iv y by omega, O.ivv x hx, O.ivv y hy] at this
  exact this
/-- a row's new span holds what its office held, or what its neighbour did -/
theorem G_step (O : D.Ok) (G : D.IsG F) (T : D.Fit F) {t : Nat} (ht : t < D.m) : (F (D.n + t) = F (D.th t (D.X t)) ∧ D.Su t = false) ∨ F (D.n + t) = F (D.th t (D.Y t)) := by
  have mono : ∀ {x y : Nat}, x < D.n → y < D.n → D.iv x ≤ D.iv y → F (D.th t x) ≤ F (D.th t y) := fun {x y} => mono_all O (fun z => F (D.th t z)) (fun z z' hz hz' e => G_mono O G T (by omega) hz hz' e)
  rcases O.hXY t ht with g | g
  · have h1 := G_R G (.up ht g)
    have h2 := G_R G (.hi ht (O.hY t ht) g)
    cases hs : D.Su t with
    | true =>
      have h3 := G_R G (.upS ht g hs)
      exact .inr (by omega)
    | false =>
      by_cases e1 : F (D.n + t) = F (D.th t (D.X t))
      · exact .inl ⟨e1, rfl⟩
      · by_cases e2 : F (D.n + t) = F (D.th t (D.Y t))
        · exact .inr e2
        · exact (gap O G T ht (O.hX t ht) (O.hY t ht) g mono (s := D.n + t) (by omega) (by omega) (Nat.le_refl _)).elim
  · have h1 := G_R G (.dn ht g)
    have h2 := G_R G (.lo ht (O.hY t ht) g)
    cases hs : D.Su t with
    | true =>
      have h3 := G_R G (.dnS ht g hs)
      exact .inr (by omega)
    | false =>
      by_cases e1 : F (D.n + t) = F (D.th t (D.X t))
      · exact .inl ⟨e1, rfl⟩
      · by_cases e2 : F (D.n + t) = F (D.th t (D.Y t))
        · exact .inr e2
        · exact (gap O G T ht (O.hY t ht) (O.hX t ht) g mono (s := D.n + t) (by omega) (by omega) (Nat.le_refl _)).elim
/-! doings -/
/-- the sheets of a doing -/
structure Run (D : Spn) (d : Nat → Bool) (st : Nat → Nat → Nat) : Prop where
  su : ∀ t, t < D.m → D.Su t = true → d t = true
  first : ∀ z, z < D.n → st 0 z = z
  done : ∀ t, t < D.m → d t = true → st (t + 1) (D.X t) = st t (D.Y t)
  kept : ∀ t, t < D.m → d t = false → st (t + 1) (D.X t) = st t (D.X t)
  else_ : ∀ t z, t < D.m → z < D.n → z ≠ D.X t → st (t + 1) z = st t z
def True' (D : Spn) (st : Nat → Nat → Nat) : Prop := ∀ f ∈ D.fs, st f.1 f.2.1 = f.2.2
/-- the doing of the greatest numbers -/
theorem G_run (O : D.Ok) (G : D.IsG F) (T : D.Fit F) : Run D (fun t => D.Su t || decide (F (D.th t (D.X t)) ≠ F (D.th (t + 1) (D.X t)))) (fun t z => D.iv (F (D.th t z))) where
  su := fun t _ h => by show (D.Su t || _) = true; rw [h, Bool.true_or]
  first := fun z hz => by
    show D.iv (F z) = z
    rw [G_first G T hz, O.ivv z hz]
  done := fun t ht h => by
    show D.iv (F (D.th (t + 1) (D.X t))) = D.iv (F (D.th t (D.Y t)))
    rw [th_new]
    rcases G_step O G T ht with ⟨e, e2⟩ | e
    · rw [th_new, e, e2] at h
      simp at h
    · rw [e]
  kept := fun t ht h => by
    show D.iv (F (D.th (t + 1) (D.X t))) = D.iv (F (D.th t (D.X t)))
    rw [Bool.or_eq_false_iff] at h
    have := of_decide_eq_false h.2
    rw [Decidable.not_not] at this
    rw [this]
  else_ := fun t z _ _ h => by
    show D.iv (F (D.th (t + 1) z)) = D.iv (F (D.th t z))
    rw [th_old h]
theorem G_true (O : D.Ok) (G : D.IsG F) (T : D.Fit F) : True' D (fun t z => D.iv (F (D.th t z))) := fun f hf => by
  show D.iv (F (D.th f.1 f.2.1)) = f.2.2
  have hm : D.M (D.th f.1 f.2.1) (D.iv f.2.2) := .inr ⟨f, hf, rfl, rfl⟩
  have h1 := G.least _ _ (.most hm)
  have h2 := T _ _ hm
  rw [show F (D.th f.1 f.2.1) = D.iv f.2.2 by omega, O.ivv _ (O.fin f hf).2.2]
variable {d : Nat → Bool} {st : Nat → Nat → Nat}
theorem Run.lt (O : D.Ok) (r : Run D d st) : ∀ {t : Nat}, t ≤ D.m → ∀ {z : Nat}, z < D.n → st t z < D.n
  | 0, _, z, hz => by rw [r.first z hz]; exact hz
  | t + 1, ht, z, hz => by
    by_cases e : z = D.X t
    · rw [e]
      cases hd : d t with
      | true => rw [r.done t (by omega) hd]; exact r.lt O (by omega) (O.hY t (by omega))
      | false => rw [r.kept t (by omega) hd]; exact r.lt O (by omega) (O.hX t (by omega))
    · rw [r.else_ t z (by omega) hz e]
      exact r.lt O (by omega) hz
theorem Run.mono (O : D.Ok) (r : Run D d st) : ∀ {t : Nat}, t ≤ D.m → ∀ {z z' : Nat}, z < D.n → z' < D.n → D.iv z' = D.iv z + 1 → D.iv (st t z) ≤ D.iv (st t z')
  | 0, _, z, z', hz, hz', e => by
    rw [r.first z hz, r.first z' hz']
    omega
  | t + 1, ht, z, z', hz, hz', e => by
    have ht' : t < D.m := by omega
    have hx := O.hX t ht'
    have hy := O.hY t ht'
    have ih : ∀ {z z' : Nat}, z < D.n → z' < D.n → D.iv z' = D.iv z + 1 → D.iv (st t z) ≤ D.iv (st t z') := fun hz hz' e => r.mono O (by omega) hz hz' e
    have ihA : ∀ {x y : Nat}, x < D.n → y < D.n → D.iv x ≤ D.iv y → D.iv (st t x) ≤ D.iv (st t y) := fun {x y} => mono_all O (fun z => D.iv (st t z)) (fun z z' hz hz' e => ih hz hz' e)
    by_cases e1 : z = D.X t
    · have e2 : z' ≠ D.X t := fun e2 => by rw [e1, e2] at e; omega
      rw [r.else_ t z' ht' hz' e2, e1]
      rw [e1] at e
      cases hd : d t with
      | true =>
        rw [r.done t ht' hd]
        refine ihA hy hz' ?_
        rcases O.hXY t ht' with g | g <;> omega
      | false =>
        rw [r.kept t ht' hd]
        exact ih hx hz' e
    · rw [r.else_ t z ht' hz e1]
      by_cases e2 : z' = D.X t
      · rw [e2]
        rw [e2] at e
        cases hd : d t with
        | true =>
          rw [r.done t ht' hd]
          refine ihA hz hy ?_
          rcases O.hXY t ht' with g | g <;> omega
        | false =>
          rw [r.kept t ht' hd]
          exact ih hz hx e
      · rw [r.else_ t z' ht' hz' e2]
        exact ih hz hz' e
/-- what an office holds came from an office -/
theorem Run.back (O : D.Ok) (r : Run D d st) {t : Nat} : ∀ {k : Nat}, t + k ≤ D.m → ∀ {z : Nat}, z < D.n → ∃ q, q < D.n ∧ st t q = st (t + k) z
  | 0, _, z, hz => ⟨z, hz, rfl⟩
  | k + 1, h, z, hz => by
    have ht' : t + k < D.m := by omega
    by_cases e : z = D.X (t + k)
    · rw [e]
      cases hd : d (t + k) with
      | true =>
        obtain ⟨q, h1, h2⟩ := r.back O (t := t) (k := k) (by omega) (O.hY _ ht')
        exact ⟨q, h1, by rw [h2]; exact (r.done _ ht' hd).symm⟩
      | false =>
        obtain ⟨q, h1, h2⟩ := r.back O (t := t) (k := k) (by omega) (O.hX _ ht')
        exact ⟨q, h1, by rw [h2]; exact (r.kept _ ht' hd).symm⟩
    · obtain ⟨q, h1, h2⟩ := r.back O (t := t) (k := k) (by omega) hz
      exact ⟨q, h1, by rw [h2]; exact (r.else_ _ z ht' hz e).symm⟩
/-- what a span holds in a doing -/
def held (D : Spn) (st : Nat → Nat → Nat) (s : Nat) : Nat := if s < D.n then D.iv s else D.iv (st (s - D.n + 1) (D.X (s - D.n)))
theorem Run.held (O : D.Ok) (r : Run D d st) : ∀ {t : Nat}, t ≤ D.m → ∀ {z : Nat}, z < D.n → D.held st (D.th t z) = D.iv (st t z)
  | 0, _, z, hz => by
    show D.held st z = _
    unfold Spn.held
    rw [if_pos hz, r.first z hz]
  | t + 1, ht, z, hz => by
    by_cases e : z = D.X t
    · rw [e, th_new]
      unfold Spn.held
      rw [if_neg (by omega), Nat.add_sub_cancel_left]
    · rw [th_old e, r.else_ t z (by omega) hz e]
      exact r.held O (by omega) hz
theorem Run.heldN (O : D.Ok) (r : Run D d st) {t : Nat} (ht : t < D.m) : D.held st (D.n + t) = D.iv (st (t + 1) (D.X t)) := by
  rw [← r.held O (t := t + 1) (by omega) (O.hX t ht), th_new]
theorem Run.mono' (O : D.Ok) (r : Run D d st) {t : Nat} (ht : t ≤ D.m) : ∀ {x y : Nat}, x < D.n → y < D.n → D.iv x ≤ D.iv y → D.iv (st t x) ≤ D.iv (st t y) :=
  mono_all O (fun z => D.iv (st t z)) (fun z z' hz hz' e => r.mono O ht hz hz' e)
theorem Run.heldR (O : D.Ok) (r : Run D d st) {s g : Nat} (h : D.R s g) : D.held st s ≤ D.held st g := by
  cases h with
  | @up t ht e =>
    rw [r.held O (Nat.le_of_lt ht) (O.hX t ht), r.heldN O ht]
    cases hd : d t with
    | true => rw [r.done t ht hd]; exact r.mono O (Nat.le_of_lt ht) (O.hX t ht) (O.hY t ht) e
    | false => rw [r.kept t ht hd]; exact Nat.le_refl _
  | @upS t ht e hs =>
    rw [r.held O (Nat.le_of_lt ht) (O.hY t ht), r.heldN O ht, r.done t ht (r.su t ht hs)]
    exact Nat.le_refl _
  | @dn t ht e =>
    rw [r.held O (Nat.le_of_lt ht) (O.hX t ht), r.heldN O ht]
    cases hd : d t with
    | true => rw [r.done t ht hd]; exact r.mono O (Nat.le_of_lt ht) (O.hY t ht) (O.hX t ht) e
    | false => rw [r.kept t ht hd]; exact Nat.le_refl _
  | @dnS t ht e hs =>
    rw [r.held O (Nat.le_of_lt ht) (O.hY t ht), r.heldN O ht, r.done t ht (r.su t ht hs)]
    exact Nat.le_refl _
  | @lo t z ht hz e =>
    rw [r.held O (Nat.le_of_lt ht) hz, r.heldN O ht, ← r.else_ t z ht hz (fun z' => by rw [z'] at e; omega)]
    exact r.mono O ht hz (O.hX t ht) e
  | @hi t z ht hz e =>
    rw [r.held O (Nat.le_of_lt ht) hz, r.heldN O ht, ← r.else_ t z ht hz (fun z' => by rw [z'] at e; omega)]
    exact r.mono O ht (O.hX t ht) hz e
/-- a doing in which the finds are true holds no greater numbers -/
theorem Run.der (O : D.Ok) (r : Run D d st) (tr : True' D st) {s v : Nat} (h : D.Der s v) : D.held st s ≤ v := by
  induction h with
  | @most s v h =>
    rcases h with ⟨h, e⟩ | ⟨f, hf, e, e2⟩
    · unfold Spn.held
      rw [if_pos h, e]
      exact Nat.le_refl _
    · have := O.fin f hf
      rw [e, r.held O this.1 this.2.1, tr f hf, e2]
      exact Nat.le_refl _
  | near h q ih => exact Nat.le_trans (r.heldR O q) ih
  | @apart a b u v mu h q l sh ih =>
    obtain ⟨f, hf, e, hmu⟩ := sh
    have hfin := O.fin f hf
    have key : ∀ {t z z' : Nat}, t ≤ D.m → z < D.n → z' < D.n → D.iv z' = D.iv z + 1 → t ≤ f.1 → D.iv (st t z) ≤ u → D.iv (st t z') ≤ v := fun {t z z'} ht hz hz' e1 h1 h2 => by
      obtain ⟨k, hk⟩ : ∃ k, t + k = f.1 := ⟨f.1 - t, by omega⟩
      obtain ⟨p, hp, e3⟩ := r.back O (t := t) (k := k) (by omega) hfin.2.1
      rw [hk, tr f hf] at e3
      have hv : D.iv (st t p) = v := by rw [e3, e]
      rcases Nat.lt_or_ge (D.iv z) (D.iv p) with hl | hl
      · rw [← hv]
        exact r.mono' O ht hz' hp (by omega)
      · have := r.mono' O ht hp hz hl
        omega
    cases q with
    | @lo t z ht hz e1 =>
      rw [r.held O (Nat.le_of_lt ht) hz, ← r.else_ t z ht hz (fun z' => by rw [z'] at e1; omega)] at ih
      rw [r.heldN O ht]
      exact key ht hz (O.hX t ht) e1 hmu ih
    | @hi t z ht hz e1 =>
      rw [r.heldN O ht] at ih
      rw [r.held O (Nat.le_of_lt ht) hz, ← r.else_ t z ht hz (fun z' => by rw [z'] at e1; omega)]
      exact key ht (O.hX t ht) hz e1 hmu ih
theorem Run.le (O : D.Ok) (G : D.IsG F) (r : Run D d st) (tr : True' D st) {t z : Nat} (ht : t ≤ D.m) (hz : z < D.n) : D.iv (st t z) ≤ F (D.th t z) := by
  by_cases h : F (D.th t z) < D.n - 1
  · rw [← r.held O ht hz]
    exact r.der O tr (G.der _ h)
  · have := O.ivn _ (r.lt O ht hz)
    omega
/-- .. so that they fit -/
theorem Run.fit (O : D.Ok) (G : D.IsG F) (r : Run D d st) (tr : True' D st) : D.Fit F := fun s v h => by
  rcases h with ⟨h, e⟩ | ⟨f, hf, e, e2⟩
  · have := r.le O G tr (t := 0) (Nat.zero_le _) h
    rw [r.first s h] at this
    rw [e]
    exact this
  · have hfin := O.fin f hf
    have := r.le O G tr hfin.1 hfin.2.1
    rw [tr f hf] at this
    rw [e, e2]
    exact this
theorem G_uniq {F' : Nat → Nat} (G : D.IsG F) (G' : D.IsG F') : ∀ s, F s = F' s := fun s => by
  have one : ∀ {F F' : Nat → Nat}, D.IsG F → D.IsG F' → F s ≤ F' s := fun {F F'} G G' => by
    by_cases h : F' s < D.n - 1
    · exact G.least _ _ (G'.der _ h)
    · have := G.le s
      omega
  have h1 := one G G'
  have h2 := one G' G
  omega
end
end Spn
end Pf

namespace Pf
open PySem PySem.Spec PyProof.Rows L2
/-! ### a walk over a list or a tuple -/
/-- a list, or a tuple -/
def SqS (K : PySem.W.Frag) (b : Bool) (H : Hp) (a : Addr) (xs : List V) : Prop := if b = true then SqL K H a xs else SqT K H a xs
theorem SqS.same {K : PySem.W.Frag} {b : Bool} {H H' : Hp} {a : Addr} {xs : List V} (s : Same H H') (h : SqS K b H a xs) : SqS K b H' a xs := by
  unfold SqS at h ⊢
  split
  · rename_i e
    rw [if_pos e] at h
    exact s.seq h
  · rename_i e
    rw [if_neg e] at h
    exact (Tx.of s).seq h
theorem SqS.or {K : PySem.W.Frag} {b : Bool} {H : Hp} {a : Addr} {xs : List V} (h : SqS K b H a xs) : SqL K H a xs ∨ SqT K H a xs := by
  unfold SqS at h
  split at h
  · exact .inl h
  · exact .inr h
theorem SqS.inl {K : PySem.W.Frag} {H : Hp} {a : Addr} {xs : List V} (h : SqL K H a xs) : SqS K true H a xs := by
  unfold SqS
  rw [if_pos rfl]
  exact h
theorem SqS.inr {K : PySem.W.Frag} {H : Hp} {a : Addr} {xs : List V} (h : SqT K H a xs) : SqS K false H a xs := by
  unfold SqS
  rw [if_neg Bool.false_ne_true]
  exact h
def iSeq (K : PySem.W.Frag) (tl : TE) : TI := fun σ H R => tl σ H fun x H1 => ∃ a, x = .ref a ∧ (((∃ xs, SqL K H1 a xs) ∧ R (Itl K a) H1) ∨ ((∃ xs, SqT K H1 a xs) ∧ R (Itt K a) H1))
theorem pi_seq {X : Cx} {tg l : Expr} {tl : TE} (hl : PE X l tl) : PI X tg l (iSeq X.K tl) := by
  refine ⟨fun pins s σ H R I h => ?_⟩
  refine thn (hl.run pins s σ H _ I h) fun v s1 ⟨x, H1, I1, r1, q1⟩ => ?_
  obtain ⟨a, e, q1⟩ := q1
  subst e
  cases r1
  rcases q1 with ⟨⟨xs, hq⟩, q⟩ | ⟨⟨xs, hq⟩, q⟩
  · obtain ⟨its, rv, p, hz⟩ := I1.list hq
    refine wpAny_pyIter_list p.isList ?_
    refine ⟨s1.heap.objs.size, [s1.heap.objs.size], _, _, H1, rfl, I1.kept (t' := s1.toks) fun b o e => Heap.get?_push_of_some _ e, turn_list a _, ⟨_, Heap.get?_push_size _ rfl, rfl, rfl⟩, fun b hb => ?_, q⟩
    have e : b = s1.heap.objs.size := by simpa using hb
    subst e
    exact I1.fpOk (Nat.le_refl _) (I1.hok.fresh (Nat.le_refl _))
  · obtain ⟨its, rv, p, hz⟩ := I1.tuple hq
    refine wpAny_pyIter_tuple (show s1.heap.IsTuple a its.toArray from p) ?_
    refine ⟨s1.heap.objs.size, [s1.heap.objs.size], _, _, H1, rfl, I1.kept (t' := s1.toks) fun b o e => Heap.get?_push_of_some _ e, turn_tuple a _, ⟨_, Heap.get?_push_size _ rfl, rfl, rfl⟩, fun b hb => ?_, q⟩
    have e : b = s1.heap.objs.size := by simpa using hb
    subst e
    exact I1.fpOk (Nat.le_refl _) (I1.hok.fresh (Nat.le_refl _))
theorem kiSeq {X : Cx} (K : PySem.W.Frag) {tg l : Expr} {tl : TE} (h : X.K = K) (hl : PE X l tl) : PI X tg l (iSeq K tl) := h ▸ pi_seq hl
theorem g_iS {K : PySem.W.Frag} {σ : L2.St} {H : Hp} {ta : TE} {R : It → Hp → Prop} (q : ta σ H fun x H1 => ∃ b a xs, x = .ref a ∧ SqS K b H1 a xs ∧ ∀ J, Walk J xs.length (fun H' => SqS K b H' a xs) (fun i H x H' => H' = H ∧ xs[i]? = some x) → R J H1)
    (mono : ∀ Q Q' : VK, (∀ x H1, Q x H1 → Q' x H1) → ta σ H Q → ta σ H Q') : iSeq K ta σ H R := by
  refine mono _ _ (fun x H1 h => ?_) q
  obtain ⟨b, a, xs, e, hs, h⟩ := h
  refine ⟨a, e, ?_⟩
  cases b with
  | true => exact .inl ⟨⟨xs, hs⟩, h _ ((walk_list (K := K) (a := a) (xs := xs)).mono (fun _ h => h) (fun _ _ _ _ _ _ h => h))⟩
  | false => exact .inr ⟨⟨xs, hs⟩, h _ ((walk_tup (K := K) (a := a) (xs := xs)).mono (fun _ h => h) (fun _ _ _ _ _ _ h => h))⟩
theorem g_iSv {K : PySem.W.Frag} {σ : L2.St} {H : Hp} {i : Nat} {R : It → Hp → Prop} (q : tVar i σ H fun x H1 => ∃ b a xs, x = .ref a ∧ SqS K b H1 a xs ∧ ∀ J, Walk J xs.length (fun H' => SqS K b H' a xs) (fun i H x H' => H' = H ∧ xs[i]? = some x) → R J H1) : iSeq K (tVar i) σ H R :=
  g_iS q fun Q Q' h ⟨v, e, q⟩ => ⟨v, e, h _ _ q⟩
/-! ### own methods -/
theorem g_meth {C : Addr} {m : Str} {sp : Sp} {dvs : List V} {E : XK} {ta : TE} {t : TA} {σ : L2.St} {H : Hp} {Q : VK} (q : ta σ H fun x H1 => ∃ a dx fs, x = .ref a ∧ H1 a = some (.ins C dx fs) ∧ fs.lookup m = none ∧ t σ H1 fun vs H2 => sp (x :: (vs ++ dvs)) H2 Q E) : tMeth C m sp dvs E ta t σ H Q := q
/-! ### finds -/
abbrev Fd := Nat × Nat × Nat
def findD (f : Fd) : PyData := .tuple [.int f.1, .int f.2.1, .int f.2.2]
theorem im_findD (f : Fd) : im (findD f) = true := rfl
def FindsAt (K : PySem.W.Frag) (b : Bool) (H : Hp) (v : V) (fs : List Fd) : Prop := ∃ p xs, v = .ref p ∧ SqS K b H p xs ∧ DpAll K H xs (fs.map findD)
theorem FindsAt.same {K : PySem.W.Frag} {b : Bool} {H H' : Hp} {v : V} {fs : List Fd} (s : Same H H') (h : FindsAt K b H v fs) : FindsAt K b H' v fs := by
  obtain ⟨p, xs, e, h1, h2⟩ := h
  exact ⟨p, xs, e, h1.same s, Dp.sameAll s _ _ h2⟩
theorem FindsAt.lst {K : PySem.W.Frag} {H : Hp} {p : Addr} {xs : List V} {fs : List Fd} (h : H p = some (.lst xs)) (d : DpAll K H xs (fs.map findD)) : FindsAt K true H (.ref p) fs := ⟨p, xs, rfl, SqS.inl (SqL.at h), d⟩
theorem FindsAt.tup {K : PySem.W.Frag} {H : Hp} {p : Addr} {xs : List V} {fs : List Fd} (h : SqT K H p xs) (d : DpAll K H xs (fs.map findD)) : FindsAt K false H (.ref p) fs := ⟨p, xs, rfl, SqS.inr h, d⟩
theorem of_find {K : PySem.W.Frag} {H : Hp} {v : V} {f : Fd} (h : Dp K H v (findD f)) : ∃ p, v = .ref p ∧ SqT K H p [.int f.1, .int f.2.1, .int f.2.2] := by
  unfold findD at h
  cases h with
  | tup q a =>
    cases a with
    | cons a1 a =>
      cases a1
      cases a with
      | cons a2 a =>
        cases a2
        cases a with
        | cons a3 a =>
          cases a3
          cases a
          exact ⟨_, rfl, q⟩
theorem dp_find {K : PySem.W.Frag} {H : Hp} {p : Addr} {f : Fd} (h : SqT K H p [.int f.1, .int f.2.1, .int f.2.2]) : Dp K H (.ref p) (findD f) := .tup h (.cons (.int _) (.cons (.int _) (.cons (.int _) .nil)))
/-- finds of a log of n offices and m rows -/
def GoodF (n m : Nat) (fs : List Fd) : Prop := ∀ f ∈ fs, f.1 ≤ m ∧ f.2.1 < n ∧ f.2.2 < n
end Pf

namespace Pf
open PySem PySem.Spec PyProof.Rows L2
/-! ### four lists of lists, growing -/
def refsOf (ad : Nat → Addr) (n : Nat) : List V := (List.range n).map fun i => V.ref (ad (i + 1))
theorem refsOf_succ (ad : Nat → Addr) (n : Nat) : refsOf ad (n + 1) = refsOf ad n ++ [V.ref (ad (n + 1))] := by
  unfold refsOf
  rw [List.range_succ, List.map_append]
  rfl
theorem refsOf_len (ad : Nat → Addr) (n : Nat) : (refsOf ad n).length = n := by
  unfold refsOf
  simp
theorem refsOf_at {ad : Nat → Addr} {n i : Nat} (h : i < n) : (refsOf ad n)[i]? = some (V.ref (ad (i + 1))) := by
  unfold refsOf
  rw [List.getElem?_map, List.getElem?_range h]
  rfl
theorem refsOf_congr {ad ad' : Nat → Addr} {n : Nat} (h : ∀ i, i ≤ n → ad' i = ad i) : refsOf ad' n = refsOf ad n := by
  unfold refsOf
  refine List.map_congr_left fun i hi => ?_
  rw [h (i + 1) (by have := List.mem_range.mp hi; omega)]
/-- the k-th outer list stands at ad k 0, its i-th inner one at ad k (i + 1) -/
structure LLs (K : PySem.W.Frag) (H : Hp) (ad : Nat → Nat → Addr) (N : Nat → Nat) (ct : Nat → Nat → List PyData) : Prop where
  outer : ∀ k, k < 4 → H (ad k 0) = some (.lst (refsOf (ad k) (N k)))
  inner : ∀ k i, k < 4 → i < N k → ∃ vs, H (ad k (i + 1)) = some (.lst vs) ∧ DpAll K H vs (ct k i)
  im : ∀ k i, k < 4 → i < N k → imAll (ct k i) = true
  inj : ∀ k i k' i', k < 4 → k' < 4 → i ≤ N k → i' ≤ N k' → ad k i = ad k' i' → k = k' ∧ i = i'
/-- what stands elsewhere stays -/
def FrR (ad : Nat → Nat → Addr) (N : Nat → Nat) (H H' : Hp) : Prop := ∀ b o, H b = some o → (∀ k i, k < 4 → i ≤ N k → b ≠ ad k i) → H' b = some o
theorem FrR.refl (ad : Nat → Nat → Addr) (N : Nat → Nat) (H : Hp) : FrR ad N H H := fun _ _ h _ => h
theorem FrR.trans {ad : Nat → Nat → Addr} {N : Nat → Nat} {H H1 H2 : Hp} (x : FrR ad N H H1) (y : FrR ad N H1 H2) : FrR ad N H H2 := fun b o h n => y b o (x b o h n) n
theorem FrR.of {ad : Nat → Nat → Addr} {N : Nat → Nat} {H H1 : Hp} (s : Same H H1) : FrR ad N H H1 := fun b o h _ => s b o h
/-- grown: what is new was not there -/
def Ext (H : Hp) (ad : Nat → Nat → Addr) (N : Nat → Nat) (ad' : Nat → Nat → Addr) (N' : Nat → Nat) : Prop := ∀ k i, k < 4 → i ≤ N' k → (i ≤ N k ∧ ad' k i = ad k i) ∨ H (ad' k i) = none
theorem FrR.ext {ad ad' : Nat → Nat → Addr} {N N' : Nat → Nat} {H H1 H2 : Hp} (x : FrR ad N H H1) (e : Ext H ad N ad' N') (y : FrR ad' N' H1 H2) : FrR ad N H H2 := fun b o h n => y b o (x b o h n) fun k i hk hi => by
  rcases e k i hk hi with ⟨h1, h2⟩ | h1
  · rw [h2]; exact n k i hk h1
  · exact ne_of_none h h1
section
variable {K : PySem.W.Frag} {H H' : Hp} {ad : Nat → Nat → Addr} {N : Nat → Nat} {ct : Nat → Nat → List PyData}
theorem LLs.some (h : LLs K H ad N ct) {k i : Nat} (hk : k < 4) (hi : i ≤ N k) : ∃ z, H (ad k i) = some (.lst z) := by
  cases i with
  | zero => exact ⟨_, h.outer k hk⟩
  | succ i =>
    obtain ⟨vs, e, _⟩ := h.inner k i hk hi
    exact ⟨vs, e⟩
theorem LLs.same (h : LLs K H ad N ct) (s : Same H H') : LLs K H' ad N ct where
  outer := fun k hk => s _ _ (h.outer k hk)
  inner := fun k i hk hi => by
    obtain ⟨vs, e, d⟩ := h.inner k i hk hi
    exact ⟨vs, s _ _ e, Dp.sameAll s _ _ d⟩
  im := h.im
  inj := h.inj
/-- another list is changed -/
theorem LLs.put (h : LLs K H ad N ct) {q : Addr} {z z' : List V} (hq : H q = Option.some (.lst z)) (n : ∀ k i, k < 4 → i ≤ N k → q ≠ ad k i) : LLs K (upd H q (.lst z')) ad N ct where
  outer := fun k hk => by rw [upd_ne (n k 0 hk (Nat.zero_le _)).symm]; exact h.outer k hk
  inner := fun k i hk hi => by
    obtain ⟨vs, e, d⟩ := h.inner k i hk hi
    exact ⟨vs, by rw [upd_ne (n k (i + 1) hk hi).symm]; exact e, Dp.txAll (Tx.lst hq) _ _ (h.im k i hk hi) d⟩
  im := h.im
  inj := h.inj
theorem LLs.push (h : LLs K H ad N ct) {k i : Nat} (hk : k < 4) (hi : i < N k) {v : V} {d : PyData} (hd : Dp K H v d) (hm : Pf.im d = true) {ct' : Nat → Nat → List PyData} (e1 : ct' k i = ct k i ++ [d]) (e2 : ∀ k' i', ¬ (k' = k ∧ i' = i) → ct' k' i' = ct k' i') :
    ∃ vs, H (ad k (i + 1)) = Option.some (.lst vs) ∧ vs.length = (ct k i).length ∧ LLs K (upd H (ad k (i + 1)) (.lst (vs ++ [v]))) ad N ct' ∧ FrR ad N H (upd H (ad k (i + 1)) (.lst (vs ++ [v]))) := by
  obtain ⟨vs, e, dv⟩ := h.inner k i hk hi
  have tx : Tx H (upd H (ad k (i + 1)) (.lst (vs ++ [v]))) := Tx.lst e
  refine ⟨vs, e, DpAll.len dv, ⟨fun k' hk' => ?_, fun k' i' hk' hi' => ?_, fun k' i' hk' hi' => ?_, h.inj⟩, fun b o hb n => ?_⟩
  · rw [upd_ne (fun z => by have := (h.inj _ _ _ _ hk' hk (Nat.zero_le _) hi z).2; omega)]
    exact h.outer k' hk'
  · by_cases hc : k' = k ∧ i' = i
    · obtain ⟨rfl, rfl⟩ := hc
      refine ⟨_, upd_same, ?_⟩
      rw [e1]
      refine Dp.txAll tx _ _ ?_ (DpAll.snoc dv hd)
      rw [imAll_iff]
      intro y hy
      rcases List.mem_append.mp hy with hy | hy
      · exact (imAll_iff _).mp (h.im k' i' hk' hi') y hy
      · rw [List.mem_singleton.mp hy]; exact hm
    · obtain ⟨ws, e', dw⟩ := h.inner k' i' hk' hi'
      refine ⟨ws, ?_, ?_⟩
      · rw [upd_ne (fun z => by
          have := h.inj _ _ _ _ hk' hk hi' hi z
          exact hc ⟨this.1, by omega⟩)]
        exact e'
      · rw [e2 k' i' hc]
        exact Dp.txAll tx _ _ (h.im k' i' hk' hi') dw
  · by_cases hc : k' = k ∧ i' = i
    · obtain ⟨rfl, rfl⟩ := hc
      rw [e1, imAll_iff]
      intro y hy
      rcases List.mem_append.mp hy with hy | hy
      · exact (imAll_iff _).mp (h.im k' i' hk' hi') y hy
      · rw [List.mem_singleton.mp hy]; exact hm
    · rw [e2 k' i' hc]
      exact h.im k' i' hk' hi'
  · rw [upd_ne (n k (i + 1) hk hi)]
    exact hb
/-- one more inner list of the k-th -/
def adG (ad : Nat → Nat → Addr) (k m : Nat) (p : Addr) : Nat → Nat → Addr := fun k' i' => if k' = k ∧ i' = m then p else ad k' i'
def nG (N : Nat → Nat) (k : Nat) : Nat → Nat := fun k' => if k' = k then N k + 1 else N k'
theorem LLs.grow (h : LLs K H ad N ct) {k : Nat} (hk : k < 4) {p : Addr} (np : H p = none) (e0 : ct k (N k) = []) :
    LLs K (upd (upd H p (.lst [])) (ad k 0) (.lst (refsOf (ad k) (N k) ++ [.ref p]))) (adG ad k (N k + 1) p) (nG N k) ct ∧
      FrR ad N H (upd (upd H p (.lst [])) (ad k 0) (.lst (refsOf (ad k) (N k) ++ [.ref p]))) ∧ Ext H ad N (adG ad k (N k + 1) p) (nG N k) ∧ (∀ b, (upd (upd H p (.lst [])) (ad k 0) (.lst (refsOf (ad k) (N k) ++ [.ref p]))) b = none → H b = none) := by
  have o1 := h.outer k hk
  have n1 : ad k 0 ≠ p := ne_of_none o1 np
  have s1 : Same H (upd H p (.lst [])) := same_new np
  have o2 : (upd H p (.lst [])) (ad k 0) = Option.some (.lst (refsOf (ad k) (N k))) := s1 _ _ o1
  have old : ∀ k' i', k' < 4 → i' ≤ N k' → adG ad k (N k + 1) p k' i' = ad k' i' := fun k' i' hk' hi' => by
    unfold adG
    rw [if_neg (fun z => by rw [z.1] at hi'; omega)]
  have new : adG ad k (N k + 1) p k (N k + 1) = p := by unfold adG; rw [if_pos ⟨rfl, rfl⟩]
  have np' : ∀ k' i', k' < 4 → i' ≤ N k' → ad k' i' ≠ p := fun k' i' hk' hi' => by
    obtain ⟨z, e⟩ := h.some hk' hi'
    exact ne_of_none e np
  have tx : Tx H (upd (upd H p (.lst [])) (ad k 0) (.lst (refsOf (ad k) (N k) ++ [.ref p]))) := (Tx.of s1).trans (Tx.lst o2)
  have cases_ : ∀ k' i', k' < 4 → i' ≤ nG N k k' → i' ≤ N k' ∨ (k' = k ∧ i' = N k + 1) := fun k' i' hk' hi' => by
    unfold nG at hi'
    split at hi'
    · rename_i e
      subst e
      by_cases hh : i' ≤ N k'
      · exact .inl hh
      · exact .inr ⟨rfl, by omega⟩
    · exact .inl hi'
  refine ⟨⟨fun k' hk' => ?_, fun k' i' hk' hi' => ?_, fun k' i' hk' hi' => ?_, fun a b c d ha hc hb hd e => ?_⟩, fun b o hb n => ?_, fun k' i' hk' hi' => ?_, fun b hb => ?_⟩
  · rw [old k' 0 hk' (Nat.zero_le _)]
    by_cases e : k' = k
    · subst e
      rw [upd_same]
      unfold nG
      rw [if_pos rfl, refsOf_succ, new, refsOf_congr (ad := ad k') (fun i hi => old k' i hk' hi)]
    · rw [upd_ne (fun z => e (h.inj _ _ _ _ hk' hk (Nat.zero_le _) (Nat.zero_le _) z).1), s1 _ _ (h.outer k' hk')]
      unfold nG
      rw [if_neg e, refsOf_congr (ad := ad k') (fun i hi => old k' i hk' hi)]
  · rcases cases_ k' (i' + 1) hk' hi' with hh | ⟨rfl, hh⟩
    · obtain ⟨vs, e, d⟩ := h.inner k' i' hk' hh
      refine ⟨vs, ?_, Dp.txAll tx _ _ (h.im k' i' hk' hh) d⟩
      rw [old k' (i' + 1) hk' hh, upd_ne (fun z => by have := (h.inj _ _ _ _ hk' hk hh (Nat.zero_le _) z).2; omega)]
      exact s1 _ _ e
    · have : i' = N k' := by omega
      subst this
      refine ⟨[], ?_, by rw [e0]; exact .nil⟩
      rw [new, upd_ne n1.symm, upd_same]
  · rcases cases_ k' (i' + 1) hk' hi' with hh | ⟨rfl, hh⟩
    · exact h.im k' i' hk' hh
    · have : i' = N k' := by omega
      subst this
      rw [e0]
      rfl
  · rcases cases_ a b ha hb with h1 | ⟨rfl, h1⟩
    · rw [old a b ha h1] at e
      rcases cases_ c d hc hd with h2 | ⟨rfl, h2⟩
      · rw [old c d hc h2] at e
        exact h.inj _ _ _ _ ha hc h1 h2 e
      · rw [h2, new] at e
        exact absurd e (np' a b ha h1)
    · rw [h1, new] at e
      rcases cases_ c d hc hd with h2 | ⟨rfl, h2⟩
      · rw [old c d hc h2] at e
        exact absurd e.symm (np' c d hc h2)
      · exact ⟨rfl, by omega⟩
  · rw [upd_ne (n k 0 hk (Nat.zero_le _))]
    exact s1 _ _ hb
  · rcases cases_ k' i' hk' hi' with hh | ⟨rfl, hh⟩
    · exact .inl ⟨hh, old k' i' hk' hh⟩
    · rw [hh, new]
      exact .inr np
  · by_cases e1 : b = ad k 0
    · rw [e1, upd_same] at hb
      cases hb
    · rw [upd_ne e1] at hb
      by_cases e2 : b = p
      · rw [e2, upd_same] at hb
        cases hb
      · rw [upd_ne e2] at hb
        exact hb
theorem Ext.trans {H H1 : Hp} {ad ad1 ad2 : Nat → Nat → Addr} {N N1 N2 : Nat → Nat} (e1 : Ext H ad N ad1 N1) (dm : ∀ b, H1 b = none → H b = none) (e2 : Ext H1 ad1 N1 ad2 N2) : Ext H ad N ad2 N2 := fun k i hk hi => by
  rcases e2 k i hk hi with ⟨h1, h2⟩ | h1
  · rw [h2]
    rcases e1 k i hk h1 with ⟨h3, h4⟩ | h3
    · exact .inl ⟨h3, h4⟩
    · exact .inr h3
  · exact .inr (dm _ h1)
end
/-! ### spans: what is noted of them -/
def spX (rs : List Row) (t : Nat) : Nat := (rs.getD t (0, 0, false)).1.toNat
def spY (rs : List Row) (t : Nat) : Nat := (rs.getD t (0, 0, false)).2.1.toNat
def spS (rs : List Row) (t : Nat) : Bool := (rs.getD t (0, 0, false)).2.2
def nowL (n : Nat) (rs : List Row) : Nat → List Nat
  | 0 => List.range n
  | t + 1 => (nowL n rs t).set (spX rs t) (n + t)
/-- the pairs (lesser, greater), the triples (left, right, moment), that a row notes -/
def rEB (n S : Nat) (now : List Nat) (r : Row) : List (Nat × Nat) :=
  (if r.1 < r.2.1 then (now.getD r.1.toNat 0, S) :: (if r.2.2 = true then [(now.getD r.2.1.toNat 0, S)] else [])
    else (S, now.getD r.1.toNat 0) :: (if r.2.2 = true then [(S, now.getD r.2.1.toNat 0)] else [])) ++
  ((if 0 < r.1.toNat then [(now.getD (r.1.toNat - 1) 0, S)] else []) ++ (if r.1.toNat + 1 < n then [(S, now.getD (r.1.toNat + 1) 0)] else []))
def rES (n S : Nat) (now : List Nat) (r : Row) (m : Nat) : List (Nat × Nat × Nat) :=
  (if 0 < r.1.toNat then [(now.getD (r.1.toNat - 1) 0, S, m)] else []) ++ (if r.1.toNat + 1 < n then [(S, now.getD (r.1.toNat + 1) 0, m)] else [])
def EBt (n : Nat) (rs : List Row) : Nat → List (Nat × Nat)
  | 0 => []
  | t + 1 => EBt n rs t ++ rEB n (n + t) (nowL n rs t) (rs.getD t (0, 0, false))
def ESt (n : Nat) (rs : List Row) : Nat → List (Nat × Nat × Nat)
  | 0 => []
  | t + 1 => ESt n rs t ++ rES n (n + t) (nowL n rs t) (rs.getD t (0, 0, false)) (t + 1)
def momD (e : Nat × Nat) : PyData := .tuple [.int e.1, .int e.2]
def ctOf (EB : List (Nat × Nat)) (ES : List (Nat × Nat × Nat)) : Nat → Nat → List PyData
  | 0, i => (EB.filter fun e => e.2 == i).map fun e => .int e.1
  | 1, i => (EB.filter fun e => e.1 == i).map fun e => .int e.2
  | 2, i => (ES.filter fun e => e.2.1 == i).map fun e => momD (e.1, e.2.2)
  | 3, i => (ES.filter fun e => e.1 == i).map fun e => momD (e.2.1, e.2.2)
  | _ + 4, _ => []
theorem ct_B0 {EB : List (Nat × Nat)} {ES : List (Nat × Nat × Nat)} {l g : Nat} : ctOf (EB ++ [(l, g)]) ES 0 g = ctOf EB ES 0 g ++ [.int l] := by
  show ((EB ++ [(l, g)]).filter _).map _ = _
  rw [List.filter_append, List.map_append]
  simp [ctOf]
theorem ct_B1 {EB : List (Nat × Nat)} {ES : List (Nat × Nat × Nat)} {l g : Nat} : ctOf (EB ++ [(l, g)]) ES 1 l = ctOf EB ES 1 l ++ [.int g] := by
  show ((EB ++ [(l, g)]).filter _).map _ = _
  rw [List.filter_append, List.map_append]
  simp [ctOf]
theorem ct_S2 {EB : List (Nat × Nat)} {ES : List (Nat × Nat × Nat)} {l r m : Nat} : ctOf EB (ES ++ [(l, r, m)]) 2 r = ctOf EB ES 2 r ++ [momD (l, m)] := by
  show ((ES ++ [(l, r, m)]).filter _).map _ = _
  rw [List.filter_append, List.map_append]
  simp [ctOf]
theorem ct_S3 {EB : List (Nat × Nat)} {ES : List (Nat × Nat × Nat)} {l r m : Nat} : ctOf EB (ES ++ [(l, r, m)]) 3 l = ctOf EB ES 3 l ++ [momD (r, m)] := by
  show ((ES ++ [(l, r, m)]).filter _).map _ = _
  rw [List.filter_append, List.map_append]
  simp [ctOf]
/-- half noted: the lesser list first -/
def ctH (EB EB' : List (Nat × Nat)) (ES ES' : List (Nat × Nat × Nat)) : Nat → Nat → List PyData
  | 0, i => ctOf EB ES 0 i
  | 1, i => ctOf EB' ES 1 i
  | 2, i => ctOf EB ES 2 i
  | 3, i => ctOf EB ES' 3 i
  | _ + 4, _ => []
theorem ctH_self (EB : List (Nat × Nat)) (ES : List (Nat × Nat × Nat)) : ctH EB EB ES ES = ctOf EB ES := by
  funext k i
  match k with
  | 0 => rfl
  | 1 => rfl
  | 2 => rfl
  | 3 => rfl
  | _ + 4 => rfl
theorem filter_ne {α : Type} {p : α → Bool} {xs : List α} {x : α} (h : p x = false) : (xs ++ [x]).filter p = xs.filter p := by
  rw [List.filter_append, List.filter_cons_of_neg (by rw [h]; exact Bool.false_ne_true)]
  simp
theorem ctH_B1 {EB : List (Nat × Nat)} {ES : List (Nat × Nat × Nat)} {l g : Nat} : ∀ k' i', ¬ (k' = 0 ∧ i' = g) → ctH (EB ++ [(l, g)]) EB ES ES k' i' = ctOf EB ES k' i' := fun k' i' h => by
  match k' with
  | 0 =>
    show ((EB ++ [(l, g)]).filter _).map _ = _
    rw [filter_ne (by simpa using fun e => h ⟨rfl, e.symm⟩)]
    rfl
  | 1 => rfl
  | 2 => rfl
  | 3 => rfl
  | _ + 4 => rfl
theorem ctH_B2 {EB : List (Nat × Nat)} {ES : List (Nat × Nat × Nat)} {l g : Nat} : ∀ k' i', ¬ (k' = 1 ∧ i' = l) → ctOf (EB ++ [(l, g)]) ES k' i' = ctH (EB ++ [(l, g)]) EB ES ES k' i' := fun k' i' h => by
  match k' with
  | 0 => rfl
  | 1 =>
    show ((EB ++ [(l, g)]).filter _).map _ = _
    rw [filter_ne (by simpa using fun e => h ⟨rfl, e.symm⟩)]
    rfl
  | 2 => rfl
  | 3 => rfl
  | _ + 4 => rfl
theorem ctH_S1 {EB : List (Nat × Nat)} {ES : List (Nat × Nat × Nat)} {l r m : Nat} : ∀ k' i', ¬ (k' = 3 ∧ i' = l) → ctH EB EB ES (ES ++ [(l, r, m)]) k' i' = ctOf EB ES k' i' := fun k' i' h => by
  match k' with
  | 0 => rfl
  | 1 => rfl
  | 2 => rfl
  | 3 =>
    show ((ES ++ [(l, r, m)]).filter _).map _ = _
    rw [filter_ne (by simpa using fun e => h ⟨rfl, e.symm⟩)]
    rfl
  | _ + 4 => rfl
theorem ctH_S2 {EB : List (Nat × Nat)} {ES : List (Nat × Nat × Nat)} {l r m : Nat} : ∀ k' i', ¬ (k' = 2 ∧ i' = r) → ctOf EB (ES ++ [(l, r, m)]) k' i' = ctH EB EB ES (ES ++ [(l, r, m)]) k' i' := fun k' i' h => by
  match k' with
  | 0 => rfl
  | 1 => rfl
  | 2 =>
    show ((ES ++ [(l, r, m)]).filter _).map _ = _
    rw [filter_ne (by simpa using fun e => h ⟨rfl, e.symm⟩)]
    rfl
  | 3 => rfl
  | _ + 4 => rfl
/-- all that is noted is of the first S spans -/
def BdE (EB : List (Nat × Nat)) (ES : List (Nat × Nat × Nat)) (S : Nat) : Prop := (∀ e ∈ EB, e.1 < S ∧ e.2 < S) ∧ ∀ e ∈ ES, e.1 < S ∧ e.2.1 < S
theorem BdE.ct {EB : List (Nat × Nat)} {ES : List (Nat × Nat × Nat)} {S : Nat} (h : BdE EB ES S) (k : Nat) {i : Nat} (hi : S ≤ i) : ctOf EB ES k i = [] := by
  have key : ∀ {α : Type} {p : α → Bool} {xs : List α}, (∀ x ∈ xs, p x = false) → xs.filter p = [] := fun {α p xs} h => by
    rw [List.filter_eq_nil_iff]
    intro x hx
    rw [h x hx]
    exact Bool.false_ne_true
  match k with
  | 0 =>
    show ((EB.filter _).map _) = _
    rw [key (fun x hx => by have := h.1 x hx; simp; omega)]
    rfl
  | 1 =>
    show ((EB.filter _).map _) = _
    rw [key (fun x hx => by have := h.1 x hx; simp; omega)]
    rfl
  | 2 =>
    show ((ES.filter _).map _) = _
    rw [key (fun x hx => by have := h.2 x hx; simp; omega)]
    rfl
  | 3 =>
    show ((ES.filter _).map _) = _
    rw [key (fun x hx => by have := h.2 x hx; simp; omega)]
    rfl
  | _ + 4 => rfl
theorem BdE.up {EB : List (Nat × Nat)} {ES : List (Nat × Nat × Nat)} {S S' : Nat} (h : BdE EB ES S) (l : S ≤ S') : BdE EB ES S' := ⟨fun e he => by have := h.1 e he; omega, fun e he => by have := h.2 e he; omega⟩
theorem BdE.addB {EB : List (Nat × Nat)} {ES : List (Nat × Nat × Nat)} {S l g : Nat} (h : BdE EB ES S) (hl : l < S) (hg : g < S) : BdE (EB ++ [(l, g)]) ES S := ⟨fun e he => by
  rcases List.mem_append.mp he with he | he
  · exact h.1 e he
  · rw [List.mem_singleton.mp he]; exact ⟨hl, hg⟩, h.2⟩
theorem BdE.addS {EB : List (Nat × Nat)} {ES : List (Nat × Nat × Nat)} {S l g m : Nat} (h : BdE EB ES S) (hl : l < S) (hg : g < S) : BdE EB (ES ++ [(l, g, m)]) S := ⟨h.1, fun e he => by
  rcases List.mem_append.mp he with he | he
  · exact h.2 e he
  · rw [List.mem_singleton.mp he]; exact ⟨hl, hg⟩⟩
/-- the parts of an object that keeps spans -/
structure SpF (fs : List (Str × V)) (n : Int) (p : Addr) (ad : Nat → Nat → Addr) : Prop where
  off : fs.lookup ("offices" : Str) = some (.int n)
  rows : fs.lookup ("rows" : Str) = some (.ref p)
  ng : fs.lookup ("no_greater" : Str) = some (.ref (ad 0 0))
  nl : fs.lookup ("no_lesser" : Str) = some (.ref (ad 1 0))
  lw : fs.lookup ("leftward" : Str) = some (.ref (ad 2 0))
  rw : fs.lookup ("rightward" : Str) = some (.ref (ad 3 0))
  m1 : fs.lookup ("added" : Str) = none
  m2 : fs.lookup ("put_below" : Str) = none
  m3 : fs.lookup ("put_beside" : Str) = none
  m4 : fs.lookup ("begun" : Str) = none
theorem SpF.of {fs : List (Str × V)} {n : Int} {p : Addr} {ad ad' : Nat → Nat → Addr} (h : SpF fs n p ad) (e : ∀ k, k < 4 → ad' k 0 = ad k 0) : SpF fs n p ad' :=
  ⟨h.off, h.rows, by rw [e 0 (by decide)]; exact h.ng, by rw [e 1 (by decide)]; exact h.nl, by rw [e 2 (by decide)]; exact h.lw, by rw [e 3 (by decide)]; exact h.rw, h.m1, h.m2, h.m3, h.m4⟩
theorem LLs.obj {K : PySem.W.Frag} {H : Hp} {ad : Nat → Nat → Addr} {N : Nat → Nat} {ct : Nat → Nat → List PyData} (h : LLs K H ad N ct) {sv C dx : Addr} {fs : List (Str × V)} (e : H sv = Option.some (HO.ins C dx fs)) : ∀ k i, k < 4 → i ≤ N k → sv ≠ ad k i := fun k i hk hi z => by
  obtain ⟨y, e2⟩ := h.some hk hi
  rw [← z, e] at e2
  cases e2
end Pf

namespace Pf
/-! ### settling the greatest numbers, the least ones first -/
structure Stl where
  S : Nat
  n : Nat
  Nr : Nat → List Nat
  Ap : Nat → List (Nat × Nat)
  mo : List (Nat × Nat)
  L : List Int
namespace Stl
structure Ok (D : Stl) : Prop where
  n1 : 1 ≤ D.n
  nr : ∀ g, ∀ s ∈ D.Nr g, s < D.S
  ap : ∀ a, ∀ e ∈ D.Ap a, e.1 < D.S
  mo : ∀ e ∈ D.mo, e.1 < D.S ∧ e.2 < D.n
inductive Der (D : Stl) : Nat → Nat → Prop
  | most {s v} (h : (s, v) ∈ D.mo) : Der D s v
  | near {s g v} (h : Der D g v) (r : s ∈ D.Nr g) : Der D s v
  | apart {a b u v mu} (h : Der D a u) (r : (b, mu) ∈ D.Ap a) (l : u < v) (hv : v < D.n) (sh : (mu : Int) ≤ D.L.getD v (-1)) : Der D b v
def ft (D : Stl) (f : List Nat) (s : Nat) : Nat := f.getD s (D.n - 1)
def Pend (D : Stl) (e : Nat) (f : List Nat) (w : Nat → List Nat) (b v : Nat) : Prop := D.ft f b ≤ v ∨ ∃ v', v' ≤ v ∧ e ≤ v' ∧ b ∈ w v'
structure Inv (D : Stl) (e : Nat) (f : List Nat) (w : Nat → List Nat) (ex : Nat → Prop) (xa : Nat → Prop) : Prop where
  len : f.length = D.S
  fle : ∀ s, D.ft f s ≤ D.n - 1
  fval : ∀ s, D.ft f s < D.n - 1 → D.ft f s ≤ e
  der : ∀ s, D.ft f s < D.n - 1 → D.Der s (D.ft f s)
  wder : ∀ v, ∀ s ∈ w v, D.Der s v ∧ s < D.S
  mo : ∀ s v, (s, v) ∈ D.mo → D.Pend e f w s v
  near : ∀ g, D.ft f g < D.n - 1 → ¬ ex g → ∀ s ∈ D.Nr g, D.Pend e f w s (D.ft f g)
  apart : ∀ a, D.ft f a < D.n - 1 → ¬ xa a → ∀ b mu, (b, mu) ∈ D.Ap a → ∀ v, D.ft f a < v → v < D.n → (mu : Int) ≤ D.L.getD v (-1) → D.Pend e f w b v
/-- nothing is left out -/
def no : Nat → Prop := fun _ => False
section
variable {D : Stl} {e : Nat} {f : List Nat} {w : Nat → List Nat} {ex xa : Nat → Prop}
theorem ft_set {s x : Nat} (hs : s < f.length) (i : Nat) : D.ft (f.set s x) i = if i = s then x else D.ft f i := by
  unfold ft
  rw [List.getD_eq_getElem?_getD, List.getD_eq_getElem?_getD, List.getElem?_set]
  by_cases h : s = i
  · subst h
    rw [if_pos rfl, if_pos rfl, if_pos hs]
    rfl
  · rw [if_neg h, if_neg (fun z => h z.symm)]
theorem Pend.mono {w' : Nat → List Nat} {f' : List Nat} {b v : Nat} (h : D.Pend e f w b v) (hf : ∀ s, D.ft f' s ≤ D.ft f s) (hw : ∀ v s, s ∈ w v → s ∈ w' v ∨ D.ft f' s ≤ v) : D.Pend e f' w' b v := by
  rcases h with h | ⟨v', h1, h2, h3⟩
  · exact .inl (Nat.le_trans (hf b) h)
  · rcases hw v' b h3 with h | h
    · exact .inr ⟨v', h1, h2, h⟩
    · exact .inl (Nat.le_trans h h1)
/-- the first word -/
theorem Inv.first (O : D.Ok) (hw : ∀ v s, s ∈ w v ↔ (s, v) ∈ D.mo) : D.Inv 0 (List.replicate D.S (D.n - 1)) w no no := by
  have ef : ∀ s, D.ft (List.replicate D.S (D.n - 1)) s = D.n - 1 := fun s => by
    unfold ft
    rw [List.getD_eq_getElem?_getD, List.getElem?_replicate]
    split <;> rfl
  refine ⟨List.length_replicate, fun s => by rw [ef]; exact Nat.le_refl _, fun s h => ?_, fun s h => ?_, fun v s h => ⟨.most ((hw v s).mp h), (O.mo _ ((hw v s).mp h)).1⟩, fun s v h => .inr ⟨v, Nat.le_refl _, Nat.zero_le _, (hw v s).mpr h⟩, fun g h => ?_, fun g h => ?_⟩
  all_goals
    rw [ef] at h
    exact absurd h (Nat.lt_irrefl _)
/-- a span that is settled already leaves the queue -/
theorem Inv.skip (I : D.Inv e f w no no) {q : List Nat} {s : Nat} (hq : w e = q ++ [s]) (hs : D.ft f s ≤ e) : D.Inv e f (fun v => if v = e then q else w v) no no := by
  have sub : ∀ v i, i ∈ (if v = e then q else w v) → i ∈ w v := fun v i h => by
    split at h
    · rename_i hv
      rw [hv, hq]
      exact List.mem_append_left _ h
    · exact h
  have up : ∀ v i, i ∈ w v → i ∈ (if v = e then q else w v) ∨ D.ft f i ≤ v := fun v i h => by
    split
    · rename_i hv
      rw [hv, hq] at h
      rcases List.mem_append.mp h with h | h
      · exact .inl h
      · rw [List.mem_singleton.mp h, hv]
        exact .inr hs
    · exact .inl h
  exact ⟨I.len, I.fle, I.fval, I.der, fun v i h => I.wder v i (sub v i h), fun i v h => (I.mo i v h).mono (fun _ => Nat.le_refl _) up, fun g h x i hi => (I.near g h x i hi).mono (fun _ => Nat.le_refl _) up,
    fun g h x b mu hb v hv hn hl => (I.apart g h x b mu hb v hv hn hl).mono (fun _ => Nat.le_refl _) up⟩
/-- a span is settled, with all that follows of those near it -/
theorem Inv.settle (O : D.Ok) (I : D.Inv e f w no no) (he : e < D.n - 1) {q : List Nat} {s : Nat} (hq : w e = q ++ [s]) (hs : e < D.ft f s) :
    D.Inv e (f.set s e) (fun v => if v = e then q ++ (D.Nr s).filter (fun o => decide (e < D.ft (f.set s e) o)) else w v) no (fun a => a = s) := by
  have hsd := I.wder e s (by rw [hq]; simp)
  have hsl : s < f.length := by rw [I.len]; exact hsd.2
  have hfs : ∀ i, D.ft (f.set s e) i = if i = s then e else D.ft f i := ft_set hsl
  have dn : ∀ i, D.ft (f.set s e) i ≤ D.ft f i := fun i => by
    rw [hfs]
    split
    · rename_i h
      rw [h]
      omega
    · exact Nat.le_refl _
  have up : ∀ v i, i ∈ w v → i ∈ (if v = e then q ++ (D.Nr s).filter (fun o => decide (e < D.ft (f.set s e) o)) else w v) ∨ D.ft (f.set s e) i ≤ v := fun v i h => by
    split
    · rename_i hv
      rw [hv, hq] at h
      rcases List.mem_append.mp h with h | h
      · exact .inl (List.mem_append_left _ h)
      · rw [List.mem_singleton.mp h, hv, hfs, if_pos rfl]
        exact .inr (Nat.le_refl _)
    · exact .inl h
  refine ⟨by rw [List.length_set]; exact I.len, fun i => Nat.le_trans (dn i) (I.fle i), fun i h => ?_, fun i h => ?_, fun v i h => ?_, fun i v h => (I.mo i v h).mono dn up, fun g h x i hi => ?_, fun g h x b mu hb v hv hn hl => ?_⟩
  · rw [hfs] at h ⊢
    split
    · exact Nat.le_refl _
    · rename_i hi
      rw [if_neg hi] at h
      exact I.fval i h
  · rw [hfs] at h ⊢
    split
    · rename_i hi
      rw [hi]
      exact hsd.1
    · rename_i hi
      rw [if_neg hi] at h
      exact I.der i h
  · split at h
    · rename_i hv
      subst hv
      rcases List.mem_append.mp h with h | h
      · exact I.wder v i (by rw [hq]; exact List.mem_append_left _ h)
      · have := (List.mem_filter.mp h).1
        exact ⟨.near hsd.1 this, O.nr _ _ this⟩
    · exact I.wder v i h
  · by_cases hg : g = s
    · subst hg
      rw [hfs, if_pos rfl]
      rcases Nat.lt_or_ge e (D.ft (f.set g e) i) with hl | hl
      · refine .inr ⟨e, Nat.le_refl _, Nat.le_refl _, ?_⟩
        show i ∈ (if e = e then q ++ List.filter (fun o => decide (e < D.ft (f.set g e) o)) (D.Nr g) else w e)
        rw [if_pos rfl]
        exact List.mem_append_right _ (List.mem_filter.mpr ⟨hi, decide_eq_true hl⟩)
      · exact .inl hl
    · rw [hfs, if_neg hg] at h ⊢
      exact (I.near g h x i hi).mono dn up
  · have hg : g ≠ s := x
    rw [hfs, if_neg hg] at h hv
    exact (I.apart g h (fun z => z) b mu hb v hv hn hl).mono dn up
/-- .. a further one waits -/
theorem Inv.wait (I : D.Inv e f w ex xa) {v s : Nat} (hd : D.Der s v) (hs : s < D.S) : D.Inv e f (fun v' => if v' = v then w v ++ [s] else w v') ex xa := by
  have up : ∀ v' i, i ∈ w v' → i ∈ (if v' = v then w v ++ [s] else w v') ∨ D.ft f i ≤ v' := fun v' i h => by
    split
    · rename_i hv
      rw [hv] at h
      exact .inl (List.mem_append_left _ h)
    · exact .inl h
  refine ⟨I.len, I.fle, I.fval, I.der, fun v' i h => ?_, fun i v h => (I.mo i v h).mono (fun _ => Nat.le_refl _) up, fun g h x i hi => (I.near g h x i hi).mono (fun _ => Nat.le_refl _) up,
    fun g h x b mu hb v hv hn hl => (I.apart g h x b mu hb v hv hn hl).mono (fun _ => Nat.le_refl _) up⟩
  split at h
  · rename_i hv
    subst hv
    rcases List.mem_append.mp h with h | h
    · exact I.wder v' i h
    · rw [List.mem_singleton.mp h]
      exact ⟨hd, hs⟩
  · exact I.wder v' i h
/-- what is told of a neighbour apart is done -/
def Done (D : Stl) (e : Nat) (f : List Nat) (w : Nat → List Nat) (b mu : Nat) : Prop := ∀ v, e < v → v < D.n → (mu : Int) ≤ D.L.getD v (-1) → D.Pend e f w b v
theorem Done.wait {v s b mu : Nat} (h : D.Done e f w b mu) : D.Done e f (fun v' => if v' = v then w v ++ [s] else w v') b mu := fun v1 h1 h2 h3 => (h v1 h1 h2 h3).mono (fun _ => Nat.le_refl _) fun v' i h => by
  split
  · rename_i hv
    rw [hv] at h
    exact .inl (List.mem_append_left _ h)
  · exact .inl h
theorem Inv.all {ex0 : Nat} (I : D.Inv e f w no (fun a => a = ex0)) (he : D.ft f ex0 = e) (h : ∀ b mu, (b, mu) ∈ D.Ap ex0 → D.Done e f w b mu) : D.Inv e f w no no :=
  ⟨I.len, I.fle, I.fval, I.der, I.wder, I.mo, I.near, fun a ha x b mu hb v hv hn hl => by
    by_cases z : a = ex0
    · subst z
      rw [he] at hv
      exact h b mu hb v hv hn hl
    · exact I.apart a ha z b mu hb v hv hn hl⟩
/-- the next number -/
theorem Inv.next (I : D.Inv e f w no no) (h0 : w e = []) : D.Inv (e + 1) f w no no := by
  have up : ∀ {b v}, D.Pend e f w b v → D.Pend (e + 1) f w b v := fun {b v} h => by
    rcases h with h | ⟨v', h1, h2, h3⟩
    · exact .inl h
    · refine .inr ⟨v', h1, ?_, h3⟩
      rcases Nat.lt_or_ge e v' with hl | hl
      · exact hl
      · rw [show v' = e by omega, h0] at h3
        cases h3
  exact ⟨I.len, I.fle, fun s h => Nat.le_succ_of_le (I.fval s h), I.der, I.wder, fun i v h => up (I.mo i v h), fun g h x i hi => up (I.near g h x i hi), fun g h x b mu hb v hv hn hl => up (I.apart g h x b mu hb v hv hn hl)⟩
structure IsG (D : Stl) (f : List Nat) : Prop where
  len : f.length = D.S
  le : ∀ s, D.ft f s ≤ D.n - 1
  der : ∀ s, D.ft f s < D.n - 1 → D.Der s (D.ft f s)
  least : ∀ s v, D.Der s v → D.ft f s ≤ v
theorem Inv.done (I : D.Inv (D.n - 1) f w no no) : D.IsG f where
  len := I.len
  le := I.fle
  der := I.der
  least := fun s v h => by
    have cl : ∀ {b v}, D.Pend (D.n - 1) f w b v → D.ft f b ≤ v := fun {b v} h => by
      rcases h with h | ⟨v', h1, h2, h3⟩
      · exact h
      · have := I.fle b
        omega
    induction h with
    | most h => exact cl (I.mo _ _ h)
    | @near s g v h r ih =>
      by_cases hg : D.ft f g < D.n - 1
      · exact Nat.le_trans (cl (I.near g hg (fun z => z) s r)) ih
      · have := I.fle s
        omega
    | @apart a b u v mu h r l hv sh ih =>
      by_cases hg : D.ft f a < D.n - 1
      · exact cl (I.apart a hg (fun z => z) b mu r v (by omega) hv sh)
      · have := I.fle b
        omega
/-! sizes -/
def cap (D : Stl) (B : Nat) (f : List Nat) (w : Nat → List Nat) : Prop := ∀ v, (w v).length + f.count (D.n - 1) * B ≤ D.mo.length + D.S * B
theorem count_set {f : List Nat} {s x y : Nat} (hs : s < f.length) (e : f.getD s y = y) (hx : x ≠ y) : (f.set s x).count y + 1 = f.count y := by
  have e' : f[s] = y := by
    rw [List.getD_eq_getElem?_getD, List.getElem?_eq_getElem hs] at e
    exact e
  rw [List.count_set hs, e']
  have hp : 0 < f.count y := List.count_pos_iff.mpr (by rw [← e']; exact List.getElem_mem hs)
  simp only [beq_self_eq_true, if_true, beq_iff_eq, hx, if_false]
  omega
end
end Stl
/-! ### the last moments at which editions are shown -/
def latS (l : List Int) (f : Fd) : List Int := l.set f.2.2 (max (l.getD f.2.2 0) (f.1 : Int))
def latN (n : Nat) (fs : List Fd) : List Int := fs.foldl latS (List.replicate n (-1))
theorem latS_len (l : List Int) (f : Fd) : (latS l f).length = l.length := List.length_set
theorem lat_len (fs : List Fd) : ∀ l : List Int, (fs.foldl latS l).length = l.length := by
  induction fs with
  | nil => intro l; rfl
  | cons f fs ih => intro l; rw [List.foldl_cons, ih, latS_len]
theorem latN_len (n : Nat) (fs : List Fd) : (latN n fs).length = n := by
  unfold latN
  rw [lat_len, List.length_replicate]
theorem latN_snoc (n : Nat) (fs : List Fd) (f : Fd) : latN n (fs ++ [f]) = latS (latN n fs) f := by
  unfold latN
  rw [List.foldl_append]
  rfl
theorem latN_iff {n m : Nat} {fs : List Fd} (hg : GoodF n m fs) {v mu : Nat} (hv : v < n) : (mu : Int) ≤ (latN n fs).getD v (-1) ↔ ∃ f ∈ fs, f.2.2 = v ∧ mu ≤ f.1 := by
  have main : ∀ (fs : List Fd) (l : List Int), (∀ f ∈ fs, f.2.2 < l.length) → v < l.length → ((mu : Int) ≤ (fs.foldl latS l).getD v (-1) ↔ ((mu : Int) ≤ l.getD v (-1) ∨ ∃ f ∈ fs, f.2.2 = v ∧ mu ≤ f.1)) := fun fs => by
    induction fs with
    | nil => intro l _ _; simp
    | cons f fs ih =>
      intro l h1 h2
      have hf := h1 f (List.mem_cons_self ..)
      rw [List.foldl_cons, ih _ (fun g hg => by rw [latS_len]; exact h1 g (List.mem_cons_of_mem _ hg)) (by rw [latS_len]; exact h2)]
      have e : (mu : Int) ≤ (latS l f).getD v (-1) ↔ ((mu : Int) ≤ l.getD v (-1) ∨ (f.2.2 = v ∧ mu ≤ f.1)) := by
        unfold latS
        rw [List.getD_eq_getElem?_getD, List.getD_eq_getElem?_getD, List.getElem?_set]
        by_cases hv' : f.2.2 = v
        · subst hv'
          rw [if_pos rfl, if_pos hf, List.getD_eq_getElem?_getD, List.getElem?_eq_getElem h2]
          show (mu : Int) ≤ max l[f.2.2] (f.1 : Int) ↔ ((mu : Int) ≤ l[f.2.2] ∨ (f.2.2 = f.2.2 ∧ mu ≤ f.1))
          omega
        · rw [if_neg hv']
          simp [hv']
      rw [e]
      constructor
      · rintro ((h | h) | ⟨g, hg, h⟩)
        · exact .inl h
        · exact .inr ⟨f, List.mem_cons_self .., h⟩
        · exact .inr ⟨g, List.mem_cons_of_mem _ hg, h⟩
      · rintro (h | ⟨g, hg, h⟩)
        · exact .inl (.inl h)
        · rcases List.mem_cons.mp hg with rfl | hg
          · exact .inl (.inr h)
          · exact .inr ⟨g, hg, h⟩
  unfold latN
  rw [main fs _ (fun f hf => by rw [List.length_replicate]; exact (hg f hf).2.2) (by rw [List.length_replicate]; exact hv)]
  rw [List.getD_eq_getElem?_getD, List.getElem?_replicate, if_pos hv]
  constructor
  · rintro (h | h)
    · have h' : (mu : Int) ≤ -1 := h
      omega
    · exact h
  · exact .inr
/-! ### .. and the next ones that are shown longer -/
/-- (longest, what is found) behind k steps -/
def latF (L : List Int) (e : Nat) : Nat → Int × List (Int × Nat)
  | 0 => (-1, [])
  | k + 1 => if (latF L e k).1 < L.getD (e + 1 + k) 0 then (L.getD (e + 1 + k) 0, (latF L e k).2 ++ [(L.getD (e + 1 + k) 0, e + 1 + k)]) else latF L e k
def folN (fu : List (Int × Nat)) (mu : Nat) : List Nat := (fu.filter fun p => decide ((mu : Int) ≤ p.1)).map (·.2)
theorem fol_ok (L : List Int) (e mu : Nat) : ∀ k, e + 1 + k ≤ L.length →
    (∀ o ∈ folN (latF L e k).2 mu, e < o ∧ o < e + 1 + k ∧ (mu : Int) ≤ L.getD o (-1)) ∧
    (folN (latF L e k).2 mu = [] → (latF L e k).1 < (mu : Int)) ∧
    (∀ v, e < v → v < e + 1 + k → (mu : Int) ≤ L.getD v (-1) → ∃ o r, folN (latF L e k).2 mu = o :: r ∧ o ≤ v) := fun k => by
  induction k with
  | zero =>
    intro _
    refine ⟨fun o h => (nomatch h), fun _ => ?_, fun v h1 h2 => by omega⟩
    show (-1 : Int) < (mu : Int)
    omega
  | succ k ih =>
    intro hk
    obtain ⟨h1, h2, h3⟩ := ih (by omega)
    have hl : e + 1 + k < L.length := by omega
    have eg : L.getD (e + 1 + k) 0 = L.getD (e + 1 + k) (-1) := by
      rw [List.getD_eq_getElem?_getD, List.getD_eq_getElem?_getD, List.getElem?_eq_getElem hl]
      rfl
    unfold latF
    split
    · rename_i hgt
      have ea : folN ((latF L e k).2 ++ [(L.getD (e + 1 + k) 0, e + 1 + k)]) mu = folN (latF L e k).2 mu ++ (if (mu : Int) ≤ L.getD (e + 1 + k) 0 then [e + 1 + k] else []) := by
        unfold folN
        rw [List.filter_append, List.map_append]
        congr 1
        by_cases hc : (mu : Int) ≤ L.getD (e + 1 + k) 0
        · rw [if_pos hc, List.filter_cons_of_pos (by simpa using hc)]
          rfl
        · rw [if_neg hc, List.filter_cons_of_neg (by simpa using hc)]
          rfl
      show (∀ o ∈ folN ((latF L e k).2 ++ [(L.getD (e + 1 + k) 0, e + 1 + k)]) mu, _) ∧ (folN ((latF L e k).2 ++ [(L.getD (e + 1 + k) 0, e + 1 + k)]) mu = [] → L.getD (e + 1 + k) 0 < (mu : Int)) ∧ ∀ v, e < v → v < e + 1 + (k + 1) → (mu : Int) ≤ L.getD v (-1) → ∃ o r, folN ((latF L e k).2 ++ [(L.getD (e + 1 + k) 0, e + 1 + k)]) mu = o :: r ∧ o ≤ v
      rw [ea]
      refine ⟨fun o ho => ?_, fun h => ?_, fun v hv1 hv2 hv3 => ?_⟩
      · rcases List.mem_append.mp ho with ho | ho
        · have := h1 o ho
          exact ⟨this.1, by omega, this.2.2⟩
        · split at ho
          · rename_i hc
            rw [List.mem_singleton.mp ho, ← eg]
            exact ⟨by omega, by omega, hc⟩
          · cases ho
      · rw [List.append_eq_nil_iff] at h
        have := h.2
        split at this
        · cases this
        · rename_i hc
          omega
      · cases hf : folN (latF L e k).2 mu with
        | cons o r =>
          rcases Nat.lt_or_ge v (e + 1 + k) with hv | hv
          · obtain ⟨o', r', e1, e2⟩ := h3 v hv1 hv hv3
            rw [hf] at e1
            cases e1
            exact ⟨_, _, rfl, e2⟩
          · have := h1 o (by rw [hf]; exact List.mem_cons_self ..)
            exact ⟨_, _, rfl, by omega⟩
        | nil =>
          rcases Nat.lt_or_ge v (e + 1 + k) with hv | hv
          · obtain ⟨o', r', e1, e2⟩ := h3 v hv1 hv hv3
            rw [hf] at e1
            cases e1
          · rw [show v = e + 1 + k by omega, ← eg] at hv3
            rw [if_pos hv3]
            exact ⟨_, _, rfl, by omega⟩
    · rename_i hgt
      refine ⟨fun o ho => ?_, h2, fun v hv1 hv2 hv3 => ?_⟩
      · have := h1 o ho
        exact ⟨this.1, by omega, this.2.2⟩
      · rcases Nat.lt_or_ge v (e + 1 + k) with hv | hv
        · exact h3 v hv1 hv hv3
        · cases hf : folN (latF L e k).2 mu with
          | cons o r =>
            have := h1 o (by rw [hf]; exact List.mem_cons_self ..)
            exact ⟨_, _, rfl, by omega⟩
          | nil =>
            have := h2 hf
            rw [show v = e + 1 + k by omega, ← eg] at hv3
            omega
theorem latF_len (L : List Int) (e : Nat) : ∀ k, (latF L e k).2.length ≤ k
  | 0 => Nat.le_refl _
  | k + 1 => by
    have := latF_len L e k
    unfold latF
    split
    · show ((latF L e k).2 ++ _).length ≤ _
      rw [List.length_append]
      simp
      omega
    · omega
end Pf

namespace Pf
open PySem PySem.Spec PyProof.Rows L2
/-! ### what is settled of the spans of a log, and what that says of its doings -/
def shownN (n : Nat) (rs : List Row) (fs : List Fd) : List (Nat × Nat) := ((List.range n).map fun o => (o, o)) ++ fs.map fun f => ((nowL n rs f.1).getD f.2.1 0, f.2.2)
def stlG (n : Nat) (rs : List Row) (fs : List Fd) : Stl where
  S := n + rs.length
  n := n
  Nr := fun g => ((EBt n rs rs.length).filter fun e => e.2 == g).map (·.1)
  Ap := fun l => ((ESt n rs rs.length).filter fun e => e.1 == l).map fun e => (e.2.1, e.2.2)
  mo := shownN n rs fs
  L := latN n fs
def stlL (n : Nat) (rs : List Row) (fs : List Fd) : Stl where
  S := n + rs.length
  n := n
  Nr := fun l => ((EBt n rs rs.length).filter fun e => e.1 == l).map (·.2)
  Ap := fun r => ((ESt n rs rs.length).filter fun e => e.2.1 == r).map fun e => (e.1, e.2.2)
  mo := (shownN n rs fs).map fun e => (e.1, n - 1 - e.2)
  L := (latN n fs).reverse
def spnG (n : Nat) (rs : List Row) (fs : List Fd) : Spn := ⟨n, rs.length, spX rs, spY rs, spS rs, id, fs⟩
def spnL (n : Nat) (rs : List Row) (fs : List Fd) : Spn := ⟨n, rs.length, spX rs, spY rs, spS rs, fun z => n - 1 - z, fs⟩
theorem nowL_len' (n : Nat) (rs : List Row) : ∀ t, (nowL n rs t).length = n
  | 0 => List.length_range
  | t + 1 => by
    show ((nowL n rs t).set _ _).length = n
    rw [List.length_set, nowL_len' n rs t]
theorem nowL_lt' (n : Nat) (rs : List Row) : ∀ t, ∀ s ∈ nowL n rs t, s < n + t
  | 0, s, h => List.mem_range.mp h
  | t + 1, s, h => by
    rcases List.mem_or_eq_of_mem_set h with h | h
    · have := nowL_lt' n rs t s h
      omega
    · omega
section
variable {n : Nat} {rs : List Row} {fs : List Fd}
theorem row_at {t : Nat} (hg : ∀ r ∈ rs, GoodRow (n : Int) r) (ht : t < rs.length) : spX rs t < n ∧ spY rs t < n ∧ (spY rs t = spX rs t + 1 ∨ spX rs t = spY rs t + 1) ∧ ((rs.getD t (0, 0, false)).1 < (rs.getD t (0, 0, false)).2.1 ↔ spY rs t = spX rs t + 1) := by
  have hr : rs.getD t (0, 0, false) ∈ rs := by
    rw [List.getD_eq_getElem?_getD, List.getElem?_eq_getElem ht]
    exact List.getElem_mem _
  obtain ⟨g1, g2, g3, g4, g5⟩ := hg _ hr
  unfold spX spY
  omega
theorem okG (n1 : 1 ≤ n) (hg : ∀ r ∈ rs, GoodRow (n : Int) r) (hf : GoodF n rs.length fs) : (spnG n rs fs).Ok :=
  ⟨fun t ht => (row_at hg ht).1, fun t ht => (row_at hg ht).2.1, fun t ht => (row_at hg ht).2.2.1, fun z hz => hz, fun z hz => rfl, hf⟩
theorem okL (n1 : 1 ≤ n) (hg : ∀ r ∈ rs, GoodRow (n : Int) r) (hf : GoodF n rs.length fs) : (spnL n rs fs).Ok :=
  ⟨fun t ht => (row_at hg ht).1, fun t ht => (row_at hg ht).2.1, fun t ht => by
    obtain ⟨h1, h2, h3, _⟩ := row_at hg ht
    show n - 1 - spY rs t = n - 1 - spX rs t + 1 ∨ n - 1 - spX rs t = n - 1 - spY rs t + 1
    omega, fun z hz => by show n - 1 - z < n; omega, fun z hz => by
    have hz' : z < n := hz
    show n - 1 - (n - 1 - z) = z
    omega, hf⟩
theorem now_th (D : Spn) (hn : D.n = n) (hX : D.X = spX rs) : ∀ {t z : Nat}, z < n → (nowL n rs t).getD z 0 = D.th t z
  | 0, z, hz => by
    show (List.range n).getD z 0 = z
    rw [List.getD_eq_getElem?_getD, List.getElem?_range hz]
    rfl
  | t + 1, z, hz => by
    show ((nowL n rs t).set (spX rs t) (n + t)).getD z 0 = if z = D.X t then D.n + t else D.th t z
    rw [List.getD_eq_getElem?_getD, List.getElem?_set, hX, hn]
    by_cases e : spX rs t = z
    · rw [if_pos e, if_pos (by rw [nowL_len', e]; exact hz), if_pos e.symm]
      rfl
    · rw [if_neg e, if_neg (fun q => e q.symm), ← now_th D hn hX hz, List.getD_eq_getElem?_getD]
theorem mem_EB {e : Nat × Nat} : ∀ {m : Nat}, e ∈ EBt n rs m ↔ ∃ t, t < m ∧ e ∈ rEB n (n + t) (nowL n rs t) (rs.getD t (0, 0, false))
  | 0 => ⟨fun h => (nomatch h), fun ⟨t, h, _⟩ => absurd h (Nat.not_lt_zero t)⟩
  | m + 1 => by
    show e ∈ EBt n rs m ++ _ ↔ _
    rw [List.mem_append, mem_EB]
    constructor
    · rintro (⟨t, h1, h2⟩ | h)
      · exact ⟨t, by omega, h2⟩
      · exact ⟨m, by omega, h⟩
    · rintro ⟨t, h1, h2⟩
      by_cases h : t = m
      · subst h
        exact .inr h2
      · exact .inl ⟨t, by omega, h2⟩
theorem mem_ES {e : Nat × Nat × Nat} : ∀ {m : Nat}, e ∈ ESt n rs m ↔ ∃ t, t < m ∧ e ∈ rES n (n + t) (nowL n rs t) (rs.getD t (0, 0, false)) (t + 1)
  | 0 => ⟨fun h => (nomatch h), fun ⟨t, h, _⟩ => absurd h (Nat.not_lt_zero t)⟩
  | m + 1 => by
    show e ∈ ESt n rs m ++ _ ↔ _
    rw [List.mem_append, mem_ES]
    constructor
    · rintro (⟨t, h1, h2⟩ | h)
      · exact ⟨t, by omega, h2⟩
      · exact ⟨m, by omega, h⟩
    · rintro ⟨t, h1, h2⟩
      by_cases h : t = m
      · subst h
        exact .inr h2
      · exact .inl ⟨t, by omega, h2⟩
theorem mem_ite {α : Type} {c : Prop} [Decidable c] {x y : α} : x ∈ (if c then [y] else []) ↔ c ∧ x = y := by
  split
  · rename_i h
    rw [List.mem_singleton]
    exact ⟨fun e => ⟨h, e⟩, fun e => e.2⟩
  · rename_i h
    exact ⟨fun e => (nomatch e), fun e => absurd e.1 h⟩
/-- the pairs of a row, in the words of its offices -/
theorem row_EB {t : Nat} (hg : ∀ r ∈ rs, GoodRow (n : Int) r) (ht : t < rs.length) (D : Spn) (hn : D.n = n) (hX : D.X = spX rs) {e : Nat × Nat} : e ∈ rEB n (n + t) (nowL n rs t) (rs.getD t (0, 0, false)) ↔
    (spY rs t = spX rs t + 1 ∧ (e = (D.th t (spX rs t), n + t) ∨ (spS rs t = true ∧ e = (D.th t (spY rs t), n + t)))) ∨
    (spX rs t = spY rs t + 1 ∧ (e = (n + t, D.th t (spX rs t)) ∨ (spS rs t = true ∧ e = (n + t, D.th t (spY rs t))))) ∨
    (0 < spX rs t ∧ e = (D.th t (spX rs t - 1), n + t)) ∨ (spX rs t + 1 < n ∧ e = (n + t, D.th t (spX rs t + 1))) := by
  obtain ⟨h1, h2, h3, h4⟩ := row_at hg ht
  unfold rEB
  rw [List.mem_append, List.mem_append, mem_ite, mem_ite]
  have e1 : (nowL n rs t).getD (rs.getD t (0, 0, false)).1.toNat 0 = D.th t (spX rs t) := now_th D hn hX h1
  have e2 : (nowL n rs t).getD (rs.getD t (0, 0, false)).2.1.toNat 0 = D.th t (spY rs t) := now_th D hn hX h2
  have e3 : (nowL n rs t).getD ((rs.getD t (0, 0, false)).1.toNat - 1) 0 = D.th t (spX rs t - 1) := now_th D hn hX (show spX rs t - 1 < n by omega)
  rw [e1, e2, e3]
  have e4 : (spX rs t + 1 < n ∧ e = (n + t, (nowL n rs t).getD ((rs.getD t (0, 0, false)).1.toNat + 1) 0)) ↔ (spX rs t + 1 < n ∧ e = (n + t, D.th t (spX rs t + 1))) :=
    ⟨fun ⟨a, b⟩ => ⟨a, by rw [b]; exact congrArg (Prod.mk (n + t)) (now_th D hn hX a)⟩, fun ⟨a, b⟩ => ⟨a, by rw [b]; exact congrArg (Prod.mk (n + t)) (now_th D hn hX a).symm⟩⟩
  rw [show ((rs.getD t (0, 0, false)).1.toNat + 1 < n ∧ e = (n + t, (nowL n rs t).getD ((rs.getD t (0, 0, false)).1.toNat + 1) 0)) ↔ (spX rs t + 1 < n ∧ e = (n + t, D.th t (spX rs t + 1))) from e4]
  show _ ∨ ((0 < spX rs t ∧ e = (D.th t (spX rs t - 1), n + t)) ∨ _) ↔ _
  by_cases c : (rs.getD t (0, 0, false)).1 < (rs.getD t (0, 0, false)).2.1
  · rw [if_pos c]
    have c' := h4.mp c
    rw [List.mem_cons, mem_ite]
    show (e = _ ∨ (spS rs t = true ∧ e = _)) ∨ _ ↔ _
    constructor
    · rintro (h | h)
      · exact .inl ⟨c', h⟩
      · exact .inr (.inr h)
    · rintro (h | h | h)
      · exact .inl h.2
      · omega
      · exact .inr h
  · rw [if_neg c]
    have c' : spX rs t = spY rs t + 1 := by
      rcases h3 with h | h
      · exact absurd (h4.mpr h) c
      · exact h
    rw [List.mem_cons, mem_ite]
    show (e = _ ∨ (spS rs t = true ∧ e = _)) ∨ _ ↔ _
    constructor
    · rintro (h | h)
      · exact .inr (.inl ⟨c', h⟩)
      · exact .inr (.inr h)
    · rintro (h | h | h)
      · omega
      · exact .inl h.2
      · exact .inr h
theorem row_ES {t : Nat} (hg : ∀ r ∈ rs, GoodRow (n : Int) r) (ht : t < rs.length) (D : Spn) (hn : D.n = n) (hX : D.X = spX rs) {e : Nat × Nat × Nat} : e ∈ rES n (n + t) (nowL n rs t) (rs.getD t (0, 0, false)) (t + 1) ↔
    (0 < spX rs t ∧ e = (D.th t (spX rs t - 1), n + t, t + 1)) ∨ (spX rs t + 1 < n ∧ e = (n + t, D.th t (spX rs t + 1), t + 1)) := by
  obtain ⟨h1, h2, h3, h4⟩ := row_at hg ht
  unfold rES
  rw [List.mem_append, mem_ite, mem_ite]
  have e3 : (nowL n rs t).getD ((rs.getD t (0, 0, false)).1.toNat - 1) 0 = D.th t (spX rs t - 1) := now_th D hn hX (show spX rs t - 1 < n by omega)
  rw [e3]
  constructor
  · rintro (h | ⟨a, b⟩)
    · exact .inl h
    · exact .inr ⟨a, by rw [b]; exact congrArg (fun z => (n + t, z, t + 1)) (now_th D hn hX a)⟩
  · rintro (h | ⟨a, b⟩)
    · exact .inl h
    · exact .inr ⟨a, by rw [b]; exact congrArg (fun z => (n + t, z, t + 1)) (now_th D hn hX a).symm⟩
theorem R_G (hg : ∀ r ∈ rs, GoodRow (n : Int) r) {s g : Nat} : (spnG n rs fs).R s g ↔ (s, g) ∈ EBt n rs rs.length := by
  rw [mem_EB]
  constructor
  · intro h
    cases h with
    | @up t ht e => exact ⟨t, ht, (row_EB hg ht (spnG n rs fs) rfl rfl).mpr (.inl ⟨e, .inl rfl⟩)⟩
    | @upS t ht e hs => exact ⟨t, ht, (row_EB hg ht (spnG n rs fs) rfl rfl).mpr (.inl ⟨e, .inr ⟨hs, rfl⟩⟩)⟩
    | @dn t ht e => exact ⟨t, ht, (row_EB hg ht (spnG n rs fs) rfl rfl).mpr (.inr (.inl ⟨e, .inl rfl⟩))⟩
    | @dnS t ht e hs => exact ⟨t, ht, (row_EB hg ht (spnG n rs fs) rfl rfl).mpr (.inr (.inl ⟨e, .inr ⟨hs, rfl⟩⟩))⟩
    | @lo t z ht hz e =>
      have e' : spX rs t = z + 1 := e
      refine ⟨t, ht, (row_EB hg ht (spnG n rs fs) rfl rfl).mpr (.inr (.inr (.inl ⟨by omega, ?_⟩)))⟩
      rw [show spX rs t - 1 = z by omega]
      rfl
    | @hi t z ht hz e =>
      have e' : z = spX rs t + 1 := e
      have hz' : z < n := hz
      refine ⟨t, ht, (row_EB hg ht (spnG n rs fs) rfl rfl).mpr (.inr (.inr (.inr ⟨by omega, ?_⟩)))⟩
      rw [e']
      rfl
  · rintro ⟨t, ht, h⟩
    obtain ⟨h1, h2, h3, h4⟩ := row_at hg ht
    rcases (row_EB hg ht (spnG n rs fs) rfl rfl).mp h with ⟨c, e | ⟨hs, e⟩⟩ | ⟨c, e | ⟨hs, e⟩⟩ | ⟨c, e⟩ | ⟨c, e⟩ <;> cases e
    · exact .up (D := spnG n rs fs) ht c
    · exact .upS (D := spnG n rs fs) ht c hs
    · exact .dn (D := spnG n rs fs) ht c
    · exact .dnS (D := spnG n rs fs) ht c hs
    · exact .lo (D := spnG n rs fs) ht (show spX rs t - 1 < n by omega) (show spX rs t = spX rs t - 1 + 1 by omega)
    · exact .hi (D := spnG n rs fs) ht (show spX rs t + 1 < n from c) rfl
theorem A_G (hg : ∀ r ∈ rs, GoodRow (n : Int) r) {l r m : Nat} : (spnG n rs fs).A l r m ↔ (l, r, m) ∈ ESt n rs rs.length := by
  rw [mem_ES]
  constructor
  · intro h
    cases h with
    | @lo t z ht hz e =>
      have e' : spX rs t = z + 1 := e
      refine ⟨t, ht, (row_ES hg ht (spnG n rs fs) rfl rfl).mpr (.inl ⟨by omega, ?_⟩)⟩
      rw [show spX rs t - 1 = z by omega]
      rfl
    | @hi t z ht hz e =>
      have e' : z = spX rs t + 1 := e
      have hz' : z < n := hz
      refine ⟨t, ht, (row_ES hg ht (spnG n rs fs) rfl rfl).mpr (.inr ⟨by omega, ?_⟩)⟩
      rw [e']
      rfl
  · rintro ⟨t, ht, h⟩
    obtain ⟨h1, h2, h3, h4⟩ := row_at hg ht
    rcases (row_ES hg ht (spnG n rs fs) rfl rfl).mp h with ⟨c, e⟩ | ⟨c, e⟩ <;> cases e
    · exact .lo (D := spnG n rs fs) ht (show spX rs t - 1 < n by omega) (show spX rs t = spX rs t - 1 + 1 by omega)
    · exact .hi (D := spnG n rs fs) ht (show spX rs t + 1 < n from c) rfl
theorem R_L (hg : ∀ r ∈ rs, GoodRow (n : Int) r) {s g : Nat} : (spnL n rs fs).R s g ↔ (g, s) ∈ EBt n rs rs.length := by
  rw [mem_EB]
  constructor
  · intro h
    cases h with
    | @up t ht e =>
      obtain ⟨h1, h2, h3, h4⟩ := row_at hg ht
      have e' : n - 1 - spY rs t = n - 1 - spX rs t + 1 := e
      exact ⟨t, ht, (row_EB hg ht (spnL n rs fs) rfl rfl).mpr (.inr (.inl ⟨by omega, .inl rfl⟩))⟩
    | @upS t ht e hs =>
      obtain ⟨h1, h2, h3, h4⟩ := row_at hg ht
      have e' : n - 1 - spY rs t = n - 1 - spX rs t + 1 := e
      exact ⟨t, ht, (row_EB hg ht (spnL n rs fs) rfl rfl).mpr (.inr (.inl ⟨by omega, .inr ⟨hs, rfl⟩⟩))⟩
    | @dn t ht e =>
      obtain ⟨h1, h2, h3, h4⟩ := row_at hg ht
      have e' : n - 1 - spX rs t = n - 1 - spY rs t + 1 := e
      exact ⟨t, ht, (row_EB hg ht (spnL n rs fs) rfl rfl).mpr (.inl ⟨by omega, .inl rfl⟩)⟩
    | @dnS t ht e hs =>
      obtain ⟨h1, h2, h3, h4⟩ := row_at hg ht
      have e' : n - 1 - spX rs t = n - 1 - spY rs t + 1 := e
      exact ⟨t, ht, (row_EB hg ht (spnL n rs fs) rfl rfl).mpr (.inl ⟨by omega, .inr ⟨hs, rfl⟩⟩)⟩
    | @lo t z ht hz e =>
      obtain ⟨h1, h2, h3, h4⟩ := row_at hg ht
      have e' : n - 1 - spX rs t = n - 1 - z + 1 := e
      have hz' : z < n := hz
      refine ⟨t, ht, (row_EB hg ht (spnL n rs fs) rfl rfl).mpr (.inr (.inr (.inr ⟨by omega, ?_⟩)))⟩
      rw [show spX rs t + 1 = z by omega]
      rfl
    | @hi t z ht hz e =>
      obtain ⟨h1, h2, h3, h4⟩ := row_at hg ht
      have e' : n - 1 - z = n - 1 - spX rs t + 1 := e
      have hz' : z < n := hz
      refine ⟨t, ht, (row_EB hg ht (spnL n rs fs) rfl rfl).mpr (.inr (.inr (.inl ⟨by omega, ?_⟩)))⟩
      rw [show spX rs t - 1 = z by omega]
      rfl
  · rintro ⟨t, ht, h⟩
    obtain ⟨h1, h2, h3, h4⟩ := row_at hg ht
    rcases (row_EB hg ht (spnL n rs fs) rfl rfl).mp h with ⟨c, e | ⟨hs, e⟩⟩ | ⟨c, e | ⟨hs, e⟩⟩ | ⟨c, e⟩ | ⟨c, e⟩ <;> cases e
    · exact .dn (D := spnL n rs fs) ht (show n - 1 - spX rs t = n - 1 - spY rs t + 1 by omega)
    · exact .dnS (D := spnL n rs fs) ht (show n - 1 - spX rs t = n - 1 - spY rs t + 1 by omega) hs
    · exact .up (D := spnL n rs fs) ht (show n - 1 - spY rs t = n - 1 - spX rs t + 1 by omega)
    · exact .upS (D := spnL n rs fs) ht (show n - 1 - spY rs t = n - 1 - spX rs t + 1 by omega) hs
    · exact .hi (D := spnL n rs fs) ht (show spX rs t - 1 < n by omega) (show n - 1 - (spX rs t - 1) = n - 1 - spX rs t + 1 by omega)
    · exact .lo (D := spnL n rs fs) ht (show spX rs t + 1 < n from c) (show n - 1 - spX rs t = n - 1 - (spX rs t + 1) + 1 by omega)
theorem A_L (hg : ∀ r ∈ rs, GoodRow (n : Int) r) {l r m : Nat} : (spnL n rs fs).A l r m ↔ (r, l, m) ∈ ESt n rs rs.length := by
  rw [mem_ES]
  constructor
  · intro h
    cases h with
    | @lo t z ht hz e =>
      obtain ⟨h1, h2, h3, h4⟩ := row_at hg ht
      have e' : n - 1 - spX rs t = n - 1 - z + 1 := e
      have hz' : z < n := hz
      refine ⟨t, ht, (row_ES hg ht (spnL n rs fs) rfl rfl).mpr (.inr ⟨by omega, ?_⟩)⟩
      rw [show spX rs t + 1 = z by omega]
      rfl
    | @hi t z ht hz e =>
      obtain ⟨h1, h2, h3, h4⟩ := row_at hg ht
      have e' : n - 1 - z = n - 1 - spX rs t + 1 := e
      have hz' : z < n := hz
      refine ⟨t, ht, (row_ES hg ht (spnL n rs fs) rfl rfl).mpr (.inl ⟨by omega, ?_⟩)⟩
      rw [show spX rs t - 1 = z by omega]
      rfl
  · rintro ⟨t, ht, h⟩
    obtain ⟨h1, h2, h3, h4⟩ := row_at hg ht
    rcases (row_ES hg ht (spnL n rs fs) rfl rfl).mp h with ⟨c, e⟩ | ⟨c, e⟩ <;> cases e
    · exact .hi (D := spnL n rs fs) ht (show spX rs t - 1 < n by omega) (show n - 1 - (spX rs t - 1) = n - 1 - spX rs t + 1 by omega)
    · exact .lo (D := spnL n rs fs) ht (show spX rs t + 1 < n from c) (show n - 1 - spX rs t = n - 1 - (spX rs t + 1) + 1 by omega)
theorem M_G (hf : GoodF n rs.length fs) {s v : Nat} : (spnG n rs fs).M s v ↔ (s, v) ∈ shownN n rs fs := by
  unfold Spn.M shownN
  rw [List.mem_append, List.mem_map, List.mem_map]
  constructor
  · rintro (⟨h, e⟩ | ⟨f, h, e1, e2⟩)
    · exact .inl ⟨s, List.mem_range.mpr h, by rw [e]; rfl⟩
    · exact .inr ⟨f, h, by rw [e1, e2, show (nowL n rs f.1).getD f.2.1 0 = (spnG n rs fs).th f.1 f.2.1 from now_th (spnG n rs fs) rfl rfl (hf f h).2.1]; rfl⟩
  · rintro (⟨o, h, e⟩ | ⟨f, h, e⟩) <;> cases e
    · exact .inl ⟨List.mem_range.mp h, rfl⟩
    · exact .inr ⟨f, h, now_th (spnG n rs fs) rfl rfl (hf f h).2.1, rfl⟩
theorem M_L (hf : GoodF n rs.length fs) {s v : Nat} : (spnL n rs fs).M s v ↔ (s, v) ∈ (shownN n rs fs).map fun e => (e.1, n - 1 - e.2) := by
  unfold Spn.M shownN
  rw [List.mem_map]
  constructor
  · rintro (⟨h, e⟩ | ⟨f, h, e1, e2⟩)
    · exact ⟨(s, s), List.mem_append_left _ (List.mem_map.mpr ⟨s, List.mem_range.mpr h, rfl⟩), by rw [e]; rfl⟩
    · refine ⟨_, List.mem_append_right _ (List.mem_map.mpr ⟨f, h, rfl⟩), ?_⟩
      rw [e1, e2, show (nowL n rs f.1).getD f.2.1 0 = (spnL n rs fs).th f.1 f.2.1 from now_th (spnL n rs fs) rfl rfl (hf f h).2.1]
      rfl
  · rintro ⟨x, h, e⟩
    cases e
    rcases List.mem_append.mp h with h | h
    · obtain ⟨o, h', e0⟩ := List.mem_map.mp h; subst e0; replace h := h'
      exact .inl ⟨List.mem_range.mp h, rfl⟩
    · obtain ⟨f, h', e0⟩ := List.mem_map.mp h; subst e0; replace h := h'
      exact .inr ⟨f, h, now_th (spnL n rs fs) rfl rfl (hf f h).2.1, rfl⟩
theorem Sh_G (hf : GoodF n rs.length fs) {v mu : Nat} (hv : v < n) : (spnG n rs fs).Sh v mu ↔ (mu : Int) ≤ (latN n fs).getD v (-1) := (latN_iff hf hv).symm
theorem Sh_L (hf : GoodF n rs.length fs) {v mu : Nat} (hv : v < n) : (spnL n rs fs).Sh v mu ↔ (mu : Int) ≤ (latN n fs).reverse.getD v (-1) := by
  have e : (latN n fs).reverse.getD v (-1) = (latN n fs).getD (n - 1 - v) (-1) := by
    rw [List.getD_eq_getElem?_getD, List.getD_eq_getElem?_getD, List.getElem?_reverse (by rw [latN_len]; exact hv), latN_len]
  rw [e, latN_iff hf (show n - 1 - v < n by omega)]
  constructor
  · rintro ⟨f, h, e1, e2⟩
    have := (hf f h).2.2
    have e1' : n - 1 - f.2.2 = v := e1
    exact ⟨f, h, by omega, e2⟩
  · rintro ⟨f, h, e1, e2⟩
    exact ⟨f, h, by show n - 1 - f.2.2 = v; omega, e2⟩
theorem mem_NrG {s g : Nat} : s ∈ (stlG n rs fs).Nr g ↔ (s, g) ∈ EBt n rs rs.length := by
  show s ∈ ((EBt n rs rs.length).filter fun e => e.2 == g).map (·.1) ↔ _
  rw [List.mem_map]
  constructor
  · rintro ⟨e, h, rfl⟩
    obtain ⟨h1, h2⟩ := List.mem_filter.mp h
    rw [← beq_iff_eq.mp h2]
    exact h1
  · intro h
    exact ⟨(s, g), List.mem_filter.mpr ⟨h, by simp⟩, rfl⟩
theorem mem_NrL {s g : Nat} : s ∈ (stlL n rs fs).Nr g ↔ (g, s) ∈ EBt n rs rs.length := by
  show s ∈ ((EBt n rs rs.length).filter fun e => e.1 == g).map (·.2) ↔ _
  rw [List.mem_map]
  constructor
  · rintro ⟨e, h, rfl⟩
    obtain ⟨h1, h2⟩ := List.mem_filter.mp h
    rw [← beq_iff_eq.mp h2]
    exact h1
  · intro h
    exact ⟨(g, s), List.mem_filter.mpr ⟨h, by simp⟩, rfl⟩
theorem mem_ApG {b a m : Nat} : (b, m) ∈ (stlG n rs fs).Ap a ↔ (a, b, m) ∈ ESt n rs rs.length := by
  show (b, m) ∈ ((ESt n rs rs.length).filter fun e => e.1 == a).map (fun e => (e.2.1, e.2.2)) ↔ _
  rw [List.mem_map]
  constructor
  · rintro ⟨e, h, e2⟩
    obtain ⟨h1, h2⟩ := List.mem_filter.mp h
    cases e2
    rw [← beq_iff_eq.mp h2]
    exact h1
  · intro h
    exact ⟨(a, b, m), List.mem_filter.mpr ⟨h, by simp⟩, rfl⟩
theorem mem_ApL {b a m : Nat} : (b, m) ∈ (stlL n rs fs).Ap a ↔ (b, a, m) ∈ ESt n rs rs.length := by
  show (b, m) ∈ ((ESt n rs rs.length).filter fun e => e.2.1 == a).map (fun e => (e.1, e.2.2)) ↔ _
  rw [List.mem_map]
  constructor
  · rintro ⟨e, h, e2⟩
    obtain ⟨h1, h2⟩ := List.mem_filter.mp h
    cases e2
    rw [← beq_iff_eq.mp h2]
    exact h1
  · intro h
    exact ⟨(b, a, m), List.mem_filter.mpr ⟨h, by simp⟩, rfl⟩
theorem der_G (hg : ∀ r ∈ rs, GoodRow (n : Int) r) (hf : GoodF n rs.length fs) (n1 : 1 ≤ n) {s v : Nat} : (stlG n rs fs).Der s v ↔ (spnG n rs fs).Der s v := by
  constructor
  · intro h
    induction h with
    | most h => exact .most ((M_G hf).mpr h)
    | near h r ih => exact .near ih ((R_G hg).mpr (mem_NrG.mp r))
    | apart h r l hv sh ih => exact .apart ih ((A_G hg).mpr (mem_ApG.mp r)) l ((Sh_G hf hv).mpr sh)
  · intro h
    induction h with
    | most h => exact .most ((M_G hf).mp h)
    | near h r ih => exact .near ih (mem_NrG.mpr ((R_G hg).mp r))
    | apart h r l sh ih => exact .apart ih (mem_ApG.mpr ((A_G hg).mp r)) l (sh.lt (okG n1 hg hf)) ((Sh_G hf (sh.lt (okG n1 hg hf))).mp sh)
theorem der_L (hg : ∀ r ∈ rs, GoodRow (n : Int) r) (hf : GoodF n rs.length fs) (n1 : 1 ≤ n) {s v : Nat} : (stlL n rs fs).Der s v ↔ (spnL n rs fs).Der s v := by
  constructor
  · intro h
    induction h with
    | most h => exact .most ((M_L hf).mpr h)
    | near h r ih => exact .near ih ((R_L hg).mpr (mem_NrL.mp r))
    | apart h r l hv sh ih => exact .apart ih ((A_L hg).mpr (mem_ApL.mp r)) l ((Sh_L hf hv).mpr sh)
  · intro h
    induction h with
    | most h => exact .most ((M_L hf).mp h)
    | near h r ih => exact .near ih (mem_NrL.mpr ((R_L hg).mp r))
    | apart h r l sh ih => exact .apart ih (mem_ApL.mpr ((A_L hg).mp r)) l (sh.lt (okL n1 hg hf)) ((Sh_L hf (sh.lt (okL n1 hg hf))).mp sh)
theorem isG_G (hg : ∀ r ∈ rs, GoodRow (n : Int) r) (hf : GoodF n rs.length fs) (n1 : 1 ≤ n) {f : List Nat} (G : (stlG n rs fs).IsG f) : (spnG n rs fs).IsG ((stlG n rs fs).ft f) :=
  ⟨G.le, fun s h => (der_G hg hf n1).mp (G.der s h), fun s v h => G.least s v ((der_G hg hf n1).mpr h)⟩
theorem isG_L (hg : ∀ r ∈ rs, GoodRow (n : Int) r) (hf : GoodF n rs.length fs) (n1 : 1 ≤ n) {f : List Nat} (G : (stlL n rs fs).IsG f) : (spnL n rs fs).IsG ((stlL n rs fs).ft f) :=
  ⟨G.le, fun s h => (der_L hg hf n1).mp (G.der s h), fun s v h => G.least s v ((der_L hg hf n1).mpr h)⟩
theorem now_lt {t : Nat} (hz : ∀ s ∈ nowL n rs t, s < n + t) {z : Nat} (h : z < n) : (nowL n rs t).getD z 0 < n + t := by
  rw [List.getD_eq_getElem?_getD, List.getElem?_eq_getElem (by rw [nowL_len']; exact h)]
  exact hz _ (List.getElem_mem _)
theorem shown_lt (hf : GoodF n rs.length fs) {e : Nat × Nat} (h : e ∈ shownN n rs fs) : e.1 < n + rs.length ∧ e.2 < n := by
  unfold shownN at h
  rcases List.mem_append.mp h with h | h
  · obtain ⟨o, h', e0⟩ := List.mem_map.mp h; subst e0; replace h := h'
    have := List.mem_range.mp h
    exact ⟨by show o < _; omega, this⟩
  · obtain ⟨f, h', e0⟩ := List.mem_map.mp h; subst e0; replace h := h'
    have h1 := hf f h
    have h2 := now_lt (rs := rs) (nowL_lt' n rs f.1) h1.2.1
    exact ⟨by show _ < n + rs.length; omega, h1.2.2⟩
theorem shown_len : (shownN n rs fs).length = n + fs.length := by
  unfold shownN
  rw [List.length_append, List.length_map, List.length_map, List.length_range]
theorem stlG_ok (hB : BdE (EBt n rs rs.length) (ESt n rs rs.length) (n + rs.length)) (hf : GoodF n rs.length fs) (n1 : 1 ≤ n) : (stlG n rs fs).Ok :=
  ⟨n1, fun g s h => (hB.1 _ (mem_NrG.mp h)).1, fun a e h => (hB.2 _ (mem_ApG.mp h)).2, fun e h => shown_lt hf h⟩
theorem stlL_ok (hB : BdE (EBt n rs rs.length) (ESt n rs rs.length) (n + rs.length)) (hf : GoodF n rs.length fs) (n1 : 1 ≤ n) : (stlL n rs fs).Ok :=
  ⟨n1, fun g s h => (hB.1 _ (mem_NrL.mp h)).2, fun a e h => (hB.2 _ (mem_ApL.mp h)).1, fun e h => by
    obtain ⟨e', h', rfl⟩ := List.mem_map.mp (show e ∈ (shownN n rs fs).map fun e => (e.1, n - 1 - e.2) from h)
    have := shown_lt hf h'
    exact ⟨this.1, by show n - 1 - e'.2 < n; omega⟩⟩
end
end Pf

/-! ### zip of three, each a list or a tuple -/
namespace Pf
open PySem PySem.Spec PyProof.Rows
def ItB (b : Bool) (h : Heap) (i l : Addr) (k : Nat) : Prop := if b = true then h.IsListIter i l k else h.IsTupleIter i l k
def SeB (b : Bool) (h : Heap) (l : Addr) (xs : Array Value) : Prop := if b = true then h.IsList l xs else h.IsTuple l xs
theorem ItB.to {b : Bool} {h h' : Heap} {i l : Addr} {k : Nat} (x : ItB b h i l k) (e : ∀ o, h.get? i = some o → h'.get? i = some o) : ItB b h' i l k := by
  cases b with
  | true => exact Heap.IsListIter.at (show h.IsListIter i l k from x) e
  | false => exact Heap.IsTupleIter.at (show h.IsTupleIter i l k from x) e
theorem ItB.obj {b : Bool} {h : Heap} {i l : Addr} {k : Nat} (x : ItB b h i l k) : ∃ o, h.get? i = some o ∧ ∀ v, o.data ≠ .cell v := by
  cases b with
  | true =>
    obtain ⟨o, e, _, d⟩ := (show h.IsListIter i l k from x)
    exact ⟨o, e, fun v q => by rw [d] at q; cases q⟩
  | false =>
    obtain ⟨o, e, _, d⟩ := (show h.IsTupleIter i l k from x)
    exact ⟨o, e, fun v q => by rw [d] at q; cases q⟩
theorem SeB.to {b : Bool} {h h' : Heap} {l : Addr} {xs : Array Value} (x : SeB b h l xs) (e : ∀ o, h.get? l = some o → h'.get? l = some o) : SeB b h' l xs := by
  cases b with
  | true =>
    obtain ⟨o, ho, r⟩ := (show h.IsList l xs from x)
    exact ⟨o, e o ho, r⟩
  | false =>
    obtain ⟨o, ho, r⟩ := (show h.IsTuple l xs from x)
    exact ⟨o, e o ho, r⟩
theorem SeB.obj {b : Bool} {h : Heap} {l : Addr} {xs : Array Value} (x : SeB b h l xs) : ∃ o, h.get? l = some o := by
  cases b with
  | true =>
    obtain ⟨o, ho, r⟩ := (show h.IsList l xs from x)
    exact ⟨o, ho⟩
  | false =>
    obtain ⟨o, ho, r⟩ := (show h.IsTuple l xs from x)
    exact ⟨o, ho⟩
section
variable {prog : Program} {w : World} {A : Around} {E : Value → Shared → Prop} {s : Shared}
theorem nextB_item {b : Bool} {i l : Addr} {k : Nat} {xs : Array Value} {x : Value} {Q : Value → Shared → Prop} (hit : ItB b s.heap i l k) (hl : SeB b s.heap l xs) (hx : xs[k]? = some x)
    (hQ : ∀ h', ItB b h' i l (k + 1) → (∀ c o, c ≠ i → s.heap.get? c = some o → h'.get? c = some o) → h'.objs.size = s.heap.objs.size → Q x { s with heap := h' }) : wpAny (model prog w) A (Builtin.SmallTypes.nextOf (.ref i)) Q E s := by
  cases b with
  | true => exact wpAny_nextOf_list_item hit hl hx fun h' h1 h2 => hQ h' h1 (fun c o hc e => h2.extBut c o hc e) h2.1
  | false => exact RZ.nextOf_tuple_item hit hl hx fun h' h1 h2 => hQ h' h1 (fun c o hc e => h2.extBut c o hc e) h2.1
theorem nextB_end {b : Bool} {i l : Addr} {k : Nat} {xs : Array Value} {Q : Value → Shared → Prop} (hh : A.handled = none) (hit : ItB b s.heap i l k) (hl : SeB b s.heap l xs) (hx : xs[k]? = none)
    (hE : ∀ h' e, (∀ c o, c ≠ i → s.heap.get? c = some o → h'.get? c = some o) → (∃ o, h'.get? e = some o ∧ o.cls = .type "StopIteration") → E (.ref e) { s with heap := h' }) : wpAny (model prog w) A (Builtin.SmallTypes.nextOf (.ref i)) Q E s := by
  cases b with
  | true => exact wpAny_nextOf_list_end hh hit hl hx fun h' e h1 h2 => hE h' e (fun c o hc q => h1 c o hc q) h2
  | false => exact RZ.nextOf_tuple_end hh hit hl hx fun h' e h1 h2 => hE h' e (fun c o hc q => h1 c o hc q) h2
/-- a triple that stands at T -/
abbrev Tri (h : Heap) (T : Addr) (x y z : Value) : Prop := h.get? T = some { cls := .type "tuple", data := .seq #[x, y, z] }
theorem tri_put {T : Addr} {x y z u : Value} {k : Nat} {Q : Unit → Shared → Prop} (hT : Tri s.heap T x y z)
    (h : ∀ h', h'.get? T = some { cls := .type "tuple", data := .seq ((#[x, y, z] : Array Value).setIfInBounds k u) } → (∀ c o, c ≠ T → s.heap.get? c = some o → h'.get? c = some o) → h'.objs.size = s.heap.objs.size → Q () { s with heap := h' }) :
    wpAny (model prog w) A (updateSeq T (·.setIfInBounds k u)) Q E s := by
  have sb := Heap.SameBut.update (h := s.heap) (a := T) (f := Obj.mapSeq (·.setIfInBounds k u))
  refine wpAny_updateSeq hT rfl (h _ ?_ (fun c o hc e => sb.extBut c o hc e) sb.1)
  rw [Heap.get?_update_self _ hT rfl]
  simp [Obj.mapSeq]
/-- the places of a zip of three and what it walks over -/
structure Apart3 (z TI TO i1 i2 i3 l1 l2 l3 : Addr) : Prop where
  nd : [z, TI, TO, i1, i2, i3].Nodup
  f1 : l1 ∉ [z, TO, i1, i2, i3]
  f2 : l2 ∉ [z, TO, i1, i2, i3]
  f3 : l3 ∉ [z, TO, i1, i2, i3]
set_option maxHeartbeats 4000000 in
theorem zip3_item {z TI TO i1 i2 i3 l1 l2 l3 : Addr} {b1 b2 b3 : Bool} {k : Nat} {xs ys zs : Array Value} {x y u x0 y0 u0 : Value} {Q : Value → Shared → Prop} (D : Apart3 z TI TO i1 i2 i3 l1 l2 l3)
    (hz : IsZip s.heap z TI TO .none) (hTI : Tri s.heap TI (.ref i1) (.ref i2) (.ref i3)) (hTO : Tri s.heap TO x0 y0 u0) (h1 : ItB b1 s.heap i1 l1 k) (h2 : ItB b2 s.heap i2 l2 k) (h3 : ItB b3 s.heap i3 l3 k)
    (hl1 : SeB b1 s.heap l1 xs) (hl2 : SeB b2 s.heap l2 ys) (hl3 : SeB b3 s.heap l3 zs) (hx : xs[k]? = some x) (hy : ys[k]? = some y) (hu : zs[k]? = some u)
    (hQ : ∀ h', IsZip h' z TI TO (rawInt s.heap.objs.size) → Tri h' TO x y u → ItB b1 h' i1 l1 (k + 1) → ItB b2 h' i2 l2 (k + 1) → ItB b3 h' i3 l3 (k + 1) → Tri h' s.heap.objs.size x y u →
      (∀ c o, c ∉ [z, TO, i1, i2, i3] → s.heap.get? c = some o → h'.get? c = some o) → Q (.ref s.heap.objs.size) { s with heap := h' }) :
    wpAny (model prog w) A (Builtin.«zip.__next__» ⟨[.ref z], []⟩) (fun fin s' => ∃ v, fin = .done (.ret v) ∧ Q v s') E s := by
  obtain ⟨nd, f1, f2, f3⟩ := D
  simp only [List.nodup_cons, List.mem_cons, List.not_mem_nil, or_false, not_or, not_false_eq_true, List.nodup_nil, and_true] at nd f1 f2 f3
  obtain ⟨⟨a1, a2, a3, a4, a5⟩, ⟨c1, c2, c3, c4⟩, ⟨d1, d2, d3⟩, ⟨e1, e2⟩, g1⟩ := nd
  show wpAny _ _ (field (.ref z) 2 >>= _) _ _ _
  refine wpAny_bind (wpAny_field hz rfl (x := .bool false) rfl ?_)
  show wpAny _ _ (field (.ref z) 3 >>= _) _ _ _
  refine wpAny_bind (wpAny_field hz rfl (x := .ref TI) rfl ?_)
  refine wpAny_bind (wpAny_seqItems hTI rfl ?_)
  show wpAny _ _ (Builtin.SmallTypes.ownedTupleIsFree (.ref z) >>= _) _ _ _
  refine wpAny_bind ?_
  unfold Builtin.SmallTypes.ownedTupleIsFree
  refine wpAny_bind (wpAny_field hz rfl (x := .none) rfl (wpAny_pure ?_))
  simp only [if_true]
  refine wpAny_bind (wpAny_rule ?_)
  refine wpAny_bind (wpAny_field hz rfl (x := .ref TO) rfl ?_)
  refine wpAny_bind (wpAny_setField_rec hz (by simp) fun m1 hz1 q1 => ?_)
  replace hz1 : IsZip m1 z TI TO .ellipsis := hz1
  have k1 : ∀ c o, c ≠ z → s.heap.get? c = some o → m1.get? c = some o := fun c o hc e => q1.extBut c o hc e
  refine wpAny_bind ?_
  simp only [List.zipIdx_cons, List.zipIdx_nil, List.forIn_cons, List.forIn_nil]
  -- the first
  refine wpAny_bind (wpAny_bind (wpAny_onRaise ?_))
  show wpAny _ _ (Builtin.SmallTypes.nextOf (.ref i1) >>= _) _ _ _
  refine wpAny_bind (nextB_item (h1.to fun o e => k1 _ o (Ne.symm a3) e) (hl1.to fun o e => k1 _ o f1.1 e) hx fun m2 t1 k2 z2 => wpAny_pure ?_)
  have O2 : Tri m2 TO x0 y0 u0 := k2 _ _ d1 (k1 _ _ (Ne.symm a2) hTO)
  refine wpAny_bind (wpAny_seqItems O2 rfl ?_)
  refine wpAny_bind (tri_put O2 fun m3 O3 k3 z3 => ?_)
  replace O3 : Tri m3 TO x y0 u0 := O3
  refine wpAny_bind (wpAny_letGo (wpAny_pure ?_))
  have K3 : ∀ c o, c ≠ z → c ≠ i1 → c ≠ TO → s.heap.get? c = some o → m3.get? c = some o := fun c o n1 n2 n3 e => k3 c o n3 (k2 c o n2 (k1 c o n1 e))
  -- the second
  refine wpAny_bind (wpAny_bind (wpAny_onRaise ?_))
  show wpAny _ _ (Builtin.SmallTypes.nextOf (.ref i2) >>= _) _ _ _
  refine wpAny_bind (nextB_item (h2.to fun o e => K3 _ o (Ne.symm a4) (Ne.symm e1) (Ne.symm d2) e) (hl2.to fun o e => K3 _ o f2.1 f2.2.2.1 f2.2.1 e) hy fun m4 t2 k4 z4 => wpAny_pure ?_)
  have O4 : Tri m4 TO x y0 u0 := k4 _ _ d2 O3
  refine wpAny_bind (wpAny_seqItems O4 rfl ?_)
  refine wpAny_bind (tri_put O4 fun m5 O5 k5 z5 => ?_)
  replace O5 : Tri m5 TO x y u0 := O5
  refine wpAny_bind (wpAny_letGo (wpAny_pure ?_))
  have K5 : ∀ c o, c ≠ z → c ≠ i1 → c ≠ i2 → c ≠ TO → s.heap.get? c = some o → m5.get? c = some o := fun c o n1 n2 n4 n3 e => k5 c o n3 (k4 c o n4 (K3 c o n1 n2 n3 e))
  -- the third
  refine wpAny_bind (wpAny_bind (wpAny_onRaise ?_))
  show wpAny _ _ (Builtin.SmallTypes.nextOf (.ref i3) >>= _) _ _ _
  refine wpAny_bind (nextB_item (h3.to fun o e => K5 _ o (Ne.symm a5) (Ne.symm e2) (Ne.symm g1) (Ne.symm d3) e) (hl3.to fun o e => K5 _ o f3.1 f3.2.2.1 f3.2.2.2.1 f3.2.1 e) hu fun m6 t3 k6 z6 => wpAny_pure ?_)
  have O6 : Tri m6 TO x y u0 := k6 _ _ d3 O5
  refine wpAny_bind (wpAny_seqItems O6 rfl ?_)
  refine wpAny_bind (tri_put O6 fun m7 O7 k7 z7 => ?_)
  replace O7 : Tri m7 TO x y u := O7
  refine wpAny_bind (wpAny_letGo (wpAny_pure (wpAny_pure ?_)))
  have K7 : ∀ c o, c ≠ z → c ≠ i1 → c ≠ i2 → c ≠ i3 → c ≠ TO → s.heap.get? c = some o → m7.get? c = some o := fun c o n1 n2 n4 n5 n3 e => k7 c o n3 (k6 c o n5 (K5 c o n1 n2 n4 n3 e))
  refine wpAny_bind (wpAny_seqItems O7 rfl ?_)
  refine wpAny_bind (wpAny_newTuple ?_)
  have hsz : m7.objs.size = s.heap.objs.size := by rw [z7, z6, z5, z4, z3, z2, q1.1]
  have Z7 : IsZip m7 z TI TO .ellipsis := k7 _ _ a2 (k6 _ _ a5 (k5 _ _ a2 (k4 _ _ a4 (k3 _ _ a2 (k2 _ _ a3 hz1)))))
  have T1 : ItB b1 m7 i1 l1 (k + 1) := t1.to fun o e => k7 _ o (Ne.symm d1) (k6 _ o e2 (k5 _ o (Ne.symm d1) (k4 _ o e1 (k3 _ o (Ne.symm d1) e))))
  have T2 : ItB b2 m7 i2 l2 (k + 1) := t2.to fun o e => k7 _ o (Ne.symm d2) (k6 _ o g1 (k5 _ o (Ne.symm d2) e))
  have T3 : ItB b3 m7 i3 l3 (k + 1) := t3.to fun o e => k7 _ o (Ne.symm d3) e
  have zl : z < m7.objs.size := Heap.lt_size Z7
  show wpAny _ _ (Builtin.SmallTypes.ownedTupleHandOut (.ref z) (.ref m7.objs.size) >>= _) _ _ _
  refine wpAny_bind ?_
  unfold Builtin.SmallTypes.ownedTupleHandOut
  have Z8 : IsZip (m7.push { cls := .type "tuple", data := .seq #[x, y, u] }) z TI TO .ellipsis := Heap.get?_push_of_some _ Z7
  refine wpAny_bind (wpAny_setField_rec Z8 (by simp) fun m9 Z9 q9 => ?_)
  replace Z9 : IsZip m9 z TI TO (rawInt m7.objs.size) := Z9
  refine wpAny_setField_rec Z9 (by simp) fun m10 Z10 q10 => ?_
  replace Z10 : IsZip m10 z TI TO (rawInt m7.objs.size) := Z10
  have up : ∀ c o, c ≠ z → m7.get? c = some o → m10.get? c = some o := fun c o hc e => q10.extBut _ _ hc (q9.extBut _ _ hc (Heap.get?_push_of_some _ e))
  have Tn : Tri m10 m7.objs.size x y u := q10.extBut _ _ (Nat.ne_of_gt zl) (q9.extBut _ _ (Nat.ne_of_gt zl) (Heap.get?_push_size _ rfl))
  rw [hsz] at Z10 Tn
  refine wpAny_pure ⟨_, rfl, ?_⟩
  show Q (.ref m7.objs.size) _
  rw [hsz]
  refine hQ m10 Z10 (up _ _ (Ne.symm a2) O7) (T1.to fun o e => up _ o (Ne.symm a3) e) (T2.to fun o e => up _ o (Ne.symm a4) e) (T3.to fun o e => up _ o (Ne.symm a5) e) Tn fun c o hc e => ?_
  simp only [List.mem_cons, List.not_mem_nil, or_false, not_or] at hc
  exact up c o hc.1 (K7 c o hc.1 hc.2.2.1 hc.2.2.2.1 hc.2.2.2.2 hc.2.1 e)
set_option maxHeartbeats 4000000 in
theorem zip3_end {z TI TO i1 i2 i3 l1 l2 l3 : Addr} {b1 : Bool} {k : Nat} {xs : Array Value} {x0 y0 u0 : Value} {Q : Fin → Shared → Prop} (hh : A.handled = none) (D : Apart3 z TI TO i1 i2 i3 l1 l2 l3)
    (hz : IsZip s.heap z TI TO .none) (hTI : Tri s.heap TI (.ref i1) (.ref i2) (.ref i3)) (hTO : Tri s.heap TO x0 y0 u0) (h1 : ItB b1 s.heap i1 l1 k) (hl1 : SeB b1 s.heap l1 xs) (hx : xs[k]? = none)
    (hE : ∀ h' e, (∀ c o, c ∉ [z, TO, i1, i2, i3] → s.heap.get? c = some o → h'.get? c = some o) → (∃ o, h'.get? e = some o ∧ o.cls = .type "StopIteration") → E (.ref e) { s with heap := h' }) :
    wpAny (model prog w) A (Builtin.«zip.__next__» ⟨[.ref z], []⟩) Q E s := by
  obtain ⟨nd, f1, f2, f3⟩ := D
  simp only [List.nodup_cons, List.mem_cons, List.not_mem_nil, or_false, not_or, not_false_eq_true, List.nodup_nil, and_true] at nd f1 f2 f3
  obtain ⟨⟨a1, a2, a3, a4, a5⟩, ⟨c1, c2, c3, c4⟩, ⟨d1, d2, d3⟩, ⟨e1, e2⟩, g1⟩ := nd
  show wpAny _ _ (field (.ref z) 2 >>= _) _ _ _
  refine wpAny_bind (wpAny_field hz rfl (x := .bool false) rfl ?_)
  show wpAny _ _ (field (.ref z) 3 >>= _) _ _ _
  refine wpAny_bind (wpAny_field hz rfl (x := .ref TI) rfl ?_)
  refine wpAny_bind (wpAny_seqItems hTI rfl ?_)
  show wpAny _ _ (Builtin.SmallTypes.ownedTupleIsFree (.ref z) >>= _) _ _ _
  refine wpAny_bind ?_
  unfold Builtin.SmallTypes.ownedTupleIsFree
  refine wpAny_bind (wpAny_field hz rfl (x := .none) rfl (wpAny_pure ?_))
  simp only [if_true]
  refine wpAny_bind (wpAny_rule ?_)
  refine wpAny_bind (wpAny_field hz rfl (x := .ref TO) rfl ?_)
  refine wpAny_bind (wpAny_setField_rec hz (by simp) fun m1 hz1 q1 => ?_)
  replace hz1 : IsZip m1 z TI TO .ellipsis := hz1
  have k1 : ∀ c o, c ≠ z → s.heap.get? c = some o → m1.get? c = some o := fun c o hc e => q1.extBut c o hc e
  refine wpAny_bind ?_
  simp only [List.zipIdx_cons, List.zipIdx_nil, List.forIn_cons, List.forIn_nil]
  refine wpAny_bind (wpAny_bind (wpAny_onRaise ?_))
  show wpAny _ _ (Builtin.SmallTypes.nextOf (.ref i1) >>= _) _ _ _
  refine wpAny_bind (nextB_end hh (h1.to fun o e => k1 _ o (Ne.symm a3) e) (hl1.to fun o e => k1 _ o f1.1 e) hx fun m2 e k2 he => ?_)
  obtain ⟨oe, hoe, hce⟩ := he
  have Z2 : IsZip m2 z TI TO .ellipsis := k2 _ _ a3 hz1
  have hez : e ≠ z := fun q => by subst q; rw [Z2] at hoe; cases hoe; simp at hce
  refine wpAny_setField_rec Z2 (by simp) fun m3 _ q3 => hE m3 e (fun c o hc q => ?_) ⟨oe, q3.extBut _ _ hez hoe, hce⟩
  simp only [List.mem_cons, List.not_mem_nil, or_false, not_or] at hc
  exact q3.extBut _ _ hc.1 (k2 _ _ hc.2.2.1 (k1 _ _ hc.1 q))
end
section
variable {prog : Program} {w : World} {A : Around} {E : Value → Shared → Prop} {s : Shared}
set_option maxHeartbeats 4000000 in
theorem next3_item {z TI TO i1 i2 i3 l1 l2 l3 : Addr} {b1 b2 b3 : Bool} {k : Nat} {xs ys zs : Array Value} {x y u x0 y0 u0 : Value} {Q : Option Value → Shared → Prop} (D : Apart3 z TI TO i1 i2 i3 l1 l2 l3)
    (hz : IsZip s.heap z TI TO .none) (hTI : Tri s.heap TI (.ref i1) (.ref i2) (.ref i3)) (hTO : Tri s.heap TO x0 y0 u0) (h1 : ItB b1 s.heap i1 l1 k) (h2 : ItB b2 s.heap i2 l2 k) (h3 : ItB b3 s.heap i3 l3 k)
    (hl1 : SeB b1 s.heap l1 xs) (hl2 : SeB b2 s.heap l2 ys) (hl3 : SeB b3 s.heap l3 zs) (hx : xs[k]? = some x) (hy : ys[k]? = some y) (hu : zs[k]? = some u)
    (hQ : ∀ h', IsZip h' z TI TO (rawInt s.heap.objs.size) → Tri h' TO x y u → ItB b1 h' i1 l1 (k + 1) → ItB b2 h' i2 l2 (k + 1) → ItB b3 h' i3 l3 (k + 1) → Tri h' s.heap.objs.size x y u →
      (∀ c o, c ∉ [z, TO, i1, i2, i3] → s.heap.get? c = some o → h'.get? c = some o) → Q (some (.ref s.heap.objs.size)) { s with heap := h' }) : wpAny (model prog w) A (pyNext (.ref z)) Q E s := by
  have ty : s.TypeIs (.ref z) "zip" := ⟨_, hz, rfl⟩
  unfold pyNext
  exact wpAny_bind (wpAny_attempt (wpAny_callSpecial?_slot (name := Str.ofString "__next__") ty F.slot_zip_next (wpAny_call_entry F.slot_zip_next ty F.entry_zip_next
    (zip3_item D hz hTI hTO h1 h2 h3 hl1 hl2 hl3 hx hy hu fun h' a1 a2 a3 a4 a5 a6 a7 => wpAny_pure (hQ h' a1 a2 a3 a4 a5 a6 a7)) (F.args_zip_next_1 _))))
set_option maxHeartbeats 4000000 in
theorem next3_end {z TI TO i1 i2 i3 l1 l2 l3 : Addr} {b1 : Bool} {k : Nat} {xs : Array Value} {x0 y0 u0 : Value} {Q : Option Value → Shared → Prop} (hh : A.handled = none) (D : Apart3 z TI TO i1 i2 i3 l1 l2 l3)
    (hz : IsZip s.heap z TI TO .none) (hTI : Tri s.heap TI (.ref i1) (.ref i2) (.ref i3)) (hTO : Tri s.heap TO x0 y0 u0) (h1 : ItB b1 s.heap i1 l1 k) (hl1 : SeB b1 s.heap l1 xs) (hx : xs[k]? = none)
    (hQ : ∀ h', (∀ c o, c ∉ [z, TO, i1, i2, i3] → s.heap.get? c = some o → h'.get? c = some o) → Q none { s with heap := h' }) : wpAny (model prog w) A (pyNext (.ref z)) Q E s := by
  have ty : s.TypeIs (.ref z) "zip" := ⟨_, hz, rfl⟩
  unfold pyNext
  refine wpAny_bind (wpAny_attempt (wpAny_callSpecial?_slot (name := Str.ofString "__next__") ty F.slot_zip_next (wpAny_call_entry F.slot_zip_next ty F.entry_zip_next
    (zip3_end hh D hz hTI hTO h1 hl1 hx fun h' e hk he => ?_) (F.args_zip_next_1 _))))
  obtain ⟨o, ho, hc⟩ := he
  refine wpAny_bind (wpAny_isInstance (T := "StopIteration") (b := true) ⟨o, ho, hc⟩ isSubtype_stop ?_)
  exact wpAny_pure (hQ _ hk)
end
/-! the call of zip: a tuple, two lists -/
theorem typeCall_zip3 (a b c : Value) : checkTypeCall "zip" ⟨[a, b, c], []⟩ = pure () := by kernel_rfl
theorem newCall_zip3 (a b c : Value) : checkBuiltinCall "zip.__new__" ⟨[.type "zip", a, b, c], []⟩ = pure () := by kernel_rfl
theorem args_init4 (a b c d : Value) : argsOk "object.__init__" ⟨[a, b, c, d], []⟩ := by
  unfold argsOk; rw [signature?_of (id := "object.__init__") (n := ['_', '_', 't', 'i', 'n', 'i', '_', '_']) (o := ['t', 'c', 'e', 'j', 'b', 'o']) (by kernel_rfl) F.owner_object]; kernel_rfl
abbrev z3a (h : Heap) (l1 : Addr) : Heap := h.push { cls := .type "tuple_iterator", data := .fields #[.ref l1, .int 0 0] }
abbrev z3b (h : Heap) (l1 l2 : Addr) : Heap := (z3a h l1).push { cls := .type "list_iterator", data := .fields #[.ref l2, .int 0 0] }
abbrev z3c (h : Heap) (l1 l2 l3 : Addr) : Heap := (z3b h l1 l2).push { cls := .type "list_iterator", data := .fields #[.ref l3, .int 0 0] }
abbrev z3d (h : Heap) (l1 l2 l3 : Addr) : Heap := (z3c h l1 l2 l3).push { cls := .type "tuple", data := .seq #[.ref h.objs.size, .ref (z3a h l1).objs.size, .ref (z3b h l1 l2).objs.size] }
abbrev z3e (h : Heap) (l1 l2 l3 : Addr) : Heap := (z3d h l1 l2 l3).push { cls := .type "tuple", data := .seq #[.none, .none, .none] }
abbrev z3f (h : Heap) (l1 l2 l3 : Addr) : Heap := (z3e h l1 l2 l3).push { cls := .type "zip", data := .fields #[.none, .bool false, .bool false, .ref (z3c h l1 l2 l3).objs.size, .ref (z3d h l1 l2 l3).objs.size] }
set_option maxHeartbeats 4000000 in
theorem meets_zip3 (l1 l2 l3 : Addr) (xs ys zs : Array Value) :
    Meets (Builtin.«zip.__new__» ⟨[.type "zip", .ref l1, .ref l2, .ref l3], []⟩) (fun _ R s => s.heap.IsTuple l1 xs ∧ s.heap.IsList l2 ys ∧ s.heap.IsList l3 zs ∧
      R (.ok (.ret (.ref (z3e s.heap l1 l2 l3).objs.size))) { s with heap := z3f s.heap l1 l2 l3 }) :=
  .of_wp fun prog w A R s h => by
    obtain ⟨hp, g, d, tk, os⟩ := s; obtain ⟨hl1, hl2, hl3, h⟩ := h
    have hsub := sub_zip
    have m1 : Heap.IsTuple (Shared.heap ⟨hp, g, d, tk, os⟩) l1 xs := hl1
    have m2 : Heap.IsList (Shared.heap ⟨z3a hp l1, g, d, tk, os⟩) l2 ys := Heap.IsList.push hl2 _
    have m3 : Heap.IsList (Shared.heap ⟨z3b hp l1 l2, g, d, tk, os⟩) l3 zs := Heap.IsList.push (Heap.IsList.push hl3 _) _
    wp_walk using wpAny_pyIter_tuple m1, wpAny_pyIter_list m2, wpAny_pyIter_list m3
    exact ⟨_, rfl, h⟩
section
variable {prog : Program} {w : World} {A : Around} {E : Value → Shared → Prop} {s : Shared}
set_option maxHeartbeats 4000000 in
theorem call_zip3 {l1 l2 l3 : Addr} {xs ys zs : Array Value} {Q : Value → Shared → Prop} (hl1 : s.heap.IsTuple l1 xs) (hl2 : s.heap.IsList l2 ys) (hl3 : s.heap.IsList l3 zs)
    (h : ∀ h' n, n = s.heap.objs.size → IsZip h' (n + 5) (n + 3) (n + 4) .none → Tri h' (n + 3) (.ref n) (.ref (n + 1)) (.ref (n + 2)) → Tri h' (n + 4) .none .none .none → ItB false h' n l1 0 → ItB true h' (n + 1) l2 0 → ItB true h' (n + 2) l3 0 →
      (∀ c o, s.heap.get? c = some o → h'.get? c = some o) → Q (.ref (n + 5)) { s with heap := h' }) :
    wpAny (model prog w) A (call (.type "zip") [.ref l1, .ref l2, .ref l3]) Q E s := by
  refine callType_new F.called_zip (by decide) (typeCall_zip3 _ _ _) (newCall_zip3 _ _ _) (fun obj => args_init4 obj _ _ _) F.entry_zip_new (meets_zip3 l1 l2 l3 xs ys zs) ⟨hl1, hl2, hl3, ?_⟩
  have e1 : (z3a s.heap l1).objs.size = s.heap.objs.size + 1 := Heap.size_push ..
  have e2 : (z3b s.heap l1 l2).objs.size = s.heap.objs.size + 2 := by rw [Heap.size_push, e1]
  have e3 : (z3c s.heap l1 l2 l3).objs.size = s.heap.objs.size + 3 := by rw [Heap.size_push, e2]
  have e4 : (z3d s.heap l1 l2 l3).objs.size = s.heap.objs.size + 4 := by rw [Heap.size_push, e3]
  have e5 : (z3e s.heap l1 l2 l3).objs.size = s.heap.objs.size + 5 := by rw [Heap.size_push, e4]
  have p6 : (z3f s.heap l1 l2 l3).get? (z3e s.heap l1 l2 l3).objs.size = some _ := Heap.get?_push_size _ rfl
  have p5 : (z3f s.heap l1 l2 l3).get? (z3d s.heap l1 l2 l3).objs.size = some _ := Heap.get?_push_of_some _ (Heap.get?_push_size _ rfl)
  have p4 : (z3f s.heap l1 l2 l3).get? (z3c s.heap l1 l2 l3).objs.size = some _ := Heap.get?_push_of_some _ (Heap.get?_push_of_some _ (Heap.get?_push_size _ rfl))
  have p3 : (z3f s.heap l1 l2 l3).get? (z3b s.heap l1 l2).objs.size = some _ := Heap.get?_push_of_some _ (Heap.get?_push_of_some _ (Heap.get?_push_of_some _ (Heap.get?_push_size _ rfl)))
  have p2 : (z3f s.heap l1 l2 l3).get? (z3a s.heap l1).objs.size = some _ := Heap.get?_push_of_some _ (Heap.get?_push_of_some _ (Heap.get?_push_of_some _ (Heap.get?_push_of_some _ (Heap.get?_push_size _ rfl))))
  have p1 : (z3f s.heap l1 l2 l3).get? s.heap.objs.size = some _ := Heap.get?_push_of_some _ (Heap.get?_push_of_some _ (Heap.get?_push_of_some _ (Heap.get?_push_of_some _ (Heap.get?_push_of_some _ (Heap.get?_push_size _ rfl)))))
  show _ ∧ _
  rw [e3, e4, e5] at p6
  rw [e4] at p5
  rw [e1, e2, e3] at p4
  rw [e2] at p3
  rw [e1] at p2
  rw [e5]
  exact ⟨⟨_, p6, rfl⟩, h _ _ rfl p6 p4 p5 ⟨_, p1, rfl, rfl⟩ ⟨_, p2, rfl, rfl⟩ ⟨_, p3, rfl, rfl⟩ fun c o x =>
    Heap.get?_push_of_some _ (Heap.get?_push_of_some _ (Heap.get?_push_of_some _ (Heap.get?_push_of_some _ (Heap.get?_push_of_some _ (Heap.get?_push_of_some _ x)))))⟩
end
end Pf
namespace Pf
open PySem PySem.Spec PyProof.Rows L2
theorem seB_of {X : Cx} {pins : List (Addr × Obj)} {s : Shared} {σ : L2.St} {H : Hp} {b : Bool} {l : Addr} {xs : List V} (I : Inv X pins σ H s) (h : SqS X.K b H l xs) : ∃ its : List Value, Vals xs its ∧ SeB b s.heap l its.toArray := by
  cases b with
  | true =>
    obtain ⟨its, rv, p, _⟩ := I.list (show SqL X.K H l xs from h)
    exact ⟨its, rv, p.isList⟩
  | false =>
    obtain ⟨its, rv, p, _⟩ := I.tuple (show SqT X.K H l xs from h)
    exact ⟨its, rv, (show s.heap.IsTuple l its.toArray from p)⟩
theorem sqS_inj {X : Cx} {pins : List (Addr × Obj)} {s : Shared} {σ : L2.St} {H : Hp} {b : Bool} {l : Addr} {xs ys : List V} (I : Inv X pins σ H s) (h : SqS X.K b H l xs) (k : SqS X.K b H l ys) : xs = ys := by
  cases b with
  | true => exact I.list_inj h k
  | false => exact I.tuple_inj h k
/-- a tuple and two lists, the items in new triples -/
def Itz3 (K : PySem.W.Frag) (b1 b2 b3 : Bool) (a b c : Addr) : It :=
  ⟨fun i H => ∃ xs ys zs x y u, SqS K b1 H a xs ∧ SqS K b2 H b ys ∧ SqS K b3 H c zs ∧ xs[i]? = some x ∧ ys[i]? = some y ∧ zs[i]? = some u,
    fun i H v H' => ∃ T x y u, v = .ref T ∧ H T = none ∧ H' = upd H T (.tup [x, y, u]) ∧ (∀ xs, SqS K b1 H a xs → xs[i]? = some x) ∧ (∀ ys, SqS K b2 H b ys → ys[i]? = some y) ∧ ∀ zs, SqS K b3 H c zs → zs[i]? = some u,
    fun i H => ∃ xs, SqS K b1 H a xs ∧ xs.length ≤ i⟩
set_option maxHeartbeats 4000000 in
theorem turn_zip3 {P : Program} {w : World} {K : PySem.W.Frag} {elts : List Expr} {kk : Nat} {tpos : Pos} {b1 b2 b3 : Bool} {a b c z TI TO i1 i2 i3 : Addr} (D : Apart3 z TI TO i1 i2 i3 a b c) :
    Turn P w K (.Tuple elts kk tpos) (Itz3 K b1 b2 b3 a b c) [z, TI, TO, i1, i2, i3] z (fun i h => IsZip h z TI TO .none ∧ Tri h TI (.ref i1) (.ref i2) (.ref i3) ∧ (∃ x y u, Tri h TO x y u) ∧ ItB b1 h i1 a i ∧ ItB b2 h i2 b i ∧ ItB b3 h i3 c i) where
  mem := by simp
  obj := fun i h st d hd => by
    obtain ⟨hz, hTI, ⟨x, y, u, hTO⟩, g1, g2, g3⟩ := st
    simp only [List.mem_cons, List.not_mem_nil, or_false] at hd
    rcases hd with q | q | q | q | q | q
    · rw [q]; exact ⟨_, hz, fun v q => nomatch q⟩
    · rw [q]; exact ⟨_, hTI, fun v q => nomatch q⟩
    · rw [q]; exact ⟨_, hTO, fun v q => nomatch q⟩
    · rw [q]; exact g1.obj
    · rw [q]; exact g2.obj
    · rw [q]; exact g3.obj
  keep := fun i h h' st k => by
    obtain ⟨hz, hTI, ⟨x, y, u, hTO⟩, g1, g2, g3⟩ := st
    exact ⟨k z (by simp) _ hz, k TI (by simp) _ hTI, ⟨x, y, u, k TO (by simp) _ hTO⟩, g1.to fun o q => k i1 (by simp) o q, g2.to fun o q => k i2 (by simp) o q, g3.to fun o q => k i3 (by simp) o q⟩
  item := by
    intro X hP hw hK hc i pins s σ H E I hf st hg
    subst hP hw hK
    obtain ⟨hz, hTI, ⟨x0, y0, u0, hTO⟩, g1, g2, g3⟩ := st
    obtain ⟨xs, ys, zs, x, y, u, qx, qy, qu, hx, hy, hu⟩ := hg
    obtain ⟨its1, rv1, p1⟩ := seB_of I qx
    obtain ⟨its2, rv2, p2⟩ := seB_of I qy
    obtain ⟨its3, rv3, p3⟩ := seB_of I qu
    obtain ⟨v1, hv1, r1⟩ := rv1.get hx
    obtain ⟨v2, hv2, r2⟩ := rv2.get hy
    obtain ⟨v3, hv3, r3⟩ := rv3.get hu
    have zl : z < s.heap.objs.size := Heap.lt_size hz
    obtain ⟨nd, f1, f2, f3⟩ := id D
    simp only [List.nodup_cons, List.mem_cons, List.not_mem_nil, or_false, not_or, not_false_eq_true, List.nodup_nil, and_true] at nd
    obtain ⟨⟨a1, a2, a3, a4, a5⟩, ⟨c1, c2, c3, c4⟩, ⟨d1, d2, d3⟩, ⟨e1, e2⟩, gg⟩ := nd
    refine next3_item D hz hTI hTO g1 g2 g3 p1 p2 p3 (x := v1) (y := v2) (u := v3) (by simpa using hv1) (by simpa using hv2) (by simpa using hv3) fun h' z' TO' t1 t2 t3 hT hk => ?_
    refine ⟨_, rfl, wpAny_letOwnedTupleGo_zip (s := { s with heap := h' }) z' fun h'' z'' sb => ?_⟩
    have kk2 : ∀ d o, d ≠ z → h'.get? d = some o → h''.get? d = some o := fun d o hd e => sb.extBut d o hd e
    have hT2 : h''.get? s.heap.objs.size = some { cls := .type "tuple", data := .seq #[v1, v2, v3] } := kk2 _ _ (Nat.ne_of_gt zl) hT
    have new : ObjOk X.prog X.w (upd H s.heap.objs.size (.tup [x, y, u])) h'' s.heap.objs.size (.tup [x, y, u]) :=
      ⟨by show 3 ≤ sizeLine; decide, [v1, v2, v3], .cons r1 (.cons r2 (.cons r3 .nil)), ⟨_, hT2, rfl, _, rfl⟩⟩
    have I1 : Inv X pins σ (upd H s.heap.objs.size (.tup [x, y, u])) { s with heap := h'' } :=
      I.turnedNew (t' := s.toks) (ch := [z, TI, TO, i1, i2, i3]) (fun d o hd q => by
        simp only [List.mem_cons, List.not_mem_nil, or_false, not_or] at hd
        exact kk2 d o hd.1 (hk d o (by simp only [List.mem_cons, List.not_mem_nil, or_false, not_or]; exact ⟨hd.1, hd.2.2.1, hd.2.2.2.1, hd.2.2.2.2.1, hd.2.2.2.2.2⟩) q)) hf (Nat.le_refl _) new
    refine ⟨.ref s.heap.objs.size, _, I1, rfl, ⟨_, x, y, u, rfl, I.hok.fresh (Nat.le_refl _), rfl, fun l hl => by rw [sqS_inj I hl qx]; exact hx, fun l hl => by rw [sqS_inj I hl qy]; exact hy, fun l hl => by rw [sqS_inj I hl qu]; exact hu⟩,
      ⟨z'', kk2 _ _ (Ne.symm a1) (hk _ _ (by simp [c1, c2, c3, c4, Ne.symm a1]) hTI), ⟨v1, v2, v3, kk2 _ _ (Ne.symm a2) TO'⟩, t1.to fun o q => kk2 _ o (Ne.symm a3) q, t2.to fun o q => kk2 _ o (Ne.symm a4) q, t3.to fun o q => kk2 _ o (Ne.symm a5) q⟩, fun d hd => ?_⟩
    have hlt : d < s.heap.objs.size := by
      have hd' := hd
      simp only [List.mem_cons, List.not_mem_nil, or_false] at hd'
      rcases hd' with q | q | q | q | q | q
      · rw [q]; exact zl
      · rw [q]; exact Heap.lt_size hTI
      · rw [q]; exact Heap.lt_size hTO
      · rw [q]; obtain ⟨_, e, _⟩ := g1.obj; exact Heap.lt_size e
      · rw [q]; obtain ⟨_, e, _⟩ := g2.obj; exact Heap.lt_size e
      · rw [q]; obtain ⟨_, e, _⟩ := g3.obj; exact Heap.lt_size e
    rw [upd_ne (Nat.ne_of_lt hlt)]
    exact (hf d hd).1
  done := by
    intro X hP hw hK hc i pins s σ H E I hf st hg
    subst hP hw hK
    obtain ⟨hz, hTI, ⟨x0, y0, u0, hTO⟩, g1, g2, g3⟩ := st
    obtain ⟨xs, qx, hend⟩ := hg
    obtain ⟨its1, rv1, p1⟩ := seB_of I qx
    have hlen := rv1.length
    refine next3_end (I.ok.hd hc) D hz hTI hTO g1 p1 (by simp; omega) fun h' hk => ⟨rfl, I.turnedL (t' := s.toks) (ch := [z, TI, TO, i1, i2, i3]) (fun d o hd q => ?_) hf⟩
    simp only [List.mem_cons, List.not_mem_nil, or_false, not_or] at hd
    exact hk d o (by simp only [List.mem_cons, List.not_mem_nil, or_false, not_or]; exact ⟨hd.1, hd.2.2.1, hd.2.2.2.1, hd.2.2.2.2.1, hd.2.2.2.2.2⟩) q
  self := fun A i s Q E st h => wpAny_pyIter_zip st.1 h
/-- zip of a tuple and two lists -/
def iZip3 (K : PySem.W.Frag) (ta : TA) : TI := fun σ H R => ta σ H fun vs H1 => ∃ a b c xs ys zs, vs = [.ref a, .ref b, .ref c] ∧ SqT K H1 a xs ∧ SqL K H1 b ys ∧ SqL K H1 c zs ∧ R (Itz3 K false true true a b c) H1
set_option maxHeartbeats 4000000 in
theorem pi_zip3 {X : Cx} {e e2 e3 : Expr} {ta : TA} {p pos tpos : Pos} {elts : List Expr} {kk : Nat} (hg : Gl X "zip") (hm : X.mg "zip" = none) (ha : PA X [e, e2, e3] ta)
    (hs : starEach [e, e2, e3] X.env = (false, eval e X.env) :: starEach [e2, e3] X.env := by rfl) (hpl : (backTo pos (starEach [e2, e3] X.env)).any (·.1) = false := by rfl) :
    PI X (.Tuple elts kk tpos) (.Call (.Name "zip" p) [e, e2, e3] [] pos) (iZip3 X.K ta) := by
  refine ⟨fun pins s σ H R I h => ?_⟩
  refine Call_ (ld_blt I hg hm PyProof.Rows.boot_zip (PyProof.Rows.callWith_type1 (thn (ha.run pos pins s σ H _ I h) fun us s1 ⟨vs, H1, I1, r1, q1⟩ => ?_) hs hpl))
  obtain ⟨a, b, c, xs, ys, zs, ex, hqx, hqy, hqz, q⟩ := q1
  subst ex
  cases r1 with
  | cons r rr =>
    cases rr with
    | cons r' rr =>
      cases rr with
      | cons r'' rr =>
        cases rr
        cases r
        cases r'
        cases r''
        obtain ⟨its1, rv1, p1, _⟩ := I1.tuple hqx
        obtain ⟨its2, rv2, p2, _⟩ := I1.list hqy
        obtain ⟨its3, rv3, p3, _⟩ := I1.list hqz
        obtain ⟨o1, ho1⟩ := SeB.obj (b := false) (show SeB false s1.heap a its1.toArray from (show s1.heap.IsTuple a its1.toArray from p1))
        obtain ⟨o2, ho2⟩ := SeB.obj (b := true) (show SeB true s1.heap b its2.toArray from p2.isList)
        obtain ⟨o3, ho3⟩ := SeB.obj (b := true) (show SeB true s1.heap c its3.toArray from p3.isList)
        have la := Heap.lt_size ho1
        have lb := Heap.lt_size ho2
        have lc := Heap.lt_size ho3
        refine call_zip3 (show s1.heap.IsTuple a its1.toArray from p1) p2.isList p3.isList fun h' n hn hz hTI hTO g1 g2 g3 hk => wpAny_pyIter_zip hz ?_
        rw [← hn] at la lb lc
        have I2 : Inv X pins σ H1 { s1 with heap := h' } := I1.kept (t' := s1.toks) hk
        have far : ∀ {l : Addr}, l < n → l ∉ [n + 5, n + 4, n, n + 1, n + 2] := fun {l} h k => by
          simp only [List.mem_cons, List.not_mem_nil, or_false] at k
          have hn' : ∀ x : Nat, l = n + x → False := fun x e => by rw [e] at h; exact absurd h (Nat.not_lt_of_le (Nat.le_add_right n x))
          rcases k with k | k | k | k | k
          · exact hn' _ k
          · exact hn' _ k
          · exact hn' 0 k
          · exact hn' _ k
          · exact hn' _ k
        have D : Apart3 (n + 5) (n + 3) (n + 4) n (n + 1) (n + 2) a b c :=
          ⟨by
            have e : ∀ x y : Nat, x ≠ y → ¬ (n + x = n + y) := fun x y h k => h (Nat.add_left_cancel k)
            have e0 : ∀ x : Nat, 0 < x → ¬ (n + x = n) := fun x h k => by have : n + x = n + 0 := k; have := Nat.add_left_cancel this; omega
            have e1 : ∀ x : Nat, 0 < x → ¬ (n = n + x) := fun x h k => e0 x h k.symm
            simp only [List.nodup_cons, List.mem_cons, List.not_mem_nil, or_false, not_or, not_false_eq_true, List.nodup_nil, and_true]
            exact ⟨⟨e _ _ (by decide), e _ _ (by decide), e0 _ (by decide), e _ _ (by decide), e _ _ (by decide)⟩, ⟨e _ _ (by decide), e0 _ (by decide), e _ _ (by decide), e _ _ (by decide)⟩, ⟨e0 _ (by decide), e _ _ (by decide), e _ _ (by decide)⟩, ⟨e1 _ (by decide), e1 _ (by decide)⟩, e _ _ (by decide)⟩, far la, far lb, far lc⟩
        refine ⟨n + 5, [n + 5, n + 3, n + 4, n, n + 1, n + 2], _, _, H1, rfl, I2, turn_zip3 D, ⟨hz, hTI, ⟨_, _, _, hTO⟩, g1, g2, g3⟩, fun d hd => ?_, q⟩
        have hle : s1.heap.objs.size ≤ d := by
          simp only [List.mem_cons, List.not_mem_nil, or_false] at hd
          rw [← hn]
          rcases hd with k | k | k | k | k | k <;> rw [k] <;> first | exact Nat.le_refl _ | exact Nat.le_add_right _ _
        exact I1.fpOk hle (I1.hok.fresh hle)
theorem kiZip3 {X : Cx} (K : PySem.W.Frag) {e e2 e3 : Expr} {ta : TA} {p pos tpos : Pos} {elts : List Expr} {kk : Nat} (h : X.K = K) (hg : Gl X "zip") (hm : X.mg "zip" = none) (ha : PA X [e, e2, e3] ta)
    (hs : starEach [e, e2, e3] X.env = (false, eval e X.env) :: starEach [e2, e3] X.env := by rfl) (hpl : (backTo pos (starEach [e2, e3] X.env)).any (·.1) = false := by rfl) :
    PI X (.Tuple elts kk tpos) (.Call (.Name "zip" p) [e, e2, e3] [] pos) (iZip3 K ta) := h ▸ pi_zip3 hg hm ha hs hpl
theorem walk_zip3 {K : PySem.W.Frag} {a b c : Addr} {xs ys zs : List V} (h1 : xs.length ≤ ys.length) (h2 : xs.length ≤ zs.length) : Walk (Itz3 K false true true a b c) xs.length (fun H => SqT K H a xs ∧ SqL K H b ys ∧ SqL K H c zs)
    (fun i H v H' => ∃ T x y u, v = .ref T ∧ H T = none ∧ H' = upd H T (.tup [x, y, u]) ∧ xs[i]? = some x ∧ ys[i]? = some y ∧ zs[i]? = some u) where
  goes := fun i H hi ⟨p, q, r⟩ => ⟨xs, ys, zs, xs[i], ys[i]'(by omega), zs[i]'(by omega), p, q, r, List.getElem?_eq_getElem (by omega), List.getElem?_eq_getElem (by omega), List.getElem?_eq_getElem (by omega)⟩
  stops := fun H ⟨p, q, r⟩ => ⟨xs, p, Nat.le_refl _⟩
  yields := fun i H v H' hi ⟨p, q, r⟩ ⟨T, x, y, u, e, nT, e2, f1, f2, f3⟩ => ⟨T, x, y, u, e, nT, e2, f1 xs p, f2 ys q, f3 zs r⟩
end Pf

namespace Pf
open PySem PySem.Spec PyProof.Rows L2
/-! ### a or b by truth, min and max of a list -/
theorem kOrT {X : Cx} (K : PySem.W.Frag) {a b : Expr} {ta tb : TE} {rest : List Expr} {pos : Pos} (h : X.K = K) (ha : PE X a ta) (hb : PE X (.BoolOp .Or (b :: rest) pos) tb) : PE X (.BoolOp .Or (a :: b :: rest) pos) (tOrT K ta tb) := h ▸ pe_orT ha hb
theorem kMin1 {X : Cx} (K : PySem.W.Frag) (hc : X.calm = true) (h : X.K = K) : CallR X (.builtin "min") (rMin K) := kC K (r := rMin) h (cr_min hc)
theorem kMax1 {X : Cx} (K : PySem.W.Frag) (hc : X.calm = true) (h : X.K = K) : CallR X (.builtin "max") (rMax K) := kC K (r := rMax) h (cr_max hc)
theorem g_orT {K : PySem.W.Frag} {ta tb : TE} {σ : L2.St} {H : Hp} {Q : VK} (q : ta σ H fun x H1 => ∃ k, TruV K x H1 k ∧ if k = true then Q x H1 else tb σ H1 Q) : tOrT K ta tb σ H Q := q
/-! ### sorted(t) of a tuple of whole numbers -/
section
variable {prog : Program} {w : World} {A : Around} {E : Value → Shared → Prop} {s : Shared}
theorem collect_tup {l : Addr} {vs : List Value} {Q : List Value → Shared → Prop} (hl : s.heap.IsTuple l vs.toArray)
    (h : Q vs { s with heap := (s.heap.push (seqObj "list" #[] 0)).update s.heap.objs.size (Obj.mapSeq (· ++ vs.toArray)) }) (hsz : vs.length ≤ sizeLine) :
    wpAny (model prog w) A (collect (.ref l)) Q E s := by
  obtain ⟨o, ho, hc, n, hd⟩ := id hl
  unfold collect
  refine wpAny_bind (wpAny_runValue (codeAny_builtin entry_proto_collect' ?_))
  show wpAny _ _ (do again (.builtin "list.__iadd__" ⟨[← newList [], .ref l], []⟩)) _ _ s
  refine wpAny_bind (wpAny_newList (wpAny_pure ⟨Code.quiet_builtin _ (by decide +kernel), codeAny_builtin entry_list_iadd' ?_⟩))
  show wpAny _ _ (Builtin.List.listExtendWith (.ref s.heap.objs.size) (.ref l) (.ref s.heap.objs.size)) _ _ { s with heap := s.heap.push (seqObj "list" #[] 0) }
  unfold Builtin.List.listExtendWith
  have ho' : (s.heap.push (seqObj "list" #[] 0)).get? l = some o := Heap.get?_push_of_some _ ho
  refine wpAny_bind (wpAny_typeOf (T := "tuple") ⟨o, ho', hc⟩ ?_)
  have ht : (Value.type "tuple" == Value.type "tuple") = true := by rfl
  rw [if_pos (by rw [ht]; simp)]
  refine wpAny_bind (listItems_at ho' hd ?_)
  refine wpAny_bind (listItems_at (xs := #[]) (n := 0) (Heap.get?_push_size _ rfl) rfl ?_)
  rw [if_neg (by simp)]
  refine wpAny_bind (listUpdate_at (xs := #[]) (n := 0) (Heap.get?_push_size _ rfl) rfl ?_ (Nat.zero_le _) (by show (#[] ++ vs.toArray).size ≤ sizeLine + 1; simp only [Array.size_append, List.size_toArray, List.length_nil]; omega))
  refine wpAny_pure ?_
  show wpAny (model prog w) A (do
      let o ← load s.heap.objs.size
      match o.data with
      | .seq xs _ => pure xs.toList
      | _ => unsupported "internal:collect") Q E { s with heap := (s.heap.push (seqObj "list" #[] 0)).update s.heap.objs.size (Obj.mapSeq (· ++ vs.toArray)) }
  refine wpAny_bind (wpAny_load (get?_update_seq (Heap.get?_push_size _ rfl) _) ?_)
  show wpAny _ _ (pure ((#[] : Array Value) ++ vs.toArray).toList) Q E _
  rw [show ((#[] : Array Value) ++ vs.toArray).toList = vs by simp]
  exact wpAny_pure h
theorem sorted_tup {l : Addr} {vs : List Value} {ns : List Int} {Q : Value → Shared → Prop} (hl : s.heap.IsTuple l vs.toArray) (hI : IntsAre vs ns) (h64 : vs.length < 64)
    (h : ∀ (out : Array Value) (ns' : List Int), IntsAre out.toList ns' → ns'.Perm ns → ns'.Pairwise (· ≤ ·) → Q (.ref (s.heap.objs.size + 1)) { s with heap := sortedAll s.heap vs out }) :
    wpAny (model prog w) A (call (.builtin "sorted") [.ref l]) Q E s := by
  refine Calls.call_function_entry kind_sorted plain_sorted entry_sorted (args_sorted1 _) ?_
  unfold Builtin.«sorted»
  refine wpAny_bind (m := checkCount "sorted" 1 1 _) (wpAny_pure ?_)
  refine wpAny_bind (collect_tup hl ?_ (by rw [sizeLine_eq]; omega))
  refine wpAny_bind (wpAny_newList ?_)
  have hsz : ((s.heap.push (seqObj "list" #[] 0)).update s.heap.objs.size (Obj.mapSeq (· ++ vs.toArray))).objs.size = s.heap.objs.size + 1 := by
    rw [Heap.size_update, size_push']
  have hoL : (((s.heap.push (seqObj "list" #[] 0)).update s.heap.objs.size (Obj.mapSeq (· ++ vs.toArray))).push (seqObj "list" vs.toArray 0)).get? (s.heap.objs.size + 1) = some (seqObj "list" vs.toArray 0) := by
    rw [← hsz]; exact Heap.get?_push_size _ rfl
  show wpAny _ _ _ _ _ { s with heap := ((s.heap.push (seqObj "list" #[] 0)).update s.heap.objs.size (Obj.mapSeq (· ++ vs.toArray))).push (seqObj "list" vs.toArray 0) }
  rw [hsz]
  refine wpAny_bind (wpAny_holding (wpAny_call_entry slot_list_sort ⟨_, hoL, rfl⟩ entry_list_sort (list_sort_tree hoL hI h64 fun out ns' a1 a2 a3 => ⟨_, rfl, ?_⟩) (args_list_sort _)))
  exact wpAny_pure ⟨_, rfl, h out ns' a1 a2 a3⟩
end
def rSortedTup (K : PySem.W.Frag) : List V → Hp → VK → Prop := fun vs H Q => ∃ (a : Addr) (ns : List Int), vs = [V.ref a] ∧ SqT K H a (ns.map V.int) ∧ ns.length < 64 ∧
  ∀ (ns' : List Int) (p : Addr), ns'.Perm ns → ns'.Pairwise (· ≤ ·) → H p = none → Q (.ref p) (upd H p (.lst (ns'.map V.int)))
theorem cr_sortedTup {X : Cx} : CallR X (.builtin "sorted") (rSortedTup X.K) := by
  intro pins s σ H vs us Q I r h
  obtain ⟨a, ns, rfl, hs, h64, q⟩ := h
  obtain ⟨its, rv, hl, _⟩ := I.tuple hs
  rw [Vals.ref1 r]
  have hi := rv.ints
  refine sorted_tup (show s.heap.IsTuple a its.toArray from hl) hi (by rw [hi.length]; exact h64) fun out ns' h1 h2 h3 => ?_
  obtain ⟨ep, he'⟩ := PyProof.Rows.sortedAll_at s.heap its out
  have hlen : (ns'.map V.int).length ≤ sizeLine := by rw [List.length_map, h2.length_eq]; exact small64 h64
  exact ⟨.ref _, upd H (s.heap.objs.size + 1) (.lst (ns'.map V.int)), I.laid (t' := s.toks) (fun _ _ => PyProof.Rows.sortedAll_old) (Nat.le_succ _) ⟨hlen, out.toList, ep, vals_of_ints h1, he'⟩, rfl, q ns' _ h2 h3 (I.hok.fresh (Nat.le_succ _))⟩
theorem kSortedTup {X : Cx} (K : PySem.W.Frag) (h : X.K = K) : CallR X (.builtin "sorted") (rSortedTup K) := kC K (r := rSortedTup) h cr_sortedTup
end Pf

namespace Pf
open PySem PySem.Spec PyProof.Rows L2
/-! ### a dict written with one key, a tuple -/
def tDisp1T (tk tv : TE) : TE := fun σ H Q => ∀ p, H p = none → tk σ (L2.upd H p (.dT [])) fun x H1 => tv σ H1 fun y H2 => H2 p = some (.dT []) ∧ ∃ (b : Addr) (k : List Key), x = .ref b ∧ H2 b = some (.tup (k.map kV)) ∧ Q (.ref p) (L2.upd H2 p (.dT [(k, y)]))
theorem pe_disp1T {X : Cx} {pos : Pos} {k v : Expr} {tk tv : TE} (hu : X.A.units + 1 < cLine) (hk : PE X k tk) (hv : PE X v tv) : PE X (.Dict [some k] [v] pos) (tDisp1T tk tv) := by
  refine ⟨fun pins s σ H Q I q => ?_⟩
  have hn := I.hok.fresh (Nat.le_refl s.heap.objs.size)
  have I1 := I.laid (a := s.heap.objs.size) (o := .dT []) (h' := s.heap.push { cls := .type "dict", data := .dict #[] }) (t' := s.toks) (fun _ _ q => Heap.get?_push_of_some _ q) (Nat.le_refl _) (dt_empty s.heap I.big)
  have hz := zip_pairTrees [some k] [v] X.env pos rfl rfl
  rw [arm_eval_Dict, hz, dictDisplay_pairs _ (by intro z; cases z) (by show 1 < 17; decide)]
  refine wpAny_bind (wpAny_standAt (wpAny_bind ?_))
  refine wpAny_subDictH (knd := tupleKind (mixKind X.prog X.w)) (by have h1 : X.A.units + 1 < cLine := hu; first | exact h1 | exact Nat.lt_of_succ_lt h1 | (show X.A.units < cLine; omega)) (by show 1 ≤ 15; decide) ?_
  refine thn ((pps_cons hk hv pps_nil).run pins _ σ _ (fun ps H2 => match ps with
    | [(x, y)] => H2 s.heap.objs.size = some (.dT []) ∧ ∃ (b : Addr) (k : List Key), x = .ref b ∧ H2 b = some (.tup (k.map kV)) ∧ Q (.ref s.heap.objs.size) (L2.upd H2 s.heap.objs.size (.dT [(k, y)]))
    | _ => False) I1 (q _ hn)) fun ws s2 ⟨ps, H2, I2, rel, qq⟩ => ?_
  match ps, qq with
  | [(x, y)], ⟨e, b, kk, ex, eb, q2⟩ =>
    cases rel with
    | @cons p1 u as bs r t =>
      cases t
      obtain ⟨u1, u2⟩ := u
      obtain ⟨r1, r2⟩ := r
      cases ex
      cases (show u1 = Value.ref b from r1)
      obtain ⟨z, hd, xs, rel', dd⟩ := dt_of I2.hok e
      cases rel'
      refine ⟨[(kk, b, u2)], ⟨rfl, rfl, key_of I2.hok eb, True.intro⟩, dd, fun h' tk dd' hs => ?_⟩
      obtain ⟨o, es, ep, ho, h2, h3, h4, _, h5⟩ := dd'
      have I3 := d_write (t' := tk) (ob := .dT [(kk, y)]) I2 (by rw [e]; exact True.intro) hs ⟨o, ho⟩ ⟨by show 1 ≤ sizeLine; rw [sizeLine_eq]; omega, hd, [(kk, b, u2)], .cons ⟨rfl, by rw [upd_ne (ne_of eb e (fun z => nomatch z))]; exact eb, r2⟩ .nil, o, es, ep, ho, h2, h3, h4, h5⟩
      exact wpAny_pure ⟨.ref s.heap.objs.size, _, I3, rfl, q2⟩
theorem keDisp1T {X : Cx} {pos : Pos} {k v : Expr} {tk tv : TE} (hu : X.A.units + 1 < cLine) (hk : PE X k tk) (hv : PE X v tv) : PE X (.Dict [some k] [v] pos) (tDisp1T tk tv) := pe_disp1T hu hk hv
theorem g_disp1T {tk tv : TE} {σ : L2.St} {H : Hp} {Q : VK} (q : ∀ p, H p = none → tk σ (L2.upd H p (.dT [])) fun x H1 => tv σ H1 fun y H2 => H2 p = some (.dT []) ∧ ∃ (b : Addr) (k : List Key), x = .ref b ∧ H2 b = some (.tup (k.map kV)) ∧ Q (.ref p) (L2.upd H2 p (.dT [(k, y)]))) : tDisp1T tk tv σ H Q := q
/-! ### keys that are tuples of whole numbers -/
def keyI (ns : List Int) : List Key := ns.map Sum.inl
theorem keyI_kV (ns : List Int) : (keyI ns).map kV = ns.map V.int := by
  unfold keyI
  rw [List.map_map]
  rfl
theorem keyI_inj {a b : List Int} (h : keyI a = keyI b) : a = b := List.map_inj_right (f := (Sum.inl : Int → Key)) (fun _ _ e => Sum.inl.inj e) |>.mp h
/-! ### what a dict holds -/
theorem putK_keys {α : Type} [DecidableEq α] (kvs : List (α × V)) (k : α) (v : V) : ∀ a, a ∈ (putK kvs k v).map (·.1) ↔ a = k ∨ a ∈ kvs.map (·.1) := fun a => by
  unfold putK
  split
  · rename_i h
    rw [List.any_eq_true] at h
    obtain ⟨p, hp, e⟩ := h
    have e' := of_decide_eq_true e
    have em : (kvs.map fun kv => if kv.1 = k then (kv.1, v) else kv).map (·.1) = kvs.map (·.1) := by
      rw [List.map_map]
      refine List.map_congr_left fun x _ => ?_
      show (if x.1 = k then (x.1, v) else x).1 = x.1
      split <;> rfl
    rw [em]
    constructor
    · exact .inr
    · rintro (rfl | h)
      · exact List.mem_map.mpr ⟨p, hp, e'⟩
      · exact h
  · rw [List.map_append, List.mem_append]
    constructor
    · rintro (h | h)
      · exact .inr h
      · exact .inl (List.mem_singleton.mp h)
    · rintro (h | h)
      · exact .inr (by rw [h]; exact List.mem_singleton.mpr rfl)
      · exact .inl h
/-! ### readings of dicts -/
section
variable {σ : L2.St} {H : Hp} {Q : VK} {D : Ends} {td ty tv : TE}
theorem g_dget (q : td σ H fun x H1 => ty σ H1 fun y H2 => ∃ a v, x = .ref a ∧ DGet H2 a y (some v) ∧ Q v H2) : tDGet td ty σ H Q := q
theorem g_dget2 (q : td σ H fun x H1 => ∃ a, x = .ref a ∧ IsD H1 a ∧ ty σ H1 fun y H2 => tv σ H2 fun z H3 => ∃ o, DGet H3 a y o ∧ Q (o.getD z) H3) : tDGet2 td ty tv σ H Q := q
theorem g_din (q : ty σ H fun y H1 => td σ H1 fun x H2 => ∃ a o, x = .ref a ∧ DGet H2 a y o ∧ Q (.bl o.isSome) H2) : tDIn ty td σ H Q := q
theorem g_dnotin (q : ty σ H fun y H1 => td σ H1 fun x H2 => ∃ a o, x = .ref a ∧ DGet H2 a y o ∧ Q (.bl (!o.isSome)) H2) : tDNotIn ty td σ H Q := q
theorem g_dput (q : tv σ H fun v H1 => td σ H1 fun x H2 => ty σ H2 fun y H3 => ∃ a H4, x = .ref a ∧ DPut H3 a y v H4 ∧ D.nx σ H4) : sDPut td ty tv D σ H := q
theorem g_lock {t : TS} {σ : L2.St} {H : Hp} {D : Ends} (q : ∃ d u, H d = some u ∧ Mut (some u) ∧ ∀ od, t ⟨fun σ' H' => H' d = some (.frz od u) ∧ D.nx σ' (L2.upd H' d u), fun v H' => H' d = some (.frz od u) ∧ D.rt v (L2.upd H' d u), fun σ' H' => H' d = some (.frz od u) ∧ D.bk σ' (L2.upd H' d u), fun σ' H' => H' d = some (.frz od u) ∧ D.ct σ' (L2.upd H' d u)⟩ σ (L2.upd H d (.frz od u))) : tLock t D σ H := q
theorem g_iKT {td : TE} {R : It → Hp → Prop} (q : td σ H fun x H1 => ∃ d o kvs, x = .ref d ∧ H1 d = some (.frz o (.dT kvs)) ∧ R (Itkt d o kvs) H1) (mono : ∀ Q Q' : VK, (∀ x H1, Q x H1 → Q' x H1) → td σ H Q → td σ H Q') : iKeys td σ H R :=
  mono _ _ (fun x H1 ⟨d, o, kvs, e, h, r⟩ => ⟨d, o, e, .inr ⟨kvs, h, r⟩⟩) q
theorem g_iKTv {i : Nat} {R : It → Hp → Prop} (q : tVar i σ H fun x H1 => ∃ d o kvs, x = .ref d ∧ H1 d = some (.frz o (.dT kvs)) ∧ R (Itkt d o kvs) H1) : iKeys (tVar i) σ H R :=
  g_iKT q fun Q Q' h ⟨v, e, q⟩ => ⟨v, e, h _ _ q⟩
end
/-! ### tuples that stay tracked -/
theorem g_slAt {K : PySem.W.Frag} {H : Hp} {Q : VK} {p : Addr} {xs : List V} {lo hi : Option Int} (h : H p = some (.tup xs)) (q : ∀ p' H', Same H H' → H' p' = some (.tup (cutV xs lo hi)) → Q (.ref p') H') : rSlA K (.ref p) lo hi H Q := by
  refine ⟨p, xs, rfl, SqT.at h, fun hw => ?_, fun _ p' n' => q p' _ (same_new n') upd_same⟩
  refine q p H (Same.refl H) ?_
  unfold cutV
  rw [hw.1, hw.2]
  simpa using h
theorem g_catAt {K : PySem.W.Frag} {H : Hp} {Q : VK} {a b : Addr} {xs ys : List V} (ha : H a = some (.tup xs)) (hb : H b = some (.tup ys)) (hl : xs.length + ys.length ≤ sizeLine) (q : ∀ p H', Same H H' → H' p = some (.tup (xs ++ ys)) → Q (.ref p) H') : rCatA K (.ref a) (.ref b) H Q :=
  ⟨a, b, xs, ys, rfl, rfl, SqT.at ha, SqT.at hb, hl, fun e => by subst e; exact q b H (Same.refl H) hb, fun _ e => by subst e; exact q a H (Same.refl H) (by simpa using ha), fun _ _ p np => q p _ (same_new np) upd_same⟩
end Pf

namespace Pf
open PySem PySem.Spec PyProof.Rows L2
/-! ### sorted of a list of tuples of whole numbers, any number of them -/
def ltTs (h : Heap) (B : Int) (v u : Value) : Bool := decide (TS.code B (TS.intsOf h v) < TS.code B (TS.intsOf h u))
theorem swo_ts (h : Heap) (B : Int) : SrtO.Swo (ltTs h B) := by
  refine ⟨fun x y e => ?_, fun x y z e1 e2 => ?_⟩
  · have := of_decide_eq_true e
    exact decide_eq_false (by omega)
  · have := of_decide_eq_false e1
    have := of_decide_eq_false e2
    exact decide_eq_false (by omega)
def rSortTs (K : PySem.W.Frag) : List V → Hp → VK → Prop := fun vs H Q => ∃ (a : Addr) (xs : List V) (d : Nat) (B : Int), vs = [V.ref a] ∧ SqL K H a xs ∧ 1 ≤ d ∧ (∀ x ∈ xs, ∃ ns, TupI K H x ns ∧ ns.length = d ∧ TS.Bd B ns) ∧
  ∀ (ys : List V) (p : Addr), ys.Perm xs → ys.Pairwise (fun x y => ∀ n m, TupI K H x n → TupI K H y m → TS.code B n ≤ TS.code B m) → H p = none → Q (.ref p) (L2.upd H p (.lst ys))
section
variable {prog : Program} {w : World} {A : Around} {s : Shared}
theorem ts_sortable {a : Addr} {vs : List Value} {d : Nat} {B : Int} {h0 : Heap} (h2 : 2 ≤ vs.length) (hd : 1 ≤ d) (hok : TS.TupsOk h0 d B vs) (k0 : ∀ b o, h0.get? b = some o → b ≠ a ∧ s.heap.get? b = some o) : SrtO.SortableO prog w A s a vs (ltTs h0 B) := by
  intro h' keep
  have up : ∀ b o, h0.get? b = some o → h'.get? b = some o := fun b o e => keep b o (k0 b o e).1 (k0 b o e).2
  have x' : TS.TupsOk h' d B vs := hok.keeps fun b o e _ => up b o e
  have same : ∀ v ∈ vs, TS.intsOf h0 v = TS.intsOf h' v := fun v hv => by
    obtain ⟨ns, t, _⟩ := hok v hv
    rw [t.ints, (t.keeps (h' := h') fun b o e _ => up b o e).ints]
  refine ⟨tuples' true, fun Q E hq => ?_, ?_⟩
  · obtain ⟨fs, k, hl, hi⟩ := TS.firsts_of hd vs x'
    refine PySem.W.kat_kind (T := Value.type "int") (s := { s with heap := h' }) k (by omega) (fun f hf => ?_) rfl ?_
    · obtain ⟨n, t, rfl⟩ := hi f hf
      exact PySem.W.Looks.of_pure rfl
    · have e : (Value.type "int" != Value.type "tuple") = true := by first | decide +kernel | rfl | decide
      rw [e]
      exact hq
  · intro p q hp hq
    obtain ⟨ns, tp, lp, bp⟩ := x' _ hp
    obtain ⟨ms, tq, lq, bq⟩ := x' _ hq
    have er : SrtO.lt2 (ltTs h0 B) p q = decide (TS.code B ns < TS.code B ms) := by
      show decide (TS.code B (TS.intsOf h0 p.1) < TS.code B (TS.intsOf h0 q.1)) = _
      rw [same _ hp, same _ hq, tp.ints, tq.ints]
    rw [er]
    obtain ⟨x, xs, e1, ⟨o, ho, hc, n, hdt⟩, i⟩ := tp
    obtain ⟨y, ys, e2, ⟨o', ho', hc', n', hdt'⟩, i'⟩ := tq
    rw [e1, e2]
    refine PySem.W.kat_lt (s := { s with heap := h' }) ho hdt ho' hdt' ?_
    have sz : decide (xs.size < ys.size) = false := by
      have l1 := i.length
      have l2 := i'.length
      rw [Array.length_toList] at l1 l2
      exact decide_eq_false (by omega)
    rw [sz]
    exact TS.lex_ints 0 i i' (by omega) bp bq ⟨rfl, rfl⟩
end
section
variable {X : Cx}
theorem cr_sortTs : CallR X (.builtin "sorted") (rSortTs X.K) := by
  intro pins s σ H vs us Q I r h
  obtain ⟨a, xs, d, B, rfl, hs, hd, hx, q⟩ := h
  obtain ⟨its, rv, hl, hz⟩ := I.list hs
  rw [Vals.ref1 r]
  obtain ⟨e1, e2⟩ := bkV_refs rv fun x m => by
    obtain ⟨ns, ⟨t, e, _⟩, _⟩ := hx x m
    exact ⟨t, e⟩
  have hok : TS.TupsOk s.heap d B its := fun v hv => by
    obtain ⟨t, rfl⟩ := e2 v hv
    have hm : V.ref t ∈ xs := by
      rw [e1]
      exact List.mem_map.mpr ⟨_, hv, rfl⟩
    obtain ⟨ns, ⟨t', e, ht⟩, hn, hb⟩ := hx _ hm
    cases e
    exact ⟨ns, tupI_raw I ht, hn, hb⟩
  refine SrtO.sorted_ord (swo_ts s.heap B) hl.isList (by rw [← rv.length]; exact hz) (fun h2 h₁ a' _ kk => ts_sortable (s := { s with heap := h₁ }) h2 hd hok kk) fun out h1 h2 => ?_
  obtain ⟨ep, he'⟩ := PyProof.Rows.sortedAll_at s.heap its out.toArray
  have h3 : ∀ u ∈ out, ∃ a, u = Value.ref a := fun u hu => e2 u (h2.perm.mem_iff.mp hu)
  have hp : (out.map bkV).Perm xs := by
    rw [e1]
    exact h2.perm.map bkV
  have hlen : (out.map bkV).length ≤ sizeLine := by
    rw [hp.length_eq]
    exact hz
  refine ⟨.ref _, L2.upd H (s.heap.objs.size + 1) (.lst (out.map bkV)), I.laid (t' := s.toks) (fun _ _ => PyProof.Rows.sortedAll_old) (Nat.le_succ _) ⟨hlen, out, ep, bkV_vals h3, he'⟩, rfl, q _ _ hp ?_ (I.hok.fresh (Nat.le_succ _))⟩
  rw [List.pairwise_map]
  refine List.Pairwise.imp (fun {u v} huv n m hn hm => ?_) h1
  obtain ⟨t, et, ht⟩ := hn
  obtain ⟨t', et', ht'⟩ := hm
  have i1 : TS.intsOf s.heap u = n := by
    rw [bkV_ref et]
    exact (tupI_raw I ht).ints
  have i2 : TS.intsOf s.heap v = m := by
    rw [bkV_ref et']
    exact (tupI_raw I ht').ints
  have := of_decide_eq_false huv
  rw [i1, i2] at this
  omega
theorem kSortTs (K : PySem.W.Frag) (h : X.K = K) : CallR X (.builtin "sorted") (rSortTs K) := kC K (r := rSortTs) h cr_sortTs
end
end Pf

namespace Pf
/-! ### bounds of borders: where a border stands at a cut or a greater one, and what comes from that -/
namespace Spn
def mvOn (D : Spn) (t c : Nat) : Nat := if D.X t < D.Y t then (if c = D.Y t then D.X t else c) else (if D.Su t = true ∧ c = D.X t then D.X t + 1 else c)
def mvBk (D : Spn) (t c : Nat) : Nat := if D.X t < D.Y t then (if D.Su t = true ∧ c = D.Y t then D.Y t + 1 else c) else (if c = D.X t + 1 then D.X t else c)
inductive Nx (D : Spn) : Fd → Fd → Prop
  | up {t b c} (h : b < D.n) : Nx D (t, b, c) (t, b + 1, c)
  | over {t b c} (h : b < D.n) (s : D.Sh b t) : Nx D (t, b, c) (t, b + 1, c + 1)
  | on {t b c} (h : t < D.m) : Nx D (t, b, c) (t + 1, b, D.mvOn t c)
  | bk {t b c} (h : t < D.m) : Nx D (t + 1, b, c) (t, b, D.mvBk t c)
def Fst (D : Spn) (x : Fd) : Prop := (∃ b, b ≤ D.n ∧ x = (0, b, b)) ∨ ∃ f ∈ D.fs, x = (f.1, f.2.2 + 1, f.2.1 + 1)
inductive Reach (D : Spn) : Fd → Prop
  | first {x} (h : D.Fst x) : Reach D x
  | next {x y} (h : Reach D x) (g : D.Nx x y) : Reach D y
def Den (D : Spn) (x : Fd) : Prop := (x.1 = 0 ∧ x.2.1 < x.2.2) ∨ ∃ f ∈ D.fs, f.1 = x.1 ∧ f.2.2 = x.2.1 ∧ f.2.1 < x.2.2
def Hold (D : Spn) (st : Nat → Nat → Nat) (x : Fd) : Prop := ∀ z, z < x.2.2 → z < D.n ∧ st x.1 z < x.2.1
/-- a plain one: offices and editions are counted as they are -/
structure Pl (D : Spn) : Prop where
  O : D.Ok
  id : ∀ z, D.iv z = z
section
variable {D : Spn} {F : Nat → Nat} {d : Nat → Bool} {st : Nat → Nat → Nat}
theorem Pl.xy (P : D.Pl) {t : Nat} (h : t < D.m) : D.Y t = D.X t + 1 ∨ D.X t = D.Y t + 1 := by
  have := P.O.hXY t h
  rwa [P.id, P.id] at this
/-- bounds lie in a box -/
def Box (D : Spn) (x : Fd) : Prop := x.1 ≤ D.m ∧ x.2.1 ≤ D.n ∧ x.2.2 ≤ D.n + x.2.1
theorem Fst.box (P : D.Pl) {x : Fd} (h : D.Fst x) : D.Box x := by
  rcases h with ⟨b, hb, rfl⟩ | ⟨f, hf, rfl⟩
  · exact ⟨Nat.zero_le _, hb, Nat.le_add_left _ _⟩
  · have := P.O.fin f hf
    exact ⟨this.1, this.2.2, by show f.2.1 + 1 ≤ D.n + (f.2.2 + 1); omega⟩
theorem Nx.box (P : D.Pl) {x y : Fd} (hx : D.Box x) (h : D.Nx x y) : D.Box y := by
  cases h with
  | @up t b c h =>
    have h2 : c ≤ D.n + b := hx.2.2
    exact ⟨hx.1, h, by show c ≤ D.n + (b + 1); omega⟩
  | @over t b c h s =>
    have h2 : c ≤ D.n + b := hx.2.2
    exact ⟨hx.1, h, by show c + 1 ≤ D.n + (b + 1); omega⟩
  | @on t b c h =>
    have hX := P.O.hX t h
    have h2 : c ≤ D.n + b := hx.2.2
    refine ⟨h, hx.2.1, ?_⟩
    show D.mvOn t c ≤ D.n + b
    unfold mvOn
    split
    · split <;> omega
    · split <;> omega
  | @bk t b c h =>
    have hX := P.O.hX t h
    have hY := P.O.hY t h
    have h2 : c ≤ D.n + b := hx.2.2
    refine ⟨Nat.le_of_lt h, hx.2.1, ?_⟩
    show D.mvBk t c ≤ D.n + b
    unfold mvBk
    split
    · split <;> omega
    · split <;> omega
theorem Reach.box (P : D.Pl) {x : Fd} (h : D.Reach x) : D.Box x := by
  induction h with
  | first h => exact h.box P
  | next _ g ih => exact g.box P ih
/-! #### they hold in all doings in which the finds are true -/
theorem Run.up (P : D.Pl) (r : Run D d st) {t : Nat} (ht : t ≤ D.m) {x y : Nat} (hx : x < D.n) (hy : y < D.n) (h : x ≤ y) : st t x ≤ st t y := by
  have := r.mono' P.O ht hx hy (by rw [P.id, P.id]; exact h)
  rwa [P.id, P.id] at this
theorem Nx.hold (P : D.Pl) (r : Run D d st) (tr : True' D st) {x y : Fd} (hb : D.Box x) (hx : D.Hold st x) (h : D.Nx x y) : D.Hold st y := by
  cases h with
  | up h => exact fun z hz => ⟨(hx z hz).1, Nat.lt_succ_of_lt (hx z hz).2⟩
  | @over t b c h s =>
    obtain ⟨f, hf, e, g⟩ := s
    have fin := P.O.fin f hf
    obtain ⟨k, hk⟩ : ∃ k, t + k = f.1 := ⟨f.1 - t, by omega⟩
    obtain ⟨q, hq, e2⟩ := r.back P.O (t := t) (k := k) (by omega) fin.2.1
    have e3 : st t q = b := by
      rw [e2, hk, tr f hf, ← P.id f.2.2]
      exact e
    have hcq : c ≤ q := by
      rcases Nat.lt_or_ge q c with hl | hl
      · have h2 : st t q < b := (hx q hl).2
        omega
      · exact hl
    intro z hz
    rcases Nat.lt_or_ge z c with hl | hl
    · exact ⟨(hx z hl).1, Nat.lt_succ_of_lt (hx z hl).2⟩
    · have hz' : z < c + 1 := hz
      have ez : z = c := by omega
      subst ez
      refine ⟨by omega, ?_⟩
      have := r.up P hb.1 (show z < D.n by omega) hq hcq
      show st t z < b + 1
      have h2 : st t z ≤ st t q := this
      omega
  | @on t b c h =>
    have hX := P.O.hX t h
    have hY := P.O.hY t h
    have hx' : ∀ z, z < c → z < D.n ∧ st t z < b := hx
    have els : ∀ z, z < c → z ≠ D.X t → z < D.n ∧ st (t + 1) z < b := fun z hz ne => by
      have := hx' z hz
      exact ⟨this.1, by rw [r.else_ t z h this.1 ne]; exact this.2⟩
    have both : D.X t < c → D.Y t < c → D.X t < D.n ∧ st (t + 1) (D.X t) < b := fun h1 h2 => by
      refine ⟨hX, ?_⟩
      cases hd : d t with
      | true => rw [r.done t h hd]; exact (hx' _ h2).2
      | false => rw [r.kept t h hd]; exact (hx' _ h1).2
    show ∀ z, z < D.mvOn t c → z < D.n ∧ st (t + 1) z < b
    intro z hz
    unfold mvOn at hz
    have hxy := P.xy h
    split at hz
    · rename_i hl
      split at hz
      · exact els z (by omega) (by omega)
      · by_cases e : z = D.X t
        · rw [e]
          exact both (by omega) (by omega)
        · exact els z hz e
    · rename_i hl
      split at hz
      · rename_i hs
        by_cases e : z = D.X t
        · rw [e]
          refine ⟨hX, ?_⟩
          rw [r.done t h (r.su t h hs.1)]
          exact (hx' _ (by omega)).2
        · exact els z (by omega) e
      · by_cases e : z = D.X t
        · rw [e]
          exact both (by omega) (by omega)
        · exact els z hz e
  | @bk t b c h =>
    have hX := P.O.hX t h
    have hY := P.O.hY t h
    have hx' : ∀ z, z < c → z < D.n ∧ st (t + 1) z < b := hx
    have els : ∀ z, z < c → z ≠ D.X t → z < D.n ∧ st t z < b := fun z hz ne => by
      have := hx' z hz
      refine ⟨this.1, ?_⟩
      rw [← r.else_ t z h this.1 ne]
      exact this.2
    show ∀ z, z < D.mvBk t c → z < D.n ∧ st t z < b
    intro z hz
    unfold mvBk at hz
    have hxy := P.xy h
    split at hz
    · rename_i hl
      have ofX : D.X t < c → st t (D.X t) < b := fun h1 => by
        have h2 := (hx' _ h1).2
        cases hd : d t with
        | true =>
          rw [r.done t h hd] at h2
          have := r.up P (Nat.le_of_lt h) hX hY (by omega)
          omega
        | false => rwa [r.kept t h hd] at h2
      split at hz
      · rename_i hs
        by_cases e : z = D.X t
        · rw [e]
          exact ⟨hX, ofX (by omega)⟩
        · by_cases e2 : z = D.Y t
          · rw [e2]
            refine ⟨hY, ?_⟩
            have h2 := (hx' (D.X t) (by omega)).2
            rwa [r.done t h (r.su t h hs.1)] at h2
          · exact els z (by omega) e
      · by_cases e : z = D.X t
        · rw [e] at hz ⊢
          exact ⟨hX, ofX hz⟩
        · exact els z hz e
    · rename_i hl
      split at hz
      · exact els z (by omega) (by omega)
      · by_cases e : z = D.X t
        · rw [e] at hz ⊢
          have h1 := hx' (D.X t + 1) (by omega)
          refine ⟨hX, ?_⟩
          have h2 := h1.2
          rw [r.else_ t _ h h1.1 (by omega)] at h2
          have := r.up P (Nat.le_of_lt h) hX h1.1 (Nat.le_succ _)
          omega
        · exact els z hz e
theorem Fst.hold (P : D.Pl) (r : Run D d st) (tr : True' D st) {x : Fd} (h : D.Fst x) : D.Hold st x := by
  rcases h with ⟨b, hb, rfl⟩ | ⟨f, hf, rfl⟩
  · intro z hz
    have hz' : z < b := hz
    refine ⟨by omega, ?_⟩
    show st 0 z < b
    rw [r.first z (by omega)]
    exact hz'
  · have fin := P.O.fin f hf
    intro z hz
    have hz' : z < f.2.1 + 1 := hz
    refine ⟨by omega, ?_⟩
    have := r.up P fin.1 (show z < D.n by omega) fin.2.1 (by omega)
    rw [tr f hf] at this
    exact Nat.lt_succ_of_le this
theorem Reach.hold (P : D.Pl) (r : Run D d st) (tr : True' D st) {x : Fd} (h : D.Reach x) : D.Hold st x := by
  induction h with
  | first h => exact h.hold P r tr
  | next h g ih => exact g.hold P r tr (h.box P) ih
theorem Den.no (P : D.Pl) (r : Run D d st) (tr : True' D st) {x : Fd} (h : D.Den x) (hx : D.Hold st x) : False := by
  rcases h with ⟨e, h⟩ | ⟨f, hf, e1, e2, h⟩
  · have := hx x.2.1 h
    rw [e, r.first _ this.1] at this
    exact Nat.lt_irrefl _ this.2
  · have := (hx f.2.1 h).2
    rw [← e1, tr f hf, e2] at this
    exact Nat.lt_irrefl _ this
/-! #### what finds say of spans, bounds say -/
def RG (D : Spn) (t b k : Nat) : Prop := ∃ c, k ≤ c ∧ D.Reach (t, b, c)
theorem RG.le {t b k k' : Nat} (h : D.RG t b k) (l : k' ≤ k) : D.RG t b k' := by
  obtain ⟨c, h1, h2⟩ := h
  exact ⟨c, by omega, h2⟩
theorem RG.raise {t b k : Nat} (h : D.RG t b k) : ∀ {j : Nat}, b + j ≤ D.n → D.RG t (b + j) k
  | 0, _ => h
  | j + 1, hj => by
    obtain ⟨c, h1, h2⟩ := h.raise (j := j) (by omega)
    exact ⟨c, h1, .next h2 (.up (by omega))⟩
theorem RG.on (P : D.Pl) {t b z : Nat} (h : D.RG t b (z + 1)) (ht : t < D.m) (hz : z ≠ D.X t) : D.RG (t + 1) b (z + 1) := by
  obtain ⟨c, h1, h2⟩ := h
  refine ⟨_, ?_, .next h2 (.on ht)⟩
  have hxy := P.xy ht
  unfold mvOn
  split
  · split <;> omega
  · split <;> omega
theorem RG.bk (P : D.Pl) {t b z : Nat} (h : D.RG (t + 1) b (z + 1)) (ht : t < D.m) (hz : z ≠ D.X t) : D.RG t b (z + 1) := by
  obtain ⟨c, h1, h2⟩ := h
  refine ⟨_, ?_, .next h2 (.bk ht)⟩
  have hxy := P.xy ht
  unfold mvBk
  split
  · split <;> omega
  · split <;> omega
def owner (D : Spn) (s : Nat) : Nat := if s < D.n then s else D.X (s - D.n)
theorem th_owner : ∀ {t z : Nat}, z < D.n → D.owner (D.th t z) = z
  | 0, z, h => by
    show D.owner z = z
    unfold owner
    rw [if_pos h]
  | t + 1, z, h => by
    by_cases e : z = D.X t
    · rw [e, th_new]
      unfold owner
      rw [if_neg (by omega), Nat.add_sub_cancel_left]
    · rw [th_old e]
      exact th_owner h
/-- all through the life of a span -/
theorem RG.life (P : D.Pl) {b z : Nat} (hz : z < D.n) {t : Nat} : ∀ {k : Nat}, t + k ≤ D.m → D.th t z = D.th (t + k) z → (D.RG t b (z + 1) ↔ D.RG (t + k) b (z + 1))
  | 0, _, _ => Iff.rfl
  | k + 1, h, e => by
    have hne : z ≠ D.X (t + k) := fun q => by
      have e2 : D.th (t + (k + 1)) z = D.n + (t + k) := by
        rw [q]
        exact th_new (t := t + k)
      rw [e2] at e
      have := th_lt (D := D) (t := t) hz
      omega
    have e3 : D.th (t + (k + 1)) z = D.th (t + k) z := th_old (t := t + k) hne
    rw [e3] at e
    refine (RG.life P hz (by omega) e).trans ⟨fun q => q.on P (by omega) hne, fun q => ?_⟩
    exact RG.bk P (t := t + k) q (by omega) hne
theorem RG.all (P : D.Pl) {s b t0 z0 : Nat} (ht : t0 ≤ D.m) (hz : z0 < D.n) (e : D.th t0 z0 = s) (h : D.RG t0 b (z0 + 1)) : ∀ {t z : Nat}, t ≤ D.m → z < D.n → D.th t z = s → D.RG t b (z + 1) := fun {t z} ht' hz' e' => by
  have ez : z = z0 := by
    rw [← th_owner (t := t) hz', e', ← e, th_owner hz]
  subst ez
  rcases Nat.le_total t t0 with hl | hl
  · obtain ⟨k, rfl⟩ : ∃ k, t0 = t + k := ⟨t0 - t, by omega⟩
    exact (RG.life P hz ht (by rw [e', e])).mpr h
  · obtain ⟨k, rfl⟩ : ∃ k, t = t0 + k := ⟨t - t0, by omega⟩
    exact (RG.life P hz ht' (by rw [e', e])).mp h
theorem Der.reach (P : D.Pl) {s v : Nat} (h : D.Der s v) : ∀ {t z : Nat}, t ≤ D.m → z < D.n → D.th t z = s → D.RG t (v + 1) (z + 1) := by
  induction h with
  | @most s v h =>
    rcases h with ⟨h, e⟩ | ⟨f, hf, e, e2⟩
    · rw [P.id] at e
      subst e
      exact fun {t z} => RG.all P (t0 := 0) (Nat.zero_le _) h rfl ⟨v + 1, Nat.le_refl _, .first (.inl ⟨v + 1, h, rfl⟩)⟩
    · have fin := P.O.fin f hf
      rw [P.id] at e2
      subst e2
      exact fun {t z} => RG.all P fin.1 fin.2.1 e.symm ⟨f.2.1 + 1, Nat.le_refl _, .first (.inr ⟨f, hf, rfl⟩)⟩
  | @near s g v h r ih =>
    cases r with
    | @up t ht e =>
      rw [P.id, P.id] at e
      have hX := P.O.hX t ht
      obtain ⟨c, h1, h2⟩ := ih ht hX th_new
      exact fun {t' z} => RG.all P (Nat.le_of_lt ht) hX rfl ⟨_, by unfold mvBk; rw [if_pos (by omega)]; split <;> omega, .next h2 (.bk ht)⟩
    | @upS t ht e hs =>
      rw [P.id, P.id] at e
      have hX := P.O.hX t ht
      have hY := P.O.hY t ht
      obtain ⟨c, h1, h2⟩ := ih ht hX th_new
      exact fun {t' z} => RG.all P (Nat.le_of_lt ht) hY rfl ⟨_, by
        unfold mvBk
        rw [if_pos (by omega)]
        split
        · omega
        · rename_i hc
          have : c ≠ D.Y t := fun q => hc ⟨hs, q⟩
          omega, .next h2 (.bk ht)⟩
    | @dn t ht e =>
      rw [P.id, P.id] at e
      have hX := P.O.hX t ht
      obtain ⟨c, h1, h2⟩ := ih (Nat.le_of_lt ht) hX rfl
      exact fun {t' z} => RG.all P ht hX th_new ⟨_, by unfold mvOn; rw [if_neg (by omega)]; split <;> omega, .next h2 (.on ht)⟩
    | @dnS t ht e hs =>
      rw [P.id, P.id] at e
      have hX := P.O.hX t ht
      have hY := P.O.hY t ht
      obtain ⟨c, h1, h2⟩ := ih (Nat.le_of_lt ht) hY rfl
      exact fun {t' z} => RG.all P ht hX th_new ⟨_, by
        unfold mvOn
        rw [if_neg (by omega)]
        split
        · omega
        · rename_i hc
          have : c ≠ D.X t := fun q => hc ⟨hs, q⟩
          omega, .next h2 (.on ht)⟩
    | @lo t z ht hz e =>
      rw [P.id, P.id] at e
      have hX := P.O.hX t ht
      obtain ⟨c, h1, h2⟩ := ih ht hX th_new
      exact fun {t' z'} => RG.all P ht hz (th_old (by omega)) ⟨c, by omega, h2⟩
    | @hi t z ht hz e =>
      rw [P.id, P.id] at e
      have hX := P.O.hX t ht
      obtain ⟨c, h1, h2⟩ := ih (t := t + 1) ht hz (th_old (by omega))
      exact fun {t' z'} => RG.all P ht hX th_new ⟨c, by omega, h2⟩
  | @apart a b u v mu h r l sh ih =>
    have hv := sh.lt P.O
    have sh' : ∀ {t : Nat}, t ≤ mu → D.Sh v t := fun h => sh.down h
    have key : ∀ {t z z' : Nat}, z' = z + 1 → t ≤ mu → D.RG t (u + 1) (z + 1) → D.RG t (v + 1) (z' + 1) := fun {t z z'} e hm hr => by
      subst e
      obtain ⟨c, h1, h2⟩ := RG.raise (j := v - (u + 1)) hr (by omega)
      rw [show u + 1 + (v - (u + 1)) = v by omega] at h2
      exact ⟨c + 1, by omega, .next h2 (.over hv (sh' hm))⟩
    cases r with
    | @lo t z ht hz e =>
      rw [P.id, P.id] at e
      have hX := P.O.hX t ht
      have := ih (t := t + 1) ht hz (th_old (by omega))
      exact fun {t' z'} => RG.all P ht hX th_new (key e (Nat.le_refl _) this)
    | @hi t z ht hz e =>
      rw [P.id, P.id] at e
      have hX := P.O.hX t ht
      have := ih (t := t + 1) ht hX th_new
      exact fun {t' z'} => RG.all P ht hz (th_old (by omega)) (key e (Nat.le_refl _) this)
/-- where finds do not fit, a bound that is reached is denied -/
theorem deny (P : D.Pl) (G : D.IsG F) (h : ¬ D.Fit F) : ∃ x, D.Reach x ∧ D.Den x := by
  have h' : ∃ s v, D.M s v ∧ F s < v := by
    rcases Classical.em (∃ s v, D.M s v ∧ F s < v) with q | q
    · exact q
    · exact absurd (fun s v hm => by
        rcases Nat.lt_or_ge (F s) v with hl | hl
        · exact absurd ⟨s, v, hm, hl⟩ q
        · exact hl) h
  obtain ⟨s, v, hm, hl⟩ := h'
  rcases hm with ⟨hs, e⟩ | ⟨f, hf, e, e2⟩
  · rw [P.id] at e
    subst e
    obtain ⟨c, h1, h2⟩ := (G.der v (by omega)).reach P (Nat.zero_le _) hs rfl
    exact ⟨_, h2, .inl ⟨rfl, by show F v + 1 < c; omega⟩⟩
  · rw [P.id] at e2
    subst e2
    have fin := P.O.fin f hf
    obtain ⟨c, h1, h2⟩ := RG.raise (j := f.2.2 - (F s + 1)) ((G.der s (by omega)).reach P fin.1 fin.2.1 e.symm) (by omega)
    exact ⟨_, h2, .inr ⟨f, hf, rfl, by show f.2.2 = F s + 1 + (f.2.2 - (F s + 1)); omega, by show f.2.1 < c; omega⟩⟩
theorem deny_iff (P : D.Pl) (G : D.IsG F) : (∃ x, D.Reach x ∧ D.Den x) ↔ ¬ D.Fit F := by
  constructor
  · rintro ⟨x, h1, h2⟩ hf
    exact h2.no P (G_run P.O G hf) (G_true P.O G hf) (h1.hold P (G_run P.O G hf) (G_true P.O G hf))
  · exact deny P G
/-! #### a search that follows greatest cuts alone -/
def Dom (E : Fd → Prop) (x : Fd) : Prop := ∃ g, x.2.2 ≤ g ∧ E (x.1, x.2.1, g)
theorem mvOn_mono (P : D.Pl) {t c g : Nat} (ht : t < D.m) (h : c ≤ g) : D.mvOn t c ≤ D.mvOn t g := by
  have hxy := P.xy ht
  unfold mvOn
  split
  · split <;> split <;> omega
  · rename_i hl
    split
    · rename_i h1
      split
      · exact Nat.le_refl _
      · rename_i h2
        have : g ≠ D.X t := fun q => h2 ⟨h1.1, q⟩
        omega
    · split <;> omega
theorem mvBk_mono (P : D.Pl) {t c g : Nat} (ht : t < D.m) (h : c ≤ g) : D.mvBk t c ≤ D.mvBk t g := by
  have hxy := P.xy ht
  unfold mvBk
  split
  · rename_i hl
    split
    · rename_i h1
      split
      · exact Nat.le_refl _
      · rename_i h2
        have : g ≠ D.Y t := fun q => h2 ⟨h1.1, q⟩
        omega
    · split <;> omega
  · split <;> split <;> omega
theorem Nx.mono (P : D.Pl) {x y : Fd} {g : Nat} (h : D.Nx x y) (hg : x.2.2 ≤ g) : ∃ y', D.Nx (x.1, x.2.1, g) y' ∧ y'.1 = y.1 ∧ y'.2.1 = y.2.1 ∧ y.2.2 ≤ y'.2.2 := by
  cases h with
  | up h => exact ⟨_, .up h, rfl, rfl, hg⟩
  | over h s => exact ⟨_, .over h s, rfl, rfl, Nat.succ_le_succ hg⟩
  | on h => exact ⟨_, .on h, rfl, rfl, mvOn_mono P h hg⟩
  | bk h => exact ⟨_, .bk h, rfl, rfl, mvBk_mono P h hg⟩
theorem dom_all (P : D.Pl) {E : Fd → Prop} (h1 : ∀ x, D.Fst x → Dom E x) (h2 : ∀ x, E x → ∀ y, D.Nx x y → Dom E y) {x : Fd} (h : D.Reach x) : Dom E x := by
  induction h with
  | first h => exact h1 _ h
  | @next x y h g ih =>
    obtain ⟨c, l, e⟩ := ih
    obtain ⟨y', n, e1, e2, l2⟩ := g.mono P l
    obtain ⟨c2, l3, e3⟩ := h2 _ e _ n
    refine ⟨c2, by omega, ?_⟩
    rw [← e1, ← e2]
    exact e3
theorem Den.mono {x : Fd} {g : Nat} (h : D.Den x) (hg : x.2.2 ≤ g) : D.Den (x.1, x.2.1, g) := by
  rcases h with ⟨e, h⟩ | ⟨f, hf, e1, e2, h⟩
  · exact .inl ⟨e, by show x.2.1 < g; omega⟩
  · exact .inr ⟨f, hf, e1, e2, by show f.2.1 < g; omega⟩
theorem none_denied (P : D.Pl) {E : Fd → Prop} (h1 : ∀ x, D.Fst x → Dom E x) (h2 : ∀ x, E x → ∀ y, D.Nx x y → Dom E y) (h3 : ∀ x, E x → ¬ D.Den x) : ¬ ∃ x, D.Reach x ∧ D.Den x := by
  rintro ⟨x, r, q⟩
  obtain ⟨g, l, e⟩ := dom_all P h1 h2 r
  exact h3 _ e (q.mono l)
end
end Spn
end Pf

namespace Pf
/-! ### the search for a chain, step by step: a queue, what each bound came from, the greatest cuts -/
structure Sr where
  qs : List Fd
  ah : Fd → Option (Option Fd)
  gr : Nat → Nat → Option Nat
namespace Sr
def put (S : Sr) (b y : Fd) : Sr := if (S.ah y).isSome = true then S else ⟨S.qs ++ [y], fun z => if z = y then some (some b) else S.ah z, S.gr⟩
def skip (S : Sr) (b : Fd) : Bool := match S.gr b.1 b.2.1 with
  | none => false
  | some g => decide (b.2.2 ≤ g)
def mark (S : Sr) (b : Fd) : Sr := ⟨S.qs, S.ah, fun t c => if t = b.1 ∧ c = b.2.1 then some b.2.2 else S.gr t c⟩
def stp (nx : Fd → List Fd) (S : Sr) (b : Fd) : Sr := if S.skip b = true then S else (nx b).foldl (fun S y => S.put b y) (S.mark b)
def first (f0 : List Fd) : Sr := ⟨f0, fun z => if z ∈ f0 then some none else none, fun _ _ => none⟩
/-- behind k turns -/
def sit (nx : Fd → List Fd) (f0 : List Fd) : Nat → Sr
  | 0 => first f0
  | k + 1 => match (sit nx f0 k).qs[k]? with
    | some b => stp nx (sit nx f0 k) b
    | none => sit nx f0 k
theorem sit_succ {nx : Fd → List Fd} {f0 : List Fd} {k : Nat} {b : Fd} (h : (sit nx f0 k).qs[k]? = some b) : sit nx f0 (k + 1) = stp nx (sit nx f0 k) b := by
  show (match (sit nx f0 k).qs[k]? with | some b => stp nx (sit nx f0 k) b | none => sit nx f0 k) = _
  rw [h]
/-- what is so all along -/
structure Fine (nx : Fd → List Fd) (f0 : List Fd) (Bx : Fd → Prop) (S : Sr) : Prop where
  pre : ∃ ext, S.qs = f0 ++ ext ∧ ext.Nodup ∧ ∀ x ∈ ext, x ∉ f0
  key : ∀ x, x ∈ S.qs ↔ (S.ah x).isSome = true
  fst : ∀ x, S.ah x = some none ↔ x ∈ f0
  par : ∀ x p, S.ah x = some (some p) → x ∈ nx p ∧ p ∈ S.qs ∧ S.qs.idxOf p < S.qs.idxOf x
  box : ∀ x ∈ S.qs, Bx x
section
variable {nx : Fd → List Fd} {f0 : List Fd} {Bx : Fd → Prop} {den : Fd → Bool} {S : Sr} {b y : Fd}
theorem put_old (h : (S.ah y).isSome = true) : S.put b y = S := if_pos h
theorem put_new (h : (S.ah y).isSome = false) : S.put b y = ⟨S.qs ++ [y], fun z => if z = y then some (some b) else S.ah z, S.gr⟩ := if_neg (by rw [h]; exact Bool.false_ne_true)
theorem put_gr : (S.put b y).gr = S.gr := by
  unfold put
  split <;> rfl
theorem Fine.put (F : Fine nx f0 Bx S) (hb : b ∈ S.qs) (hy : y ∈ nx b) (hB : Bx y) : Fine nx f0 Bx (S.put b y) ∧ y ∈ (S.put b y).qs ∧ ∃ more, (S.put b y).qs = S.qs ++ more := by
  cases h : (S.ah y).isSome with
  | true =>
    rw [put_old h]
    exact ⟨F, (F.key y).mpr h, [], (List.append_nil _).symm⟩
  | false =>
    rw [put_new h]
    have ny : y ∉ S.qs := fun q => by
      have := (F.key y).mp q
      rw [h] at this
      cases this
    obtain ⟨ext, e1, e2, e3⟩ := F.pre
    have nf : y ∉ f0 := fun q => ny (by rw [e1]; exact List.mem_append_left _ q)
    have ix : ∀ x ∈ S.qs, (S.qs ++ [y]).idxOf x = S.qs.idxOf x := fun x hx => by rw [List.idxOf_append, if_pos hx]
    refine ⟨⟨⟨ext ++ [y], by show S.qs ++ [y] = _; rw [e1, List.append_assoc], ?_, ?_⟩, fun x => ?_, fun x => ?_, fun x p hp => ?_, fun x hx => ?_⟩, List.mem_append_right _ (List.mem_singleton.mpr rfl), [y], rfl⟩
    · refine List.nodup_append.mpr ⟨e2, List.pairwise_singleton _ _, fun u hu v hv e => ?_⟩
      rw [List.mem_singleton.mp hv] at e
      exact ny (by rw [e1, ← e]; exact List.mem_append_right _ hu)
    · intro x hx
      rcases List.mem_append.mp hx with hx | hx
      · exact e3 x hx
      · rw [List.mem_singleton.mp hx]
        exact nf
    · show x ∈ S.qs ++ [y] ↔ (if x = y then some (some b) else S.ah x).isSome = true
      rw [List.mem_append, List.mem_singleton]
      by_cases e : x = y
      · rw [if_pos e]
        exact ⟨fun _ => rfl, fun _ => .inr e⟩
      · rw [if_neg e, ← F.key x]
        exact ⟨fun q => q.resolve_right e, .inl⟩
    · show (if x = y then some (some b) else S.ah x) = some none ↔ x ∈ f0
      by_cases e : x = y
      · rw [if_pos e, e]
        exact ⟨fun q => (nomatch q), fun q => absurd q nf⟩
      · rw [if_neg e]
        exact F.fst x
    · have hp' : (if x = y then some (some b) else S.ah x) = some (some p) := hp
      by_cases e : x = y
      · rw [if_pos e] at hp'
        cases hp'
        subst e
        refine ⟨hy, List.mem_append_left _ hb, ?_⟩
        show (S.qs ++ [x]).idxOf b < (S.qs ++ [x]).idxOf x
        rw [ix b hb, List.idxOf_append, if_neg ny]
        have := List.idxOf_lt_length_of_mem hb
        omega
      · rw [if_neg e] at hp'
        obtain ⟨h1, h2, h3⟩ := F.par x p hp'
        have hx : x ∈ S.qs := (F.key x).mpr (by rw [hp']; rfl)
        refine ⟨h1, List.mem_append_left _ h2, ?_⟩
        show (S.qs ++ [y]).idxOf p < (S.qs ++ [y]).idxOf x
        rw [ix p h2, ix x hx]
        exact h3
    · rcases List.mem_append.mp hx with hx | hx
      · exact F.box x hx
      · rw [List.mem_singleton.mp hx]
        exact hB
theorem fold_fine (hB : ∀ x, Bx x → ∀ y ∈ nx x, Bx y) : ∀ (ys : List Fd) (S : Sr), Fine nx f0 Bx S → b ∈ S.qs → (∀ y ∈ ys, y ∈ nx b) →
    Fine nx f0 Bx (ys.foldl (fun S y => S.put b y) S) ∧ (∀ y ∈ ys, y ∈ (ys.foldl (fun S y => S.put b y) S).qs) ∧ (∃ more, (ys.foldl (fun S y => S.put b y) S).qs = S.qs ++ more) ∧ (ys.foldl (fun S y => S.put b y) S).gr = S.gr
  | [], S, F, _, _ => ⟨F, (fun y h => nomatch h), ⟨[], (List.append_nil _).symm⟩, rfl⟩
  | y :: ys, S, F, hb, hy => by
    obtain ⟨F1, h1, m1, e1⟩ := F.put hb (hy y (List.mem_cons_self ..)) (hB b (F.box b hb) y (hy y (List.mem_cons_self ..)))
    have hb1 : b ∈ (S.put b y).qs := by rw [e1]; exact List.mem_append_left _ hb
    obtain ⟨F2, h2, ⟨m2, e2⟩, g2⟩ := fold_fine hB ys (S.put b y) F1 hb1 (fun z hz => hy z (List.mem_cons_of_mem _ hz))
    rw [List.foldl_cons]
    refine ⟨F2, fun z hz => ?_, ⟨m1 ++ m2, by rw [e2, e1, List.append_assoc]⟩, by rw [g2, put_gr]⟩
    rcases List.mem_cons.mp hz with rfl | hz
    · rw [e2]
      exact List.mem_append_left _ h1
    · exact h2 z hz
/-- .. and of the bounds that were followed -/
structure Exp (nx : Fd → List Fd) (den : Fd → Bool) (k : Nat) (S : Sr) (E : Fd → Prop) : Prop where
  ex : ∀ x, E x → den x = false ∧ ∀ y ∈ nx x, y ∈ S.qs
  gr : ∀ t c g, S.gr t c = some g → E (t, c, g)
  past : ∀ j x, j < k → S.qs[j]? = some x → den x = false ∧ Spn.Dom E x
theorem first_fine (h0 : ∀ x ∈ f0, Bx x) : Fine nx f0 Bx (first f0) := by
  refine ⟨⟨[], (List.append_nil _).symm, List.nodup_nil, (fun x h => nomatch h)⟩, fun x => ?_, fun x => ?_, fun x p h => ?_, h0⟩
  · show x ∈ f0 ↔ (if x ∈ f0 then some none else none : Option (Option Fd)).isSome = true
    split
    · rename_i h
      exact ⟨fun _ => rfl, fun _ => h⟩
    · rename_i h
      exact ⟨(fun q => absurd q h), (fun q => nomatch q)⟩
  · show (if x ∈ f0 then some none else none : Option (Option Fd)) = some none ↔ x ∈ f0
    split
    · rename_i h
      exact ⟨fun _ => h, fun _ => rfl⟩
    · rename_i h
      exact ⟨(fun q => nomatch q), (fun q => absurd q h)⟩
  · have h' : (if x ∈ f0 then some none else none : Option (Option Fd)) = some (some p) := h
    split at h' <;> cases h'
theorem first_exp : Exp nx den 0 (first f0) (fun _ => False) := ⟨(fun x h => h.elim), (fun t c g h => nomatch h), (fun j x h => absurd h (Nat.not_lt_zero _))⟩
theorem stp_all (hB : ∀ x, Bx x → ∀ y ∈ nx x, Bx y) {k : Nat} {E : Fd → Prop} (F : Fine nx f0 Bx S) (X : Exp nx den k S E) (hk : S.qs[k]? = some b) (hd : den b = false) :
    Fine nx f0 Bx (S.stp nx b) ∧ (∃ E', Exp nx den (k + 1) (S.stp nx b) E') ∧ ∃ more, (S.stp nx b).qs = S.qs ++ more := by
  have hkl : k < S.qs.length := (List.getElem?_eq_some_iff.mp hk).1
  unfold stp
  cases hs : S.skip b with
  | true =>
    rw [if_pos rfl]
    refine ⟨F, ⟨E, X.ex, X.gr, fun j x hj hx => ?_⟩, [], (List.append_nil _).symm⟩
    rcases Nat.lt_or_ge j k with h | h
    · exact X.past j x h hx
    · have ej : j = k := by omega
      rw [ej, hk] at hx
      cases hx
      refine ⟨hd, ?_⟩
      unfold skip at hs
      cases hg : S.gr b.1 b.2.1 with
      | none => rw [hg] at hs; cases hs
      | some g =>
        rw [hg] at hs
        exact ⟨g, of_decide_eq_true hs, X.gr _ _ _ hg⟩
  | false =>
    rw [if_neg Bool.false_ne_true]
    have hb : b ∈ S.qs := List.mem_of_getElem? hk
    have Fm : Fine nx f0 Bx (S.mark b) := ⟨F.pre, F.key, F.fst, F.par, F.box⟩
    obtain ⟨F1, h1, ⟨more, e1⟩, g1⟩ := fold_fine hB (nx b) (S.mark b) Fm hb (fun y hy => hy)
    have e1' : ((nx b).foldl (fun S y => S.put b y) (S.mark b)).qs = S.qs ++ more := e1
    refine ⟨F1, ⟨fun x => E x ∨ x = b, fun x hx => ?_, fun t c g hg => ?_, fun j x hj hx => ?_⟩, more, e1'⟩
    · rcases hx with hx | rfl
      · refine ⟨(X.ex x hx).1, fun y hy => ?_⟩
        rw [e1']
        exact List.mem_append_left _ ((X.ex x hx).2 y hy)
      · exact ⟨hd, h1⟩
    · rw [g1] at hg
      have hg' : (if t = b.1 ∧ c = b.2.1 then some b.2.2 else S.gr t c) = some g := hg
      split at hg'
      · rename_i h
        cases hg'
        right
        rw [h.1, h.2]
      · exact .inl (X.gr t c g hg')
    · rw [e1'] at hx
      rcases Nat.lt_or_ge j k with h | h
      · rw [List.getElem?_append_left (by omega)] at hx
        obtain ⟨q1, g, q2, q3⟩ := X.past j x h hx
        exact ⟨q1, g, q2, .inl q3⟩
      · have ej : j = k := by omega
        rw [ej, List.getElem?_append_left hkl, hk] at hx
        cases hx
        exact ⟨hd, b.2.2, Nat.le_refl _, .inr rfl⟩
/-- up to turn k no bound was denied -/
def Clean (nx : Fd → List Fd) (f0 : List Fd) (den : Fd → Bool) (k : Nat) : Prop := ∀ j, j < k → ∃ b, (sit nx f0 j).qs[j]? = some b ∧ den b = false
theorem sit_all (h0 : ∀ x ∈ f0, Bx x) (hB : ∀ x, Bx x → ∀ y ∈ nx x, Bx y) : ∀ k, Clean nx f0 den k → Fine nx f0 Bx (sit nx f0 k) ∧ ∃ E, Exp nx den k (sit nx f0 k) E
  | 0, _ => ⟨first_fine h0, _, first_exp⟩
  | k + 1, h => by
    obtain ⟨F, E, X⟩ := sit_all h0 hB k (fun j hj => h j (by omega))
    obtain ⟨b, h1, h2⟩ := h k (Nat.lt_succ_self _)
    rw [sit_succ h1]
    obtain ⟨F1, X1, _⟩ := stp_all hB F X h1 h2
    exact ⟨F1, X1⟩
/-- how long the queue can be -/
theorem Fine.len (F : Fine nx f0 Bx S) {box : List Fd} (h : ∀ x, Bx x → x ∈ box) : S.qs.length ≤ f0.length + box.length := by
  obtain ⟨ext, e1, e2, e3⟩ := F.pre
  rw [e1, List.length_append]
  have := List.Nodup.length_le_of_subset e2 (l₂ := box) fun x hx => h x (F.box x (by rw [e1]; exact List.mem_append_right _ hx))
  omega
/-! #### back to where a bound came from -/
def back (ah : Fd → Option (Option Fd)) : Nat → Fd → List Fd
  | 0, b => [b]
  | f + 1, b => match ah b with
    | some (some p) => b :: back ah f p
    | _ => [b]
theorem back_more (F : Fine nx f0 Bx S) : ∀ {f f' : Nat} {x : Fd}, S.qs.idxOf x ≤ f → S.qs.idxOf x ≤ f' → back S.ah f x = back S.ah f' x
  | 0, 0, _, _, _ => rfl
  | 0, f' + 1, x, h, _ => by
    show [x] = match S.ah x with | some (some p) => x :: back S.ah f' p | _ => [x]
    match hq : S.ah x with
    | none => rfl
    | some none => rfl
    | some (some p) =>
      have := (F.par x p hq).2.2
      omega
  | f + 1, 0, x, _, h => by
    show (match S.ah x with | some (some p) => x :: back S.ah f p | _ => [x]) = [x]
    match hq : S.ah x with
    | none => rfl
    | some none => rfl
    | some (some p) =>
      have := (F.par x p hq).2.2
      omega
  | f + 1, f' + 1, x, h, h' => by
    show (match S.ah x with | some (some p) => x :: back S.ah f p | _ => [x]) = match S.ah x with | some (some p) => x :: back S.ah f' p | _ => [x]
    match hq : S.ah x with
    | none => rfl
    | some none => rfl
    | some (some p) =>
      have := (F.par x p hq).2.2
      show x :: back S.ah f p = x :: back S.ah f' p
      rw [back_more F (f := f) (f' := f') (by omega) (by omega)]
/-- a walk: from a first bound on, each from the one ahead of it -/
def IsWalk (nx : Fd → List Fd) (f0 : List Fd) (ws : List Fd) : Prop := (∃ x, ws[0]? = some x ∧ x ∈ f0) ∧ ∀ i x y, ws[i]? = some x → ws[i + 1]? = some y → y ∈ nx x
theorem IsWalk.snoc {ws : List Fd} {x y : Fd} (h : IsWalk nx f0 ws) (hx : ws.getLast? = some x) (hy : y ∈ nx x) : IsWalk nx f0 (ws ++ [y]) := by
  obtain ⟨⟨u, h1, h2⟩, h3⟩ := h
  have hl : 0 < ws.length := (List.getElem?_eq_some_iff.mp h1).1
  refine ⟨⟨u, by rw [List.getElem?_append_left hl]; exact h1, h2⟩, fun i p q hp hq => ?_⟩
  rcases Nat.lt_or_ge (i + 1) ws.length with h | h
  · rw [List.getElem?_append_left h] at hq
    rw [List.getElem?_append_left (by omega)] at hp
    exact h3 i p q hp hq
  · rw [List.getElem?_append_right h] at hq
    have hi : i + 1 - ws.length = 0 := by
      rcases Nat.eq_zero_or_pos (i + 1 - ws.length) with e | e
      · exact e
      · rw [List.getElem?_eq_none (by show 1 ≤ _; exact e)] at hq
        cases hq
    rw [hi] at hq
    cases hq
    rw [List.getElem?_append_left (by omega)] at hp
    have e : ws.getLast? = ws[i]? := by
      rw [List.getLast?_eq_getElem?]
      congr 1
      omega
    rw [hx, hp] at e
    cases e
    exact hy
theorem back_last (ah : Fd → Option (Option Fd)) : ∀ (f : Nat) (x : Fd), (back ah f x).reverse.getLast? = some x
  | 0, x => rfl
  | f + 1, x => by
    show (match ah x with | some (some p) => x :: back ah f p | _ => [x]).reverse.getLast? = some x
    match ah x with
    | none => rfl
    | some none => rfl
    | some (some p) =>
      show (x :: back ah f p).reverse.getLast? = some x
      rw [List.reverse_cons, List.getLast?_append]
      rfl
theorem back_walk (F : Fine nx f0 Bx S) : ∀ {f : Nat} {x : Fd}, x ∈ S.qs → S.qs.idxOf x ≤ f → IsWalk nx f0 (back S.ah f x).reverse := by
  intro f
  induction f with
  | zero =>
    intro x hx h
    refine ⟨⟨x, rfl, ?_⟩, fun i p q hp hq => ?_⟩
    · rw [← F.fst x]
      have h1 := (F.key x).mp hx
      match hq : S.ah x with
      | none => rw [hq] at h1; cases h1
      | some none => rfl
      | some (some p) =>
        have := (F.par x p hq).2.2
        omega
    · have : ([x] : List Fd)[i + 1]? = some q := hq
      rw [List.getElem?_eq_none (by show 1 ≤ i + 1; omega)] at this
      cases this
  | succ f ih =>
    intro x hx h
    have h1 := (F.key x).mp hx
    show IsWalk nx f0 (match S.ah x with | some (some p) => x :: back S.ah f p | _ => [x]).reverse
    match hq : S.ah x with
    | none => rw [hq] at h1; cases h1
    | some none =>
      refine ⟨⟨x, rfl, (F.fst x).mp hq⟩, fun i p q hp hq => ?_⟩
      have : ([x] : List Fd)[i + 1]? = some q := hq
      rw [List.getElem?_eq_none (by show 1 ≤ i + 1; omega)] at this
      cases this
    | some (some p) =>
      obtain ⟨e1, e2, e3⟩ := F.par x p hq
      show IsWalk nx f0 (x :: back S.ah f p).reverse
      rw [List.reverse_cons]
      exact IsWalk.snoc (ih e2 (by omega)) (back_last _ _ _) e1
/-! #### what the search tells -/
def Told (nx : Fd → List Fd) (f0 : List Fd) (den : Fd → Bool) (r : Option (List Fd)) : Prop := ∃ k, Clean nx f0 den k ∧
  ((k = (sit nx f0 k).qs.length ∧ r = none) ∨ ∃ b, (sit nx f0 k).qs[k]? = some b ∧ den b = true ∧ r = some (back (sit nx f0 k).ah (sit nx f0 k).qs.length b).reverse)
theorem Told.uniq {r r' : Option (List Fd)} (h : Told nx f0 den r) (h' : Told nx f0 den r') : r = r' := by
  obtain ⟨k, c, h⟩ := h
  obtain ⟨k', c', h'⟩ := h'
  have lt : ∀ {k k' : Nat} {r : Option (List Fd)}, ((k = (sit nx f0 k).qs.length ∧ r = none) ∨ ∃ b, (sit nx f0 k).qs[k]? = some b ∧ den b = true ∧ r = some (back (sit nx f0 k).ah (sit nx f0 k).qs.length b).reverse) → Clean nx f0 den k' → ¬ k < k' := fun {k k' r} h c' l => by
    obtain ⟨b, h1, h2⟩ := c' k l
    rcases h with ⟨e, _⟩ | ⟨b', e1, e2, _⟩
    · rw [List.getElem?_eq_none (by omega)] at h1
      cases h1
    · rw [h1] at e1
      cases e1
      rw [h2] at e2
      cases e2
  have ek : k = k' := by
    have := lt h c'
    have := lt h' c
    omega
  subst ek
  rcases h with ⟨e1, e2⟩ | ⟨b, e1, e2, e3⟩ <;> rcases h' with ⟨d1, d2⟩ | ⟨b', d1, d2, d3⟩
  · rw [e2, d2]
  · rw [List.getElem?_eq_none (by omega)] at d1
    cases d1
  · rw [List.getElem?_eq_none (by omega)] at e1
    cases e1
  · rw [e1] at d1
    cases d1
    rw [e3, d3]
theorem Told.walk (h0 : ∀ x ∈ f0, Bx x) (hB : ∀ x, Bx x → ∀ y ∈ nx x, Bx y) {ws : List Fd} (h : Told nx f0 den (some ws)) : IsWalk nx f0 ws ∧ ∃ b, ws.getLast? = some b ∧ den b = true := by
  obtain ⟨k, c, h⟩ := h
  obtain ⟨F, _⟩ := sit_all h0 hB k c
  rcases h with ⟨_, e⟩ | ⟨b, e1, e2, e3⟩
  · cases e
  · cases e3
    have hb := List.mem_of_getElem? e1
    exact ⟨back_walk F hb (Nat.le_of_lt (List.idxOf_lt_length_of_mem hb)), b, back_last _ _ _, e2⟩
theorem Told.none (h0 : ∀ x ∈ f0, Bx x) (hB : ∀ x, Bx x → ∀ y ∈ nx x, Bx y) (h : Told nx f0 den none) : ∃ E : Fd → Prop, (∀ x ∈ f0, Spn.Dom E x) ∧ (∀ x, E x → ∀ y ∈ nx x, Spn.Dom E y) ∧ ∀ x, E x → den x = false := by
  obtain ⟨k, c, h⟩ := h
  obtain ⟨F, E, X⟩ := sit_all h0 hB k c
  rcases h with ⟨e, _⟩ | ⟨b, _, _, e⟩
  · have all : ∀ x ∈ (sit nx f0 k).qs, Spn.Dom E x := fun x hx => by
      obtain ⟨j, hj⟩ := List.getElem?_of_mem hx
      have := (List.getElem?_eq_some_iff.mp hj).1
      exact (X.past j x (by omega) hj).2
    obtain ⟨ext, e1, _⟩ := F.pre
    exact ⟨E, fun x hx => all x (by rw [e1]; exact List.mem_append_left _ hx), fun x hx y hy => all y ((X.ex x hx).2 y hy), fun x hx => (X.ex x hx).1⟩
  · cases e
end
end Sr
end Pf

namespace Pf
open PySem PySem.Spec PyProof.Rows L2
/-! ### a dict comprehension whose keys are tuples -/
section
variable {X : Cx}
theorem dT_set {ps : List (Addr × Obj)} {τ : L2.St} {G : Hp} {z : Shared} {E : Value → Shared → Prop} {D b : Addr} {kvs : List (List Key × V)} {k : List Key} {v : V} {u r : Value} {Q : Unit → Shared → Prop} (hu : X.A.units + 1 < cLine) (J : Inv X ps τ G z) (hD : G D = some (.dT kvs)) (hb : G b = some (.tup (k.map kV))) (hz : kvs.length < sizeLine)
    (ry : RelV (.ref b) u) (rv : RelV v r) (h : ∀ z', Inv X ps τ (L2.upd G D (.dT (putK kvs k v))) z' → Q () z') : wpAny (model X.prog X.w) X.A (dictSet D u r) Q E z := by
  cases (show u = Value.ref b from ry)
  obtain ⟨_, hd, xs, rel, dd⟩ := dt_of J.hok hD
  have hx : xs.length ≤ sizeLine := by
    rw [← Paired.length rel]
    exact Nat.le_of_lt hz
  have hl : (putK kvs k v).length ≤ sizeLine := Nat.le_trans (length_putK kvs k v) hz
  refine wpAny_dictSet_heap (hsz := hx) (knd := tupleKind (mixKind X.prog X.w)) (by have h1 : X.A.units + 1 < cLine := hu; first | exact h1 | exact Nat.lt_of_succ_lt h1 | (show X.A.units < cLine; omega)) (key_of J.hok hb) dd fun h' dd' hs => h _ ?_
  obtain ⟨q, es, ep, hq, h2, h3, h4, _, h5⟩ := dd'
  exact d_write J (by rw [hD]; exact True.intro) hs ⟨q, hq⟩ ⟨hl, hd, _, (rel.put k hb rv).keeps fun c ys ec => by rw [upd_ne (ne_of ec hD (fun z => nomatch z))]; exact ec, q, es, ep, hq, h2, h3, h4, h5⟩
/-- {k: v for target in iter if ..}, keys tuples of ints and texts: D the new dict -/
def tDcT (wi : TI) (g : TG) (tt : TT) (tk tv : TE) (vs : List Nat) : TE := fun σ H Q => wi σ H fun J H1 => ∀ D, H1 D = none → ∃ W : Nat → Nat → Hp → Prop, (∃ m, W 0 m (L2.upd H1 D (.dT []))) ∧ ∀ i m H, W i m H →
  (J.stop i H ∧ Q (.ref D) H) ∨ (J.go i H ∧ ∃ Nx : Hp → Prop, (∀ H', Nx H' → ∃ m', m' < m ∧ W (i + 1) m' H') ∧ ∀ x H', J.yld i H x H' → g x (wipe σ vs) H' fun σ2 H2 => wipe σ2 vs = wipe σ vs ∧ tt σ2 H2 fun b H3 =>
    if b = true then tk σ2 H3 fun y H4 => tv σ2 H4 fun z H5 => ∃ (kvs : List (List Key × V)) (k : List Key) (q : Addr), y = .ref q ∧ H5 q = some (.tup (k.map kV)) ∧ H5 D = some (.dT kvs) ∧ kvs.length < sizeLine ∧ Nx (L2.upd H5 D (.dT (putK kvs k z))) else Nx H3)
theorem dcT_core {ps : List (Addr × Obj)} {z : Shared} {σ : L2.St} {G : Hp} {Q : VK} {use : Option (Value → Sem Unit)} {Qf : Value → Shared → Prop} {kx vx tg iter : Expr} {ifs : List Expr} {scope : Scope} {own : List (Str × Nat)} {pos pos' : Pos} {wi : TI} {g : TG} {tt : TT} {tk tv : TE} (hu : X.A.units + 1 < cLine) (hc : X.calm = true) (hN : X.N.Nodup) (J : Inv X ps σ G z) (hi : PI X tg iter wi) (ok : BlkOk X.N X.env.scope scope own)
    (hg : ∀ (s : Shared) (H : Hp) (C : Addr) (cl : List (Str × Addr)) (fp : List Addr), PG (X.blk s H scope (compEnvC scope cl C X.env) fp) tg g)
    (ht : ∀ (s : Shared) (H : Hp) (C : Addr) (cl : List (Str × Addr)) (fp : List Addr), PTs (X.blk s H scope (compEnvC scope cl C X.env) fp) ifs tt)
    (hk : ∀ (s : Shared) (H : Hp) (C : Addr) (cl : List (Str × Addr)) (fp : List Addr), PE (X.blk s H scope (compEnvC scope cl C X.env) fp) kx tk) (he : ∀ (s : Shared) (H : Hp) (C : Addr) (cl : List (Str × Addr)) (fp : List Addr), PE (X.blk s H scope (compEnvC scope cl C X.env) fp) vx tv)
    (hs : ∀ x, foldedSetIterable iter X.env x = pure x) (hh : tDcT wi g tt tk tv (own.map (·.2)) σ G Q) (fine : ∀ D C z' m G', Inv X ps σ G' z' → Q (.ref D) G' → z'.heap.Ns C m → FpOk X ps G' C → compPost (model X.prog X.w) X.A X.xe use Qf (.ref D) C (.ok .next) z') :
    wpAny (model X.prog X.w) X.A (comprehension (.DictComp kx vx [⟨tg, iter, ifs, 0⟩] scope pos) scope X.env pos' newDict false (eval iter X.env) use) Qf X.xe z := by
  have fr : ∀ y ∈ scope.names, y.2 = .free → ∃ c, X.env.cells.lookup y.1 = some c := fun y hy e => (ok.free y hy e).elim (fun q => J.ok.has _ (.inl q)) (fun q => J.ok.has _ (.inr q))
  refine wpAny_comprehension_free (use := use) rfl hs (closure_ok fr) ok.kind (fun y hy e => by rw [ok.uniq y hy, e]) (thn (hi.run ps z σ G _ J hh) fun _ z1 hx => thn hx fun itv z2 h2 => ?_)
  obtain ⟨it, fp, tn, W0, G2, e, J2, T, t2, f2, q⟩ := h2
  subst e
  refine wpAny_newObj_type (newEnv_comp ?_)
  generalize hDD : z2.heap.objs.size = D
  have nD : G2 D = none := J2.hok.fresh (Nat.le_of_eq hDD)
  obtain ⟨W, ⟨m0, w0⟩, turn⟩ := q D nD
  generalize hz3 : ({ z2 with heap := z2.heap.push { cls := .type "dict", data := .dict #[] } } : Shared) = z3
  have J3 : Inv X ps σ (L2.upd G2 D (.dT [])) z3 := by
    rw [← hz3, ← hDD]
    exact J2.laid (t' := z2.toks) (fun b o e => Heap.get?_push_of_some _ e) (Nat.le_refl _) (dt_empty z2.heap J2.big)
  have hp3 : z3.heap = z2.heap.push { cls := .type "dict", data := .dict #[] } := by rw [← hz3]
  have fl : ∀ b ∈ fp, b < z2.heap.objs.size := fun b hb => by
    obtain ⟨o, e, _⟩ := T.obj _ _ t2 b hb
    exact Heap.lt_size e
  have f3 : ∀ b ∈ fp, FpOk X ps (L2.upd G2 D (.dT [])) b ∧ b < z3.heap.objs.size := fun b hb => by
    have l := fl b hb
    refine ⟨⟨by rw [upd_ne (by rw [← hDD]; exact Nat.ne_of_lt l)]; exact (f2 b hb).1, (f2 b hb).2⟩, ?_⟩
    rw [hp3, Heap.size_push]
    exact Nat.lt_succ_of_lt l
  have t3 : tn 0 z3.heap := T.keep _ _ _ t2 fun b _ o e => by
    rw [hp3]
    exact Heap.get?_push_of_some _ e
  have J4 := block_start J3 ok hN f3
  have pg := hg z3 (L2.upd G2 D (.dT [])) z3.heap.objs.size (cellsFrom (z3.heap.objs.size + 1) scope.names (cloFrom X.env.cells scope.names [])) fp
  have pt := ht z3 (L2.upd G2 D (.dT [])) z3.heap.objs.size (cellsFrom (z3.heap.objs.size + 1) scope.names (cloFrom X.env.cells scope.names [])) fp
  have pk := hk z3 (L2.upd G2 D (.dT [])) z3.heap.objs.size (cellsFrom (z3.heap.objs.size + 1) scope.names (cloFrom X.env.cells scope.names [])) fp
  have pv := he z3 (L2.upd G2 D (.dT [])) z3.heap.objs.size (cellsFrom (z3.heap.objs.size + 1) scope.names (cloFrom X.env.cells scope.names [])) fp
  have nfp : ∀ b ∈ fp, (L2.upd G2 D (.dT [])) b = none := fun b hb => (f3 b hb).1.1
  show codeAny _ _ (.compStart (.DictComp kx vx [⟨tg, iter, ifs, 0⟩] scope pos) 0 (.ref it) (.ref D) (compEnvC scope (cellsFrom (z3.heap.objs.size + 1) scope.names (cloFrom X.env.cells scope.names [])) z3.heap.objs.size X.env))
    (compPost (model X.prog X.w) X.A X.xe use Qf (.ref D) z3.heap.objs.size) { z3 with heap := pushCells (z3.heap.push { cls := .type "dict", data := .dict #[] }) scope.names }
  generalize hce : compEnvC scope (cellsFrom (z3.heap.objs.size + 1) scope.names (cloFrom X.env.cells scope.names [])) z3.heap.objs.size X.env = ce at J4 pg pt pk pv ⊢
  have loc : ce.locals = z3.heap.objs.size := by
    subst hce
    rfl
  generalize hG3 : L2.upd G2 D (.dT []) = G3 at J3 J4 pg pt pk pv w0 nfp f3
  generalize hz4 : ({ z3 with heap := pushCells (z3.heap.push { cls := .type "dict", data := .dict #[] }) scope.names } : Shared) = z4 at J4 ⊢
  have t4 : tn 0 z4.heap := T.keep _ _ _ t3 fun b _ o e => by
    rw [← hz4]
    exact pushCells_keeps _ _ _ _ (Heap.get?_push_of_some _ e)
  have own_fp : ∀ {τ : L2.St} {G : Hp} {z : Shared}, Inv (X.blk z3 G3 scope ce fp) [] τ G z → (∀ b ∈ fp, G b = none) → ∀ b ∈ fp, FpOk (X.blk z3 G3 scope ce fp) [] G b := fun {τ G z} I' n b hb =>
    ⟨n b hb, (I'.ok.exf b hb).1, I'.ok.exfs b hb, .inl hb, fun y c e => (I'.ok.exf b hb).2 y c e, fun p hp => by
      have hp' : p ∈ ([] : List (Addr × Obj)) ++ [] := hp
      simp at hp'⟩
  have loop : codeAny (model X.prog X.w) X.A (.compLoop (.DictComp kx vx [⟨tg, iter, ifs, 0⟩] scope pos) 0 (.ref it) (.ref D) ce) (compPost (model X.prog X.w) X.A X.xe use Qf (.ref D) z3.heap.objs.size) z4 := by
    refine compLoop_anyD (fun n z => ∃ i G, Inv (X.blk z3 G3 scope ce fp) [] (wipe σ (own.map (·.2))) G z ∧ tn i z.heap ∧ (∀ b ∈ fp, G b = none) ∧ W i n G) ?_ m0 ⟨0, G3, J4, t4, nfp, w0⟩
    rintro n z5 ⟨i, G5, J5, t5, n5, w5⟩
    rcases turn i n G5 w5 with ⟨stop, qq⟩ | ⟨go, Nx, hNx, step⟩
    · refine thnF (T.done (X.blk z3 G3 scope ce fp) rfl rfl rfl hc i [] z5 _ G5 (fun _ _ => False) J5 (own_fp J5 n5) t5 stop) fun r z6 ⟨hr, J6⟩ => ?_
      subst hr
      have J7 : Inv X ps σ G5 z6 := J3.call' (ch := fp) J6.os J6.base J6.hok J6.bare fun b hb => by
        obtain ⟨⟨_, a1, a2, a3, a4, a5⟩, _⟩ := f3 b hb
        exact ⟨a3, a1, a4, a5⟩
      have nC : G5 z3.heap.objs.size = none := by
        rw [← loc]
        exact J6.free
      obtain ⟨m, hn, _⟩ := J6.loc
      have hn' : z6.heap.Ns z3.heap.objs.size m := by
        rw [← loc]
        exact hn
      exact fine D z3.heap.objs.size z6 m G5 J7 qq hn' (J3.fpOk (Nat.le_refl _) nC)
    · refine thnF (T.item (X.blk z3 G3 scope ce fp) rfl rfl rfl hc i [] z5 _ G5 (fun _ _ => False) J5 (own_fp J5 n5) t5 go) fun r z6 ⟨u, hr, h6⟩ => ?_
      subst hr
      refine thnF h6 fun _ z7 ⟨x, G7, J7, r7, y7, t7, n7⟩ => ?_
      refine thnF (pg.run _ z7 _ G7 x u _ (J7.pinned (own_fp J7 n7) (T.obj _ _ t7)) r7 (step x G7 y7)) fun _ z8 ⟨σ8, G8, J8, hw8, q8⟩ => ?_
      refine thnF (pt.run _ z8 σ8 G8 _ J8 q8) fun b z9 ⟨G9, J9, q9⟩ => ?_
      have fin : ∀ {z' : Shared} {G' : Hp}, Inv (X.blk z3 G3 scope ce fp) ([] ++ pinsAt fp z7.heap) σ8 G' z' → Nx G' → ∃ m, m < n ∧ ∃ i G', Inv (X.blk z3 G3 scope ce fp) [] (wipe σ (own.map (·.2))) G' z' ∧ tn i z'.heap ∧ (∀ b ∈ fp, G' b = none) ∧ W i m G' := fun {z' G'} J' nx => by
        obtain ⟨m', hm, w'⟩ := hNx G' nx
        have pin : ∀ b ∈ fp, ∀ o, z7.heap.get? b = some o → z'.heap.get? b = some o ∧ G' b = none := fun b hb o e => by
          have pz := J'.pin (b, o) (List.mem_append_right _ (List.mem_append_right _ (mem_pinsAt hb e)))
          exact ⟨pz.1, pz.2.1⟩
        have ln : (wipe σ (own.map (·.2))).length = σ8.length := by rw [← hw8, wipe_length]
        refine ⟨m', hm, i + 1, G', (J'.unpinned (pins := [])).weak ln (fun j v e => ?_), T.keep _ _ _ t7 fun b hb o e => (pin b hb o e).1, fun b hb => ?_, w'⟩
        · rw [← hw8] at e
          exact (wipe_some e).1
        · obtain ⟨o, e, _⟩ := T.obj _ _ t7 b hb
          exact (pin b hb o e).2
      cases b with
      | false =>
        simp only [Bool.false_eq_true, if_false] at q9 ⊢
        exact fin J9 q9
      | true =>
        simp only [if_true] at q9 ⊢
        refine thnF (pk.run _ z9 σ8 G9 _ J9 q9) fun _ z10 ⟨yk, G10, J10, r10, q10⟩ => ?_
        refine thnF (pv.run _ z10 σ8 G10 _ J10 q10) fun _ z11 ⟨yv, G11, J11, r11, kvs, k, b, ek, hb11, hD11, hl11, nx⟩ => ?_
        subst ek
        exact dT_set (X := X.blk z3 G3 scope ce fp) hu J11 hD11 hb11 hl11 r10 r11 fun z12 J12 => fin J12 nx
  exact codeAny_compStart_dict loop (T.self X.A 0 _ _ _ t4 loop)
theorem pe_dcT {kx vx tg iter : Expr} {ifs : List Expr} {scope : Scope} {own : List (Str × Nat)} {pos : Pos} {wi : TI} {g : TG} {tt : TT} {tk tv : TE} (hu : X.A.units + 1 < cLine) (hc : X.calm = true) (hN : X.N.Nodup) (hi : PI X tg iter wi) (ok : BlkOk X.N X.env.scope scope own)
    (hg : ∀ (s : Shared) (H : Hp) (C : Addr) (cl : List (Str × Addr)) (fp : List Addr), PG (X.blk s H scope (compEnvC scope cl C X.env) fp) tg g)
    (ht : ∀ (s : Shared) (H : Hp) (C : Addr) (cl : List (Str × Addr)) (fp : List Addr), PTs (X.blk s H scope (compEnvC scope cl C X.env) fp) ifs tt)
    (hk : ∀ (s : Shared) (H : Hp) (C : Addr) (cl : List (Str × Addr)) (fp : List Addr), PE (X.blk s H scope (compEnvC scope cl C X.env) fp) kx tk) (he : ∀ (s : Shared) (H : Hp) (C : Addr) (cl : List (Str × Addr)) (fp : List Addr), PE (X.blk s H scope (compEnvC scope cl C X.env) fp) vx tv)
    (hs : ∀ x, foldedSetIterable iter X.env x = pure x := by intro _; rfl) : PE X (.DictComp kx vx [⟨tg, iter, ifs, 0⟩] scope pos) (tDcT wi g tt tk tv (own.map (·.2))) := ⟨fun ps z σ G Q J hh => by
  rw [arm_eval_DictComp]
  refine dcT_core hu hc hN J hi ok hg ht hk he hs hh fun D C z' m G' J' q hn f => ⟨m, hn, fun h'' sb => ?_⟩
  obtain ⟨c0, c1, c2, c3, c4, c5⟩ := f
  exact ⟨.ref D, G', J'.turned (t' := z'.toks) (fun b o hb e => (sb.2 b hb).trans e) c0 c1 c3 c4 c5, rfl, q⟩⟩
/-- name = {..} on one line, the name a local -/
theorem ps_setDcT {i : Nat} {y : Str} {py : Pos} {kx vx tg iter : Expr} {ifs : List Expr} {scope : Scope} {own : List (Str × Nat)} {pos spos : Pos} {wi : TI} {g : TG} {tt : TT} {tk tv : TE} (hu : X.A.units + 1 < cLine) (hc : X.calm = true) (hN : X.N.Nodup) (hy : X.N[i]? = some y) (hyl : X.env.scope.names.lookup y = some .local)
    (hsw : swapsWith (.DictComp kx vx [⟨tg, iter, ifs, 0⟩] scope pos) (some (.Name y py)) spos.line X.env = pure true) (hi : PI X tg iter wi) (ok : BlkOk X.N X.env.scope scope own)
    (hg : ∀ (s : Shared) (H : Hp) (C : Addr) (cl : List (Str × Addr)) (fp : List Addr), PG (X.blk s H scope (compEnvC scope cl C X.env) fp) tg g)
    (ht : ∀ (s : Shared) (H : Hp) (C : Addr) (cl : List (Str × Addr)) (fp : List Addr), PTs (X.blk s H scope (compEnvC scope cl C X.env) fp) ifs tt)
    (hk : ∀ (s : Shared) (H : Hp) (C : Addr) (cl : List (Str × Addr)) (fp : List Addr), PE (X.blk s H scope (compEnvC scope cl C X.env) fp) kx tk) (he : ∀ (s : Shared) (H : Hp) (C : Addr) (cl : List (Str × Addr)) (fp : List Addr), PE (X.blk s H scope (compEnvC scope cl C X.env) fp) vx tv)
    (hs : ∀ x, foldedSetIterable iter X.env x = pure x := by intro _; rfl) : PS X (.Assign [.Name y py] (.DictComp kx vx [⟨tg, iter, ifs, 0⟩] scope pos) spos) (tAsg (tDcT wi g tt tk tv (own.map (·.2))) (gName i)) := ⟨fun ps z σ G D J h => by
  rw [exec_Assign_Name_used _ _ _ _ hsw]
  refine wpAny_bind (wpAny_standAt (wpAny_bind ?_))
  show wpAny _ X.A (do
    let _ ← comprehension (.DictComp kx vx [⟨tg, iter, ifs, 0⟩] scope pos) scope X.env (firstIterPos [⟨tg, iter, ifs, 0⟩] pos) newDict false (eval iter X.env) (some (assign (.Name y py) X.env))) _ _ z
  have h : tDcT wi g tt tk tv (own.map (·.2)) σ G (fun x G1 => gName i x σ G1 D.nx) := h
  refine wpAny_bind (thn (dcT_core (Qf := fun _ z' => SP X ps D .next z') hu hc hN J hi ok hg ht hk he hs h fun L C z' m G' J' q hn f => ?_) fun _ z' hq => wpAny_pure (wpAny_pure hq))
  show wpAny _ _ (assign (.Name y py) X.env (.ref L)) _ _ _
  refine wpAny_assign_Name (store_ok2 (v := V.ref L) J' hN hy (.inl hyl) rfl (fun z2 J2 ⟨a, sb, ha⟩ => ?_) (.inr hyl))
  obtain ⟨c0, c1, c2, c3, c4, c5⟩ := f
  have ne : C ≠ a := ha.elim (fun q => q ▸ c1) (fun q e => c4 y a q e.symm)
  exact ⟨m, hn.sameBut sb ne, fun h3 sb3 => ⟨_, G', J2.turned (t' := z2.toks) (fun b o hb e => (sb3.2 b hb).trans e) c0 c1 c3 c4 c5, q⟩⟩⟩
theorem swD_true {kx vx : Expr} {gs : List Comprehension} {scope : Scope} {pos py : Pos} {y : Str} {l : Nat} {env : Env} (hk : env.scope.kind = .function) (hy : env.scope.names.lookup y = some .local) (hl : (py.line == pos.line) = true)
    (ha : (scope.names.any fun (n, k) => n == y && (k == .local || k == .cell)) = false) : swapsWith (.DictComp kx vx gs scope pos) (some (.Name y py)) l env = pure true := by
  have ky : env.kindOf y = some .local := hy
  have hb : env.blockKind = .function := by
    unfold Env.blockKind
    rw [hk]
    rfl
  unfold swapsWith
  simp only [hb, ky, ha, Expr.pos, hl]
  rfl
end
end Pf

namespace Pf
open PySem PySem.Spec PyProof.Rows L2
/-! ### sorted(set(l)) of a long list with few unlike whole numbers -/
theorem setR_few {w : World} {h : Heap} {a : Addr} {ns cand : List Int} {c : Nat} (R : SetR w h a (fun j => decide (j ∈ ns)) c) (hc : ∀ k ∈ ns, k ∈ cand) : c ≤ cand.length := by
  obtain ⟨o, es, ep, t, ho, hex, hdt, g, nd, hm2, hb, hf, hn, hr, hl2⟩ := R
  have hlen : (es.toList.map keyOf).length = es.size := by rw [List.length_map, Array.length_toList]
  have hsub : ∀ j ∈ es.toList.map keyOf, j ∈ cand := fun j hj => by
    have := (hm2 j).mpr hj
    exact hc j (by simpa using this)
  have := List.Nodup.length_le_of_subset nd hsub
  omega
def tSortSetM (K : PySem.W.Frag) (ta : TE) : TE := fun σ H Q => ta σ H fun x H1 => ∃ (l : Addr) (ns cand : List Int), x = .ref l ∧ SqL K H1 l (ns.map V.int) ∧ ns.length < 4000 ∧ (∀ k ∈ ns, k ∈ cand) ∧ cand.length < 60 ∧
  ∀ (out : List Int) (p : Addr), out.Pairwise (· < ·) → (∀ k, k ∈ out ↔ k ∈ ns) → H1 p = none → Q (.ref p) (upd H1 p (.lst (out.map V.int)))
theorem pe_sortSetM {X : Cx} {a : Expr} {ta : TE} {p p2 q pos : Pos} (hc : X.calm = true) (hg : Gl X "sorted") (hm : X.mg "sorted" = none) (hg2 : Gl X "set") (hm2 : X.mg "set" = none) (ha : PE X a ta)
    (na : starEach [a] X.env = (false, eval a X.env) :: starEach [] X.env := by rfl) : PE X (.Call (.Name "sorted" p) [.Call (.Name "set" p2) [a] [] q] [] pos) (tSortSetM X.K ta) := by
  refine ⟨fun pins s σ H Q I h => ?_⟩
  refine Call_ (ld_blt I hg hm boot_sorted ?_)
  refine PyProof.Rows.callWith_builtin1 (PyProof.Rows.args_cons ?_ rfl) rfl rfl
  refine Call_ (ld_blt I hg2 hm2 boot_set ?_)
  refine PyProof.Rows.callWith_type1 (PyProof.Rows.args_cons (thn (ha.run pins s σ H _ I h) fun v s1 ⟨x, H1, I1, r1, q1⟩ => PyProof.Rows.args_nil ?_) na) na rfl
  obtain ⟨l, ns, cand, rfl, hq, hl, hcd, hcl, q1⟩ := q1
  cases r1
  obtain ⟨its, rv, pt, hz⟩ := I1.list hq
  have hi : IntsAre its.toArray.toList ns := ints_of_vals rv
  refine set_by_list ns (I1.ok.hd hc) pt.isList hi (by unfold scanBound; omega) fun h' tk c R1 hcn k => ?_
  refine PyProof.Rows.args_nil ?_
  have hcf := setR_few R1 hcd
  have I2 : Inv X pins σ H1 { s1 with heap := h', toks := tk } := I1.kept fun b o e => k b o e
  have R2 : SetR X.w ({ s1 with heap := h', toks := tk } : Shared).heap s1.heap.objs.size (fun j => decide (j ∈ ns)) c := R1
  generalize ({ s1 with heap := h', toks := tk } : Shared) = s2 at I2 R2 ⊢
  refine sorted_set R2 (I2.ok.hd hc) (by omega) fun s' p out c2 ns' k2 g o hp hg3 hi2 hs hm3 hl2 => ?_
  have hlen : (ns'.map V.int).length ≤ sizeLine := by rw [List.length_map, hl2, sizeLine_eq]; omega
  have hn : H1 p = none := I2.hok.fresh hp
  have J : Inv X pins σ (upd H1 p (.lst (ns'.map V.int))) { s2 with heap := s'.heap, gens := s'.gens, drawn := s'.drawn, toks := s'.toks } :=
    I2.call (ch := []) (Un.laid k2 hp hn) (I2.hok.laid k2 hp ⟨hlen, out.toList, c2, vals_of_ints hi2, hg3⟩) (by rw [g]; exact I2.bare) (fun _ z => nomatch z)
  have e : s' = { s2 with heap := s'.heap, gens := s'.gens, drawn := s'.drawn, toks := s'.toks } := by
    cases s'
    cases s2
    cases o
    rfl
  rw [e]
  exact ⟨.ref p, _, J, rfl, q1 ns' p hs (fun j => by rw [hm3 j, decide_eq_true_eq]) hn⟩
theorem keSortSetM {X : Cx} (K : PySem.W.Frag) {a : Expr} {ta : TE} {p p2 q pos : Pos} (h : X.K = K) (hc : X.calm = true) (hg : Gl X "sorted") (hm : X.mg "sorted" = none) (hg2 : Gl X "set") (hm2 : X.mg "set" = none) (ha : PE X a ta)
    (na : starEach [a] X.env = (false, eval a X.env) :: starEach [] X.env := by rfl) : PE X (.Call (.Name "sorted" p) [.Call (.Name "set" p2) [a] [] q] [] pos) (tSortSetM K ta) := h ▸ pe_sortSetM hc hg hm hg2 hm2 ha na
theorem g_sortSetM {K : PySem.W.Frag} {ta : TE} {σ : L2.St} {H : Hp} {Q : VK} (q : ta σ H fun x H1 => ∃ (l : Addr) (ns cand : List Int), x = .ref l ∧ SqL K H1 l (ns.map V.int) ∧ ns.length < 4000 ∧ (∀ k ∈ ns, k ∈ cand) ∧ cand.length < 60 ∧ ∀ (out : List Int) (p : Addr), out.Pairwise (· < ·) → (∀ k, k ∈ out ↔ k ∈ ns) → H1 p = none → Q (.ref p) (upd H1 p (.lst (out.map V.int)))) : tSortSetM K ta σ H Q := q
end Pf

namespace Pf
open PySem PySem.Spec PyProof.Rows L2
/-! ### attributes as targets: a.f, a.g = .. -/
section
variable {X : Cx} {o : Expr} {f : Str} {pos : Pos} {to : TE}
def gFld (K : PySem.W.Frag) (to : TE) (f : Str) : TG := fun v σ H Q => to σ H fun x H1 => ∃ a C dx fs, x = .ref a ∧ H1 a = some (.ins C dx fs) ∧ Cls K C ∧ NoAttr K C f ∧ fs.length < 1000 ∧ Q σ (L2.upd H1 a (.ins C dx (putF f v fs)))
theorem pg_attr (ho : PE X o to) : PG X (.Attribute o f pos) (gFld X.K to f) := by
  refine ⟨fun pins s σ H v u Q I r h => ?_⟩
  refine PySem.W.kas_attr (thn (ho.run pins s σ H _ I h) fun ov s1 ⟨x, H1, I1, rx, a, C, dx, fs, ex, ea, c, n, l, q⟩ => ?_)
  subst ex
  obtain rfl : ov = Value.ref a := rx
  exact setattr_ok I1 ea c n l r fun s3 I3 => ⟨σ, _, I3, q⟩
theorem kgFld (K : PySem.W.Frag) (h : X.K = K) (ho : PE X o to) : PG X (.Attribute o f pos) (gFld K to f) := h ▸ pg_attr ho
end
theorem g_gfld {K : PySem.W.Frag} {to : TE} {f : Str} {v : V} {σ : L2.St} {H : Hp} {Q : L2.St → Hp → Prop} (q : to σ H fun x H1 => ∃ a C dx fs, x = .ref a ∧ H1 a = some (.ins C dx fs) ∧ Cls K C ∧ NoAttr K C f ∧ fs.length < 1000 ∧ Q σ (L2.upd H1 a (.ins C dx (putF f v fs)))) : gFld K to f v σ H Q := q
/-! ### what stays where only lists and one class's objects change -/
def Ta (CA : Addr) (H H' : Hp) : Prop := ∀ b o, H b = some o → (∀ z, o ≠ .lst z) → (∀ dx fs, o ≠ .ins CA dx fs) → H' b = some o
section
variable {K : PySem.W.Frag} {CA : Addr} {H H' H2 : Hp}
theorem Ta.refl : Ta CA H H := fun _ _ h _ _ => h
theorem Ta.trans (s : Ta CA H H') (t : Ta CA H' H2) : Ta CA H H2 := fun b o h n m => t b o (s b o h n m) n m
theorem Ta.of (t : Tx H H') : Ta CA H H' := fun b o h n _ => t b o h n
theorem Ta.seq {b : Addr} {xs : List V} (t : Ta CA H H') (h : SqT K H b xs) : SqT K H' b xs := by
  rcases h with (h | ⟨o, h⟩) | h
  · exact .inl (.inl (t _ _ h (fun z e => by cases e) (fun _ _ e => by cases e)))
  · exact .inl (.inr ⟨o, t _ _ h (fun z e => by cases e) (fun _ _ e => by cases e)⟩)
  · exact .inr h
mutual
theorem Dp.ta (t : Ta CA H H') : ∀ (d : PyData) (v : V), im d = true → Dp K H v d → Dp K H' v d
  | .none, _, _, h => by cases h; exact .non
  | .bool b, _, _, h => by cases h; exact .bl b
  | .int i, _, _, h => by cases h; exact .int i
  | .str x, _, _, h => by cases h; exact .str x
  | .tuple ds, v, m, h => by
    unfold im at m
    cases h with
    | tup q r => exact .tup (t.seq q) (Dp.taAll t ds _ m r)
theorem Dp.taAll (t : Ta CA H H') : ∀ (ds : List PyData) (vs : List V), imAll ds = true → DpAll K H vs ds → DpAll K H' vs ds
  | [], _, _, h => by cases h; exact .nil
  | d :: ds, vs, m, h => by
    unfold imAll at m
    rw [Bool.and_eq_true] at m
    cases h with
    | cons p q => exact .cons (Dp.ta t d _ m.1 p) (Dp.taAll t ds _ m.2 q)
end
theorem LogAt.ta {C : Addr} {v : V} {n : Int} {rs : List Row} (ne : C ≠ CA) (t : Ta CA H H') (h : LogAt K C H v n rs) : LogAt K C H' v n rs := by
  obtain ⟨a, dx, p, e, h1, h2⟩ := h
  exact ⟨a, dx, p, e, t _ _ h1 (fun z e => by cases e) (fun _ _ e => by cases e; exact ne rfl), Dp.ta t _ _ (im_rowsD rs) h2⟩
end
end Pf

namespace Pf
open PySem PySem.Spec PySem.Calls PyProof.Rows PySem.W PySem.SeqAt GQ
open AutoSeq1 (wpAny_loadPart')
/-! ### x != y of tuples that are equal, their items own objects, too -/
section
variable {prog : Program} {w : World} {A : Around} {R : Result → Shared → Prop}
theorem tuple_neG (l b : Addr) (items items2 : Array Value) (n n2 : Nat) (dd dd2 : Option Addr) (sl sl2 : Array (Option Value)) (hsz : items.size = items2.size) (I : Nat → Shared → Prop)
    (turn : ∀ i (h1 : i < items.size) (h2 : i < items2.size) s, I i s → wpAny (model prog w) A.in1 (eqBool items[i] items2[i]) (fun r s' => r = true ∧ I (i + 1) s') (fun e s' => R (.error e) s') s)
    (fin : ∀ s, I items.size s → R (.ok (.ret (.bool false))) s) {s : Shared} (hl1 : s.heap.get? l = some { cls := .type "tuple", dict := dd, data := .seq items n, slots := sl }) (hb1 : s.heap.get? b = some { cls := .type "tuple", dict := dd2, data := .seq items2 n2, slots := sl2 }) (h : I 0 s) :
    wpAny (model prog w) A.in1 (Builtin.«tuple.__ne__» ⟨[.ref l, .ref b], []⟩) (FinOf prog w A R) (fun e s' => R (.error e) s') s := by
  have f2 := AutoSeq1.sub_tuple_tuple
  have hZ : (items.toList.zip items2.toList).length = items.size := by simp [hsz]
  have h0 := h
  obtain ⟨hp, g, d, tk, os⟩ := s
  wp_walk using wpAny_loadPart' hl1, wpAny_loadPart' hb1, wpAny_forIn_list _ (fun rest b s' => b.1 = none ∧ ∃ i, rest = (items.toList.zip items2.toList).drop i ∧ i ≤ items.size ∧ I i s') _
  case turn =>
    rintro ⟨y, x⟩ rest b s' ⟨hb', i, hz, hi, hI⟩
    have hlt : i < (items.toList.zip items2.toList).length := by
      rcases Nat.lt_or_ge i (items.toList.zip items2.toList).length with h' | h'
      · exact h'
      · rw [List.drop_of_length_le h'] at hz; cases hz
    have h1 : i < items.size := hZ ▸ hlt
    have h2 : i < items2.size := hsz ▸ h1
    rw [List.drop_eq_getElem_cons hlt] at hz
    injection hz with hyx hrest
    have hy : y = items[i] := by have := congrArg Prod.fst hyx; simpa using this
    have hx : x = items2[i] := by have := congrArg Prod.snd hyx; simpa using this
    subst hy hx
    refine wpAny_bind (wpAny_mono (turn i h1 h2 s' hI) (fun r s2 q2 => ?_) fun _ _ x => x)
    obtain ⟨hr, q2⟩ := q2
    subst hr
    wp_walk
    exact ⟨rfl, i + 1, hrest, h1, q2⟩
  case fin =>
    rintro ⟨b1, b2⟩ s' ⟨hb', i, hz, hi, hI⟩
    simp only at hb'
    subst hb'
    have hge : items.size ≤ i := by
      rcases Nat.lt_or_ge i (items.toList.zip items2.toList).length with h' | h'
      · rw [List.drop_eq_getElem_cons h'] at hz; cases hz
      · exact hZ ▸ h'
    have hi' : i = items.size := by omega
    have hR : R (.ok (.ret (.bool false))) s' := fin s' (hi' ▸ hI)
    wp_walk
    simpa [Builtin.Tuple.tupleCompareSizes, hsz] using hR
  case h =>
    exact ⟨rfl, 0, rfl, Nat.zero_le _, h0⟩
end
section
variable {prog : Program} {w : World} {A : Around} {E : Value → Shared → Prop} {s : Shared}
theorem rc_neTupG {l b : Addr} {items items2 : Array Value} {Q : Value → Shared → Prop} (hsz : items.size = items2.size) (hu : A.units < cLine) (I : Nat → Shared → Prop)
    (hl : s.heap.IsTuple l items) (hb : s.heap.IsTuple b items2)
    (turn : ∀ i (h1 : i < items.size) (h2 : i < items2.size) s, I i s → wpAny (model prog w) A.in1 (eqBool items[i] items2[i]) (fun r s' => r = true ∧ I (i + 1) s') E s)
    (fin : ∀ s, I items.size s → Q (.bool false) s) (h : I 0 s) : wpAny (model prog w) A (richCompare .NotEq (.ref l) (.ref b)) Q E s := by
  obtain ⟨⟨cls, dd, data, sl⟩, ho, hc, n, hd⟩ := id hl
  obtain ⟨⟨cls2, dd2, data2, sl2⟩, ho2, hc2, n2, hd2⟩ := id hb
  simp only at hc hd hc2 hd2
  subst hc hd hc2 hd2
  refine wpAny_richCompare_same_room (op := .NotEq) ⟨_, ho, rfl⟩ ⟨_, ho2, rfl⟩ F.slot_tuple_ne (call_here F.slot_tuple_ne ⟨_, ho, rfl⟩ F.entry_tuple_ne (F.args_tuple_ne_2 _ _) ?_) hu
  exact tuple_neG (R := wants (fun v s' => v ≠ .notImplemented ∧ Q v s') E) l b items items2 n n2 dd dd2 sl sl2 hsz I turn (fun s' q => ⟨(fun x => nomatch x), fin s' q⟩) ho ho2 h
end
end Pf
namespace Pf
open PySem PySem.Spec PyProof.Rows L2
section
variable {X : Cx} {n : Nat} {D : Eqv}
def rNeG (K : PySem.W.Frag) (D : Eqv) : R2 := fun x y H Q => DTup K D x y H ∧ ∀ H', L2.Ext H H' → Q (.bl false) H'
theorem op_neG (hD : Mon D) (h : EqG X n D) (hr : Room (n + 1) X.A) : OpR X (compareOp .NotEq) (rNeG X.K D) := by
  intro pins s σ H x y v u Q I rx ry hq
  obtain ⟨⟨a, b, xs, ys, rfl, rfl, ha, hb, p⟩, q⟩ := hq
  cases rx
  cases ry
  obtain ⟨its, r, e, z⟩ := I.tuple ha
  obtain ⟨its2, r2, e2, z2⟩ := I.tuple hb
  have hsz : its.toArray.size = its2.toArray.size := by rw [List.size_toArray, List.size_toArray, ← r.length, ← r2.length]; exact p.1
  have sb : Sub X (n + 1) X.A := ⟨hr, rfl⟩
  show wpAny (model X.prog X.w) X.A (richCompare .NotEq (.ref a) (.ref b)) (EP X pins σ Q) X.xe s
  exact rc_neTupG hsz sb.room.units0 (fun _ s' => LoopI X pins σ H s') e e2 (fun i h1 h2 s' q => turnG hD h sb p r r2 i h1 h2 s' q) (fun s' hh => let ⟨H', I', e'⟩ := hh; ⟨.bl false, H', I', rfl, q H' e'⟩) ⟨H, I, L2.Ext.rfl'⟩
end
end Pf

namespace Pf
open PySem PySem.Spec PyProof.Rows L2
local macro_rules | `(tactic| walk_at "one") => `(tactic| first
  | refine g_var rfl ?_ | refine g_c ?_ | refine g_op ?_ | refine g_rI0 ?_ | refine g_eqI ?_ | refine g_neI ?_ | refine g_eqB ?_ | refine g_neB ?_ | refine g_test ?_ | refine g_tB ?_ | refine g_bl ?_
  | refine g_and ?_ | refine g_or ?_ | refine g_not ?_ | refine g_andV ?_ | refine g_orV ?_ | refine g_notV ?_ | refine g_if ?_ | refine g_un ?_ | refine g_rU ?_ | refine g_chain ?_
  | refine g_ifS ?_ | refine g_next ?_ | refine g_asg ?_ | refine g_name ?_ | refine g_sub ?_ | refine g_ret ?_ | refine g_drop ?_ | refine g_cons ?_ | refine g_nil ?_ | refine g_cb ?_
  | refine g_tup ?_ | refine g_lst ?_ | refine g_sl ?_ | refine g_nopart ?_ | refine g_part ?_ | refine g_part2 ?_ | refine g_call ?_ | (show (∃ k, [V.int _] = [V.int k] ∧ _) ∨ _; refine .inl ⟨_, rfl, ?_⟩) | refine g_yes ?_ | refine g_oFF ?_ | refine g_oTx ?_ | refine g_oFT ?_ | refine g_noTx ?_ | refine g_noFT ?_ | refine g_noFF ?_ | refine g_nT ?_ | refine g_nF ?_ | refine g_sfld ?_ | refine g_fld ?_ | refine g_make ?_ | refine g_lstRg ?_ | refine g_tupRg ?_ | refine g_rg1 ?_ | refine g_lc ?_ | refine g_for ?_ | refine g_iL ?_ | refine g_iT ?_ | refine g_iR1 ?_ | refine g_iR2 ?_ | refine g_iZA ?_ | refine g_bm ?_ | refine g_dget ?_ | refine g_dget2 ?_ | refine g_din ?_ | refine g_dnotin ?_ | refine g_dput ?_ | refine iteT ?_ | refine iteF ?_)
local macro_rules | `(tactic| walk_at "go") => `(tactic| repeat (with_reducible first | walk_at "one" | refine g_seq ?_))
local macro_rules | `(tactic| walk_at "gs") => `(tactic| ((repeat (with_reducible walk_at "one")); try dsimp only))
def topS (i : Nat) : Stmt := PySem.Challenge.pw_takenover_k84_whole_moments_that_are_shi.main.body.getD i (.Pass ⟨0, 0, 0, 0⟩)
abbrev s_is_integer : Stmt := topS 2
theorem sc_is_integer : FnScope ["thing"] ["thing"] (defScope s_is_integer) := ⟨rfl, rfl, rfl, by decide +kernel, rfl, by decide +kernel, by decide +kernel⟩
abbrev s_is_between : Stmt := topS 3
theorem sc_is_between : FnScope ["thing", "least", "most"] ["thing", "least", "most"] (defScope s_is_between) := ⟨rfl, rfl, rfl, by decide +kernel, rfl, by decide +kernel, by decide +kernel⟩
abbrev s_is_number : Stmt := topS 4
theorem sc_is_number : FnScope ["thing", "many"] ["thing", "many"] (defScope s_is_number) := ⟨rfl, rfl, rfl, by decide +kernel, rfl, by decide +kernel, by decide +kernel⟩
abbrev s_is_tuple_of : Stmt := topS 5
theorem sc_is_tuple_of : FnScope ["thing", "many"] ["thing", "many"] (defScope s_is_tuple_of) := ⟨rfl, rfl, rfl, by decide +kernel, rfl, by decide +kernel, by decide +kernel⟩
abbrev s_are_numbers : Stmt := topS 6
theorem sc_are_numbers : FnScope ["things", "many", "thing"] ["things", "many"] (defScope s_are_numbers) := ⟨rfl, rfl, rfl, by decide +kernel, rfl, by decide +kernel, by decide +kernel⟩
abbrev s_is_find : Stmt := topS 7
theorem sc_is_find : FnScope ["log", "thing"] ["log", "thing"] (defScope s_is_find) := ⟨rfl, rfl, rfl, by decide +kernel, rfl, by decide +kernel, by decide +kernel⟩
abbrev s_is_copying : Stmt := topS 11
theorem sc_is_copying : FnScope ["offices", "thing", "x", "y", "sure"] ["offices", "thing"] (defScope s_is_copying) := ⟨rfl, rfl, rfl, by decide +kernel, rfl, by decide +kernel, by decide +kernel⟩
abbrev s_is_row : Stmt := topS 12
theorem sc_is_row : FnScope ["offices", "thing"] ["offices", "thing"] (defScope s_is_row) := ⟨rfl, rfl, rfl, by decide +kernel, rfl, by decide +kernel, by decide +kernel⟩
abbrev s_wrong_part : Stmt := topS 13
theorem sc_wrong_part : FnScope ["offices", "rows", "is_right", "number", "row"] ["offices", "rows", "is_right"] (defScope s_wrong_part) := ⟨rfl, rfl, rfl, by decide +kernel, rfl, by decide +kernel, by decide +kernel⟩
abbrev s_check_find : Stmt := topS 26
theorem sc_check_find : FnScope ["log", "find"] ["log", "find"] (defScope s_check_find) := ⟨rfl, rfl, rfl, by decide +kernel, rfl, by decide +kernel, by decide +kernel⟩
abbrev s_check_row : Stmt := topS 27
theorem sc_check_row : FnScope ["log", "row"] ["log", "row"] (defScope s_check_row) := ⟨rfl, rfl, rfl, by decide +kernel, rfl, by decide +kernel, by decide +kernel⟩
abbrev s_Log_init : Stmt := inClass (topS 29) 0
theorem sc_Log_init : FnScope ["self", "offices", "rows", "part"] ["self", "offices", "rows"] (defScope s_Log_init) := ⟨rfl, rfl, rfl, by decide +kernel, rfl, by decide +kernel, by decide +kernel⟩
abbrev s_Log___eq : Stmt := inClass (topS 29) 1
theorem sc_Log___eq : FnScope ["self", "other"] ["self", "other"] (defScope s_Log___eq) := ⟨rfl, rfl, rfl, by decide +kernel, rfl, by decide +kernel, by decide +kernel⟩
abbrev s_log_of_any_size : Stmt := topS 30
theorem sc_log_of_any_size : FnScope ["offices", "rows", "log"] ["offices", "rows"] (defScope s_log_of_any_size) := ⟨rfl, rfl, rfl, by decide +kernel, rfl, by decide +kernel, by decide +kernel⟩
abbrev s_without : Stmt := topS 35
theorem sc_without : FnScope ["log", "row"] ["log", "row"] (defScope s_without) := ⟨rfl, rfl, rfl, by decide +kernel, rfl, by decide +kernel, by decide +kernel⟩
abbrev s_with_row : Stmt := topS 36
theorem sc_with_row : FnScope ["log", "at", "row"] ["log", "at", "row"] (defScope s_with_row) := ⟨rfl, rfl, rfl, by decide +kernel, rfl, by decide +kernel, by decide +kernel⟩
abbrev s_Archive_init : Stmt := inClass (topS 38) 0
theorem sc_Archive_init : FnScope ["self", "offices"] ["self", "offices"] (defScope s_Archive_init) := ⟨rfl, rfl, rfl, by decide +kernel, rfl, by decide +kernel, by decide +kernel⟩
abbrev s_Archive_change : Stmt := inClass (topS 38) 1
theorem sc_Archive_change : FnScope ["self", "log", "finds"] ["self", "log", "finds"] (defScope s_Archive_change) := ⟨rfl, rfl, rfl, by decide +kernel, rfl, by decide +kernel, by decide +kernel⟩
abbrev s_Archive_put : Stmt := inClass (topS 38) 2
theorem sc_Archive_put : FnScope ["self", "at", "row", "log", "moment", "office", "edition"] ["self", "at", "row"] (defScope s_Archive_put) := ⟨rfl, rfl, rfl, by decide +kernel, rfl, by decide +kernel, by decide +kernel⟩
abbrev s_Archive_strike : Stmt := inClass (topS 38) 3
theorem sc_Archive_strike : FnScope ["self", "number", "log", "moment", "office", "edition"] ["self", "number"] (defScope s_Archive_strike) := ⟨rfl, rfl, rfl, by decide +kernel, rfl, by decide +kernel, by decide +kernel⟩
abbrev s_Archive_show : Stmt := inClass (topS 38) 4
theorem sc_Archive_show : FnScope ["self", "find"] ["self", "find"] (defScope s_Archive_show) := ⟨rfl, rfl, rfl, by decide +kernel, rfl, by decide +kernel, by decide +kernel⟩
abbrev s_Archive_now : Stmt := inClass (topS 38) 6
theorem sc_Archive_now : FnScope ["self"] ["self"] (defScope s_Archive_now) := ⟨rfl, rfl, rfl, by decide +kernel, rfl, by decide +kernel, by decide +kernel⟩
abbrev s_Archive_back : Stmt := inClass (topS 38) 11
theorem sc_Archive_back : FnScope ["self"] ["self"] (defScope s_Archive_back) := ⟨rfl, rfl, rfl, by decide +kernel, rfl, by decide +kernel, by decide +kernel⟩
abbrev s_Archive_steps : Stmt := inClass (topS 38) 12
theorem sc_Archive_steps : FnScope ["self"] ["self"] (defScope s_Archive_steps) := ⟨rfl, rfl, rfl, by decide +kernel, rfl, by decide +kernel, by decide +kernel⟩
abbrev s_is_doing : Stmt := topS 31
theorem sc_is_doing : FnScope ["log", "thing", "done", "row"] ["log", "thing"] (defScope s_is_doing) := ⟨rfl, rfl, rfl, by decide +kernel, rfl, by decide +kernel, by decide +kernel⟩
abbrev s_check_doing : Stmt := topS 32
theorem sc_check_doing : FnScope ["log", "doing"] ["log", "doing"] (defScope s_check_doing) := ⟨rfl, rfl, rfl, by decide +kernel, rfl, by decide +kernel, by decide +kernel⟩
abbrev s_all_sheets : Stmt := topS 33
theorem sc_all_sheets : FnScope ["log", "doing", "held", "found", "row", "done"] ["log", "doing"] (defScope s_all_sheets) := ⟨rfl, rfl, rfl, by decide +kernel, rfl, by decide +kernel, by decide +kernel⟩
abbrev s_law_dice : Stmt := topS 40
theorem sc_law_dice : FnScope ["_law_script", "_law_cell"] ["_law_script"] (defScope s_law_dice) := ⟨rfl, rfl, rfl, by decide +kernel, rfl, by decide +kernel, by decide +kernel⟩
abbrev s_law_draw : Stmt := topS 41
theorem sc_law_draw : FnScope ["_law_dice_here", "_law_sides", "_law_cell", "_law_digit", "_law_mixed"] ["_law_dice_here", "_law_sides"] (defScope s_law_draw) := ⟨rfl, rfl, rfl, by decide +kernel, rfl, by decide +kernel, by decide +kernel⟩
abbrev s_law_row : Stmt := topS 46
theorem sc_law_row : FnScope ["_law_dice_here", "_law_offices_here", "_law_share", "_law_x", "_law_y"] ["_law_dice_here", "_law_offices_here", "_law_share"] (defScope s_law_row) := ⟨rfl, rfl, rfl, by decide +kernel, rfl, by decide +kernel, by decide +kernel⟩
abbrev s_law_rows : Stmt := topS 47
theorem sc_law_rows : FnScope ["_law_dice_here", "_law_offices_here", "_law_many", "_law_share", "_law_k"] ["_law_dice_here", "_law_offices_here", "_law_many"] (defScope s_law_rows) := ⟨rfl, rfl, rfl, by decide +kernel, rfl, by decide +kernel, by decide +kernel⟩
abbrev s_law_doing : Stmt := topS 48
theorem sc_law_doing : FnScope ["_law_dice_here", "_law_rows_here", "_law_share", "_law_row_here"] ["_law_dice_here", "_law_rows_here"] (defScope s_law_doing) := ⟨rfl, rfl, rfl, by decide +kernel, rfl, by decide +kernel, by decide +kernel⟩
abbrev s_law_led : Stmt := topS 49
theorem sc_law_led : FnScope ["_law_offices_here", "_law_rows_here", "_law_doing_here", "_law_found", "_law_k", "_law_here"] ["_law_offices_here", "_law_rows_here", "_law_doing_here"] (defScope s_law_led) := ⟨rfl, rfl, rfl, by decide +kernel, rfl, by decide +kernel, by decide +kernel⟩
abbrev s_law_find : Stmt := topS 51
theorem sc_law_find : FnScope ["_law_dice_here", "_law_offices_here", "_law_led_here", "_law_moment", "_law_office"] ["_law_dice_here", "_law_offices_here", "_law_led_here"] (defScope s_law_find) := ⟨rfl, rfl, rfl, by decide +kernel, rfl, by decide +kernel, by decide +kernel⟩
abbrev s_law_moved : Stmt := topS 53
theorem sc_law_moved : FnScope ["_law_find_here", "_law_least", "_law_by"] ["_law_find_here", "_law_least", "_law_by"] (defScope s_law_moved) := ⟨rfl, rfl, rfl, by decide +kernel, rfl, by decide +kernel, by decide +kernel⟩
abbrev s_law_filled : Stmt := topS 58
theorem sc_law_filled : FnScope ["_law_offices_here", "_law_rows_here", "_law_finds", "_law_archive", "_law_row_here", "_law_find_here"] ["_law_offices_here", "_law_rows_here", "_law_finds"] (defScope s_law_filled) := ⟨rfl, rfl, rfl, by decide +kernel, rfl, by decide +kernel, by decide +kernel⟩
abbrev s_law_put_right : Stmt := topS 59
theorem sc_law_put_right : FnScope ["_law_archive", "_law_offices_here", "_law_rows_here", "_law_finds", "_law_at", "_law_row_here", "_law_doing_here", "_law_log", "_law_told", "_law_before", "_law_later", "_law_k", "_law_find_here"] ["_law_archive", "_law_offices_here", "_law_rows_here", "_law_finds", "_law_at", "_law_row_here", "_law_doing_here"] (defScope s_law_put_right) := ⟨rfl, rfl, rfl, by decide +kernel, rfl, by decide +kernel, by decide +kernel⟩
abbrev s_law : Stmt := topS 60
theorem sc_law : FnScope ["_law_script", "_law_dice_here", "_law_offices_here", "_law_rows_here", "_law_doing_here", "_law_led_here", "_law_finds", "_law_archive", "_law_at", "_law_x", "_law_y", "_law_sure", "_law_log", "_law_told", "_law_k", "_law_find_here"] ["_law_script"] (defScope s_law) := ⟨rfl, rfl, rfl, by decide +kernel, rfl, by decide +kernel, by decide +kernel⟩
/-- where the defs stand behind the top -/
structure Ad where
  f_is_integer : Addr
  d_is_integer : FuncData
  f_is_between : Addr
  d_is_between : FuncData
  f_is_number : Addr
  d_is_number : FuncData
  f_is_tuple_of : Addr
  d_is_tuple_of : FuncData
  f_are_numbers : Addr
  d_are_numbers : FuncData
  f_is_find : Addr
  d_is_find : FuncData
  f_is_copying : Addr
  d_is_copying : FuncData
  f_is_row : Addr
  d_is_row : FuncData
  f_wrong_part : Addr
  d_wrong_part : FuncData
  f_check_find : Addr
  d_check_find : FuncData
  f_check_row : Addr
  d_check_row : FuncData
  f_Log_init : Addr
  d_Log_init : FuncData
  f_Log___eq : Addr
  d_Log___eq : FuncData
  f_log_of_any_size : Addr
  d_log_of_any_size : FuncData
  f_without : Addr
  d_without : FuncData
  f_with_row : Addr
  d_with_row : FuncData
  f_Archive_init : Addr
  d_Archive_init : FuncData
  f_Archive_change : Addr
  d_Archive_change : FuncData
  f_Archive_put : Addr
  d_Archive_put : FuncData
  f_Archive_strike : Addr
  d_Archive_strike : FuncData
  f_Archive_show : Addr
  d_Archive_show : FuncData
  f_Archive_now : Addr
  d_Archive_now : FuncData
  f_Archive_back : Addr
  d_Archive_back : FuncData
  f_Archive_steps : Addr
  d_Archive_steps : FuncData
  f_is_doing : Addr
  d_is_doing : FuncData
  f_check_doing : Addr
  d_check_doing : FuncData
  f_all_sheets : Addr
  d_all_sheets : FuncData
  f_law_dice : Addr
  d_law_dice : FuncData
  f_law_draw : Addr
  d_law_draw : FuncData
  f_law_row : Addr
  d_law_row : FuncData
  f_law_rows : Addr
  d_law_rows : FuncData
  f_law_doing : Addr
  d_law_doing : FuncData
  f_law_led : Addr
  d_law_led : FuncData
  f_law_find : Addr
  d_law_find : FuncData
  f_law_moved : Addr
  d_law_moved : FuncData
  f_law_filled : Addr
  d_law_filled : FuncData
  f_law_put_right : Addr
  d_law_put_right : FuncData
  f_law : Addr
  d_law : FuncData
  c_Log : Addr
  c_Archive : Addr
/-- what the top has left -/
structure Txt (K : PySem.W.Frag) (mg : Str → Option Value) (a : Ad) : Prop where
  F_is_integer : Fun K "is_integer" "is_integer" s_is_integer a.f_is_integer a.d_is_integer
  g_is_integer : mg "is_integer" = some (.ref a.f_is_integer)
  b_is_integer : Binds K a.d_is_integer ["thing"] []
  F_is_between : Fun K "is_between" "is_between" s_is_between a.f_is_between a.d_is_between
  g_is_between : mg "is_between" = some (.ref a.f_is_between)
  b_is_between : Binds K a.d_is_between ["thing", "least", "most"] []
  F_is_number : Fun K "is_number" "is_number" s_is_number a.f_is_number a.d_is_number
  g_is_number : mg "is_number" = some (.ref a.f_is_number)
  b_is_number : Binds K a.d_is_number ["thing", "many"] []
  F_is_tuple_of : Fun K "is_tuple_of" "is_tuple_of" s_is_tuple_of a.f_is_tuple_of a.d_is_tuple_of
  g_is_tuple_of : mg "is_tuple_of" = some (.ref a.f_is_tuple_of)
  b_is_tuple_of : Binds K a.d_is_tuple_of ["thing", "many"] []
  F_are_numbers : Fun K "are_numbers" "are_numbers" s_are_numbers a.f_are_numbers a.d_are_numbers
  g_are_numbers : mg "are_numbers" = some (.ref a.f_are_numbers)
  b_are_numbers : Binds K a.d_are_numbers ["things", "many"] []
  F_is_find : Fun K "is_find" "is_find" s_is_find a.f_is_find a.d_is_find
  g_is_find : mg "is_find" = some (.ref a.f_is_find)
  b_is_find : Binds K a.d_is_find ["log", "thing"] []
  F_is_copying : Fun K "is_copying" "is_copying" s_is_copying a.f_is_copying a.d_is_copying
  g_is_copying : mg "is_copying" = some (.ref a.f_is_copying)
  b_is_copying : Binds K a.d_is_copying ["offices", "thing"] []
  F_is_row : Fun K "is_row" "is_row" s_is_row a.f_is_row a.d_is_row
  g_is_row : mg "is_row" = some (.ref a.f_is_row)
  b_is_row : Binds K a.d_is_row ["offices", "thing"] []
  F_wrong_part : Fun K "wrong_part" "wrong_part" s_wrong_part a.f_wrong_part a.d_wrong_part
  g_wrong_part : mg "wrong_part" = some (.ref a.f_wrong_part)
  b_wrong_part : Binds K a.d_wrong_part ["offices", "rows", "is_right"] []
  F_check_find : Fun K "check_find" "check_find" s_check_find a.f_check_find a.d_check_find
  g_check_find : mg "check_find" = some (.ref a.f_check_find)
  b_check_find : Binds K a.d_check_find ["log", "find"] []
  F_check_row : Fun K "check_row" "check_row" s_check_row a.f_check_row a.d_check_row
  g_check_row : mg "check_row" = some (.ref a.f_check_row)
  b_check_row : Binds K a.d_check_row ["log", "row"] []
  F_Log_init : Fun K "__init__" "Log.__init__" s_Log_init a.f_Log_init a.d_Log_init
  b_Log_init : Binds K a.d_Log_init ["self", "offices", "rows"] []
  F_Log___eq : Fun K "__eq__" "Log.__eq__" s_Log___eq a.f_Log___eq a.d_Log___eq
  b_Log___eq : Binds K a.d_Log___eq ["self", "other"] []
  m_Log___eq : Meth K a.c_Log "__eq__" a.f_Log___eq
  F_log_of_any_size : Fun K "log_of_any_size" "log_of_any_size" s_log_of_any_size a.f_log_of_any_size a.d_log_of_any_size
  g_log_of_any_size : mg "log_of_any_size" = some (.ref a.f_log_of_any_size)
  b_log_of_any_size : Binds K a.d_log_of_any_size ["offices", "rows"] []
  F_without : Fun K "without" "without" s_without a.f_without a.d_without
  g_without : mg "without" = some (.ref a.f_without)
  b_without : Binds K a.d_without ["log", "row"] []
  F_with_row : Fun K "with_row" "with_row" s_with_row a.f_with_row a.d_with_row
  g_with_row : mg "with_row" = some (.ref a.f_with_row)
  b_with_row : Binds K a.d_with_row ["log", "at", "row"] []
  F_Archive_init : Fun K "__init__" "Archive.__init__" s_Archive_init a.f_Archive_init a.d_Archive_init
  b_Archive_init : Binds K a.d_Archive_init ["self", "offices"] []
  F_Archive_change : Fun K "change" "Archive.change" s_Archive_change a.f_Archive_change a.d_Archive_change
  b_Archive_change : Binds K a.d_Archive_change ["self", "log", "finds"] []
  m_Archive_change : Meth K a.c_Archive "change" a.f_Archive_change
  F_Archive_put : Fun K "put" "Archive.put" s_Archive_put a.f_Archive_put a.d_Archive_put
  b_Archive_put : Binds K a.d_Archive_put ["self", "at", "row"] []
  m_Archive_put : Meth K a.c_Archive "put" a.f_Archive_put
  F_Archive_strike : Fun K "strike" "Archive.strike" s_Archive_strike a.f_Archive_strike a.d_Archive_strike
  b_Archive_strike : Binds K a.d_Archive_strike ["self", "number"] []
  m_Archive_strike : Meth K a.c_Archive "strike" a.f_Archive_strike
  F_Archive_show : Fun K "show" "Archive.show" s_Archive_show a.f_Archive_show a.d_Archive_show
  b_Archive_show : Binds K a.d_Archive_show ["self", "find"] []
  m_Archive_show : Meth K a.c_Archive "show" a.f_Archive_show
  F_Archive_now : Fun K "now" "Archive.now" s_Archive_now a.f_Archive_now a.d_Archive_now
  b_Archive_now : Binds K a.d_Archive_now ["self"] []
  m_Archive_now : Meth K a.c_Archive "now" a.f_Archive_now
  F_Archive_back : Fun K "back" "Archive.back" s_Archive_back a.f_Archive_back a.d_Archive_back
  b_Archive_back : Binds K a.d_Archive_back ["self"] []
  m_Archive_back : Meth K a.c_Archive "back" a.f_Archive_back
  F_Archive_steps : Fun K "steps" "Archive.steps" s_Archive_steps a.f_Archive_steps a.d_Archive_steps
  b_Archive_steps : Binds K a.d_Archive_steps ["self"] []
  m_Archive_steps : Meth K a.c_Archive "steps" a.f_Archive_steps
  F_is_doing : Fun K "is_doing" "is_doing" s_is_doing a.f_is_doing a.d_is_doing
  g_is_doing : mg "is_doing" = some (.ref a.f_is_doing)
  b_is_doing : Binds K a.d_is_doing ["log", "thing"] []
  F_check_doing : Fun K "check_doing" "check_doing" s_check_doing a.f_check_doing a.d_check_doing
  g_check_doing : mg "check_doing" = some (.ref a.f_check_doing)
  b_check_doing : Binds K a.d_check_doing ["log", "doing"] []
  F_all_sheets : Fun K "all_sheets" "all_sheets" s_all_sheets a.f_all_sheets a.d_all_sheets
  g_all_sheets : mg "all_sheets" = some (.ref a.f_all_sheets)
  b_all_sheets : Binds K a.d_all_sheets ["log", "doing"] []
  F_law_dice : Fun K "_law_dice" "_law_dice" s_law_dice a.f_law_dice a.d_law_dice
  g_law_dice : mg "_law_dice" = some (.ref a.f_law_dice)
  b_law_dice : Binds K a.d_law_dice ["_law_script"] []
  F_law_draw : Fun K "_law_draw" "_law_draw" s_law_draw a.f_law_draw a.d_law_draw
  g_law_draw : mg "_law_draw" = some (.ref a.f_law_draw)
  b_law_draw : Binds K a.d_law_draw ["_law_dice_here", "_law_sides"] []
  F_law_row : Fun K "_law_row" "_law_row" s_law_row a.f_law_row a.d_law_row
  g_law_row : mg "_law_row" = some (.ref a.f_law_row)
  b_law_row : Binds K a.d_law_row ["_law_dice_here", "_law_offices_here", "_law_share"] []
  F_law_rows : Fun K "_law_rows" "_law_rows" s_law_rows a.f_law_rows a.d_law_rows
  g_law_rows : mg "_law_rows" = some (.ref a.f_law_rows)
  b_law_rows : Binds K a.d_law_rows ["_law_dice_here", "_law_offices_here", "_law_many"] []
  F_law_doing : Fun K "_law_doing" "_law_doing" s_law_doing a.f_law_doing a.d_law_doing
  g_law_doing : mg "_law_doing" = some (.ref a.f_law_doing)
  b_law_doing : Binds K a.d_law_doing ["_law_dice_here", "_law_rows_here"] []
  F_law_led : Fun K "_law_led" "_law_led" s_law_led a.f_law_led a.d_law_led
  g_law_led : mg "_law_led" = some (.ref a.f_law_led)
  b_law_led : Binds K a.d_law_led ["_law_offices_here", "_law_rows_here", "_law_doing_here"] []
  F_law_find : Fun K "_law_find" "_law_find" s_law_find a.f_law_find a.d_law_find
  g_law_find : mg "_law_find" = some (.ref a.f_law_find)
  b_law_find : Binds K a.d_law_find ["_law_dice_here", "_law_offices_here", "_law_led_here"] []
  F_law_moved : Fun K "_law_moved" "_law_moved" s_law_moved a.f_law_moved a.d_law_moved
  g_law_moved : mg "_law_moved" = some (.ref a.f_law_moved)
  b_law_moved : Binds K a.d_law_moved ["_law_find_here", "_law_least", "_law_by"] []
  F_law_filled : Fun K "_law_filled" "_law_filled" s_law_filled a.f_law_filled a.d_law_filled
  g_law_filled : mg "_law_filled" = some (.ref a.f_law_filled)
  b_law_filled : Binds K a.d_law_filled ["_law_offices_here", "_law_rows_here", "_law_finds"] []
  F_law_put_right : Fun K "_law_put_right" "_law_put_right" s_law_put_right a.f_law_put_right a.d_law_put_right
  g_law_put_right : mg "_law_put_right" = some (.ref a.f_law_put_right)
  b_law_put_right : Binds K a.d_law_put_right ["_law_archive", "_law_offices_here", "_law_rows_here", "_law_finds", "_law_at", "_law_row_here", "_law_doing_here"] []
  F_law : Fun K "law" "law" s_law a.f_law a.d_law
  g_law : mg "law" = some (.ref a.f_law)
  b_law : Binds K a.d_law ["_law_script"] []
  gc_Log : mg "Log" = some (.ref a.c_Log)
  cl_Log : Cls K a.c_Log
  n_Log_offices : NoAttr K a.c_Log "offices"
  n_Log_rows : NoAttr K a.c_Log "rows"
  mk_Log : Mk K a.c_Log a.f_Log_init
  iC_Log : C8.InsC K a.c_Log
  gc_Archive : mg "Archive" = some (.ref a.c_Archive)
  cl_Archive : Cls K a.c_Archive
  n_Archive_log : NoAttr K a.c_Archive "log"
  n_Archive_finds : NoAttr K a.c_Archive "finds"
  n_Archive_past : NoAttr K a.c_Archive "past"
  mk_Archive : Mk K a.c_Archive a.f_Archive_init
  ne_Log : PySem.W.findIn K (.ref a.c_Log) "__ne__" = some (some (.builtin "object.__ne__"))
  nq : a.c_Log ≠ a.c_Archive
  g_MOST_OFFICES : ∃ t, mg "MOST_OFFICES" = some (.int 12 t)
  g_MOST_ROWS : ∃ t, mg "MOST_ROWS" = some (.int 60 t)
  g_MOST_FINDS : ∃ t, mg "MOST_FINDS" = some (.int 40 t)
  z_isinstance : mg "isinstance" = none
  z_int : mg "int" = none
  z_bool : mg "bool" = none
  z_tuple : mg "tuple" = none
  z_list : mg "list" = none
  z_len : mg "len" = none
  z_abs : mg "abs" = none
  z_all : mg "all" = none
  z_zip : mg "zip" = none
  z_range : mg "range" = none
  z_enumerate : mg "enumerate" = none
section
variable {P : Program} {w : World} {K : PySem.W.Frag} {mg : Str → Option Value} {base : Heap} {a : Ad}
/-! ### the drawn numbers -/
def sp_law_dice (K : PySem.W.Frag) : Sp := fun vs H Q _ => ∃ (s : Addr) (ns : List Int), vs = [.ref s] ∧ SqL K H s (ns.map V.int) ∧ ns.length ≤ 63 ∧ ∀ H' d c, Same H H' → H d = none → Dice d c H' → Q (.ref d) H'
theorem ok_law_dice (T : Txt K mg a) : FnOk P w K mg base CX0 1 a.f_law_dice a.d_law_dice ["_law_script"] (sp_law_dice K) := by
  refine T.F_law_dice.ok sc_law_dice (fun vs H Q E h => ?_) (fun cdv A outer s H vs Q E hr h => ?_)
  · obtain ⟨s, ns, rfl, _⟩ := h
    rfl
  · obtain ⟨s0, ns, rfl, hS, hlen, q⟩ := h
    refine ⟨_, (pss_one (ps_ret (pe_lst (pa_cons (pe_lc (own := [("_law_cell", 1)]) (g := (gName 1)) rfl sc_law_dice.nd (kiList K rfl (pe_slice (kSlL K rfl) (pv 0) po_none (po_some pe_int))) (blkOk_by (own := [("_law_cell", 1)]) (N := ["_law_script", "_law_cell"]) (sc := defScope s_law_dice) (by decide +kernel)) (fun _ _ _ _ _ => (pg_name (i := 1) sc_law_dice.nd rfl (.inl rfl))) (fun _ _ _ _ _ => pts_nil) (fun _ _ _ _ _ => (pe_callB call_abs (by rfl) T.z_abs (by decide +kernel) (pa_cons (pe_callTy call_int1 (by rfl) T.z_int (by decide +kernel) (pa_cons (pv 1) pa_nil)) pa_nil)))) (pa_cons pe_int (pa_cons pe_int (pa_cons pe_int (pa_cons pe_int pa_nil)))))))), ?_⟩
    refine ⟨.ref s0, rfl, 63, rfl, s0, ns.map V.int, rfl, hS, fun p np => ?_⟩
    refine ⟨p, rfl, ⟨_, SqL.new⟩, fun D nD => ?_⟩
    have npD : p ≠ D := fun e => by
      rw [← e, upd_same] at nD
      cases nD
    have nD0 : H D = none := by
      rw [upd_ne npD.symm] at nD
      exact nD
    refine lc_it (walk_list (K := K) (a := p) (xs := cutV (ns.map V.int) none (some 63))) (fun i H' => Same H H' ∧ H' p = some (.lst (cutV (ns.map V.int) none (some 63))) ∧ ∃ cs : List Int, H' D = some (.lst (cs.map V.int)) ∧ cs.length = i ∧ ∀ x ∈ cs, 0 ≤ x)
      ⟨Same.put (same_new np) nD0, ?_, [], upd_same, rfl, fun x hx => by cases hx⟩ (fun i H' _ h => SqL.at h.2.1) (fun i x H1 H2 hi h hy => ?_) (fun H' h => ?_)
    · rw [upd_ne npD, upd_same]
    · obtain ⟨sm, hp, cs, hD, hl, h0⟩ := h
      obtain ⟨rfl, hx⟩ := hy
      obtain ⟨z, rfl⟩ := cutV_int hx
      refine ⟨rfl, g_yes (iteT ?_)⟩
      refine ⟨.int z, rfl, .inl ⟨z, rfl, z, rfl, cs.map V.int, hD, ?_, Same.put sm nD0, ?_, cs ++ [if z < 0 then -z else z], ?_, ?_, ?_⟩⟩
      · rw [List.length_map, hl]
        have := cutV_length (ns.map V.int) none (some 63)
        rw [List.length_map] at this
        exact small1000 (by omega)
      · rw [upd_ne npD]
        exact hp
      · rw [upd_same, List.map_append]
        rfl
      · rw [List.length_append, hl]
        rfl
      · intro x hx
        rcases List.mem_append.mp hx with hx | hx
        · exact h0 x hx
        · rw [List.mem_singleton.mp hx]
          split <;> omega
    · obtain ⟨sm, hp, cs, hD, hl, h0⟩ := h
      refine ⟨by show 5 ≤ sizeLine; decide, fun d nd => ?_⟩
      refine q _ d D (sm.trans (same_new nd)) ?_ ⟨cs, 0, 0, 1, 0, upd_same, ?_, ?_, h0, by decide, by decide, by decide, by decide, by decide⟩
      · exact sm.free nd
      · rw [upd_ne (ne_of_none hD nd)]
        exact hD
      · exact ne_of_none hD nd
def sp_law_draw : Sp := fun vs H Q _ => ∃ (d c : Addr) (n : Int), vs = [.ref d, .int n] ∧ Dice d c H ∧ 0 < n ∧ n ≤ 1000000000000 ∧ ∀ H' r, Fr d H H' → Dice d c H' → 0 ≤ r → r < n → Q (.int r) H'
theorem ok_law_draw (T : Txt K mg a) : FnOk P w K mg base CX0 1 a.f_law_draw a.d_law_draw ["_law_dice_here", "_law_sides"] sp_law_draw := by
  refine T.F_law_draw.ok sc_law_draw (fun vs H Q E h => ?_) (fun cdv A outer s H vs Q E hr h => ?_)
  · obtain ⟨d, c, n, rfl, _⟩ := h
    rfl
  · obtain ⟨d, c, n, rfl, hD, n0, n1, q⟩ := h
    refine ⟨_, (pss_cons (ps_if (PW.pt (pw_and (pt_cmpR op_eq (pe_ix (kIxL K rfl) (pv 0) pe_int (fun _ _ => rfl)) pe_int (nomark _)) (pw_and1 (pt_cmpR op_lt (pe_ix (kIxL K rfl) (pv 0) pe_int (fun _ _ => rfl)) (pe_callB (kLen K rfl) (by rfl) T.z_len (by decide +kernel) (pa_cons (pe_ix (kIxL K rfl) (pv 0) pe_int (fun _ _ => rfl)) pa_nil)) (nomark _)))))
  (pss_cons (ps_set (i := 2) sc_law_draw.nd rfl (.inl rfl) (pe_ix (kIxL K rfl) (pe_ix (kIxL K rfl) (pv 0) pe_int (fun _ _ => rfl)) (pe_ix (kIxL K rfl) (pv 0) pe_int (fun _ _ => rfl)) (fun _ _ => rfl)))
  (pss_cons (ps_asg (pe_op op_add (pe_ix (kIxL K rfl) (pv 0) pe_int (fun _ _ => rfl)) pe_int) (pg_sub (pv 0) pe_int set_list))
  (pss_one (ps_if (pt_cmpR op_ge (pv 2) (pe_op op_pow pe_int pe_int) (nomark _))
  (pss_one (ps_asg (pv 2) (pg_sub (pv 0) pe_int set_list)))
  (pss_one (ps_asg (pe_op op_mod (pe_callTy call_int1 (by rfl) T.z_int (by decide +kernel) (pa_cons (pe_op op_add (pe_op op_add (pe_op op_mul (pe_ix (kIxL K rfl) (pv 0) pe_int (fun _ _ => rfl)) pe_int) (pe_op op_mul (pv 2) pe_int)) (pe_ix (kIxL K rfl) (pv 0) pe_int (fun _ _ => rfl))) pa_nil)) pe_int) (pg_sub (pv 0) pe_int set_list)))))))
  pss_nil)
  (pss_cons (ps_if (pt_cmpR op_gt (pe_ix (kIxL K rfl) (pv 0) pe_int (fun _ _ => rfl)) pe_int (nomark _))
  (pss_cons (ps_set (i := 3) sc_law_draw.nd rfl (.inl rfl) (pe_op op_mod (pe_callTy call_int1 (by rfl) T.z_int (by decide +kernel) (pa_cons (pe_ix (kIxL K rfl) (pv 0) pe_int (fun _ _ => rfl)) pa_nil)) (pv 1)))
  (pss_cons (ps_asg (pe_op op_fdivW (pe_callTy call_int1 (by rfl) T.z_int (by decide +kernel) (pa_cons (pe_ix (kIxL K rfl) (pv 0) pe_int (fun _ _ => rfl)) pa_nil)) (pv 1)) (pg_sub (pv 0) pe_int set_list))
  (pss_one (ps_ret (pv 3)))))
  pss_nil)
  (pss_cons (ps_asg (pe_op op_add (pe_ix (kIxL K rfl) (pv 0) pe_int (fun _ _ => rfl)) pe_int) (pg_sub (pv 0) pe_int set_list))
  (pss_cons (ps_asg (pe_op op_mod (pe_callTy call_int1 (by rfl) T.z_int (by decide +kernel) (pa_cons (pe_op op_add (pe_op op_add (pe_op op_mul (pe_ix (kIxL K rfl) (pv 0) pe_int (fun _ _ => rfl)) pe_int) (pe_op op_mul (pe_ix (kIxL K rfl) (pv 0) pe_int (fun _ _ => rfl)) pe_int)) pe_int) pa_nil)) pe_int) (pg_sub (pv 0) pe_int set_list))
  (pss_cons (ps_set (i := 4) sc_law_draw.nd rfl (.inl rfl) (pe_op op_mod (pe_callTy call_int1 (by rfl) T.z_int (by decide +kernel) (pa_cons (pe_op op_mul (pe_ix (kIxL K rfl) (pv 0) pe_int (fun _ _ => rfl)) (pe_op op_add (pe_op op_fdiv (pe_ix (kIxL K rfl) (pv 0) pe_int (fun _ _ => rfl)) pe_int) pe_int)) pa_nil)) pe_int))
  (pss_cons (ps_set (i := 4) sc_law_draw.nd rfl (.inl rfl) (pe_op op_mod (pe_callTy call_int1 (by rfl) T.z_int (by decide +kernel) (pa_cons (pe_op op_mul (pv 4) (pe_op op_add (pe_op op_fdiv (pv 4) pe_int) pe_int)) pa_nil)) pe_int))
  (pss_one (ps_ret (pe_op op_mod (pe_callTy call_int1 (by rfl) T.z_int (by decide +kernel) (pa_cons (pe_op op_fdiv (pv 4) pe_int) pa_nil)) (pv 1)))))))))), ?_⟩
    obtain ⟨cs, i, qq, s1, t, h1, h2, ncd, h0, hi, hq, hs, hs2, ht⟩ := hD
    refine seq_cut (fun σ' H' => ∃ y2 i' q' s', σ' = [some (.ref d), some (.int n), y2, none, none] ∧ H' d = some (.lst [.ref c, .int i', .int q', .int s', .int t]) ∧ H' c = some (.lst (cs.map V.int)) ∧ Fr d H H' ∧ 0 ≤ i' ∧ 0 ≤ q' ∧ 0 ≤ s' ∧ s' < 2147483648) ?rest ?first
    case first =>
      intro N hN
      walk_at "go"
      refine g_ixL (SqL.at h1) rfl ?_
      walk_at "go"
      refine g_ite (fun e0 => ?_) (fun e0 => ?_)
      · walk_at "go"
        refine g_ixL (SqL.at h1) rfl ?_
        walk_at "go"
        refine g_ixL (SqL.at h1) rfl ?_
        walk_at "go"
        refine ⟨_, _, rfl, .inl (SqL.at h2), ?_⟩
        walk_at "go"
        refine g_ite (fun e1 => ?_) (fun e1 => ?_)
        · obtain ⟨z, hz, _, ez⟩ := atI_int hi e1
          walk_at "go"
          refine g_ixL (SqL.at h1) rfl ?_
          walk_at "go"
          refine g_ixL (SqL.at h1) rfl ?_
          walk_at "go"
          refine g_ixL (SqL.at h2) ez ?_
          walk_at "go"
          refine g_ixL (SqL.at h1) rfl ?_
          walk_at "go"
          refine g_setL h1 rfl ?_
          have h1' : upd H d (.lst [.ref c, .int (i + 1), .int qq, .int s1, .int t]) d = some (.lst [.ref c, .int (i + 1), .int qq, .int s1, .int t]) := upd_same
          have h2' : upd H d (.lst [.ref c, .int (i + 1), .int qq, .int s1, .int t]) c = some (.lst (cs.map V.int)) := by rw [upd_ne ncd]; exact h2
          walk_at "go"
          refine g_rI ⟨by decide, by decide, by decide⟩ ?_
          walk_at "go"
          have z0 := h0 z hz
          refine g_ite (fun e2 => ?_) (fun e2 => ?_)
          · walk_at "go"
            refine g_setL h1' rfl ?_
            refine hN _ _ ⟨_, i + 1, z, s1, rfl, upd_same, by rw [upd_ne ncd]; exact h2', Fr.upd.trans Fr.upd, by omega, z0, hs, hs2⟩
          · have e3 : z < 10 ^ 18 := by
              rw [show (10 : Int) ^ (Int.toNat 18) = 1000000000000000000 from rfl] at e2
              omega
            walk_at "go"
            refine g_ixL (SqL.at h1') rfl ?_
            walk_at "go"
            refine g_rI (.inl ⟨by omega, by omega⟩) ?_
            walk_at "go"
            refine g_rI (.inl ⟨by omega, by omega⟩) ?_
            walk_at "go"
            refine g_ixL (SqL.at h1') rfl ?_
            walk_at "go"
            refine g_rI (by decide) ?_
            walk_at "go"
            refine g_setL h1' rfl ?_
            refine hN _ _ ⟨_, i + 1, qq, _, rfl, upd_same, by rw [upd_ne ncd]; exact h2', Fr.upd.trans Fr.upd, by omega, hq, ?_, ?_⟩
            · exact Int.emod_nonneg _ (by decide)
            · have := Int.emod_lt_of_pos (s1 * 69621 + z * 40692 + (i + 1)) (show (0 : Int) < 2147483647 by decide)
              omega
        · walk_at "go"
          exact hN _ _ ⟨_, i, qq, s1, rfl, h1, h2, Fr.refl d H, hi, hq, hs, hs2⟩
      · walk_at "go"
        exact hN _ _ ⟨_, i, qq, s1, rfl, h1, h2, Fr.refl d H, hi, hq, hs, hs2⟩
    case rest =>
      rintro σ' H1 ⟨y2, i, qq, s1, rfl, h1, h2, fr, hi, hq, hs, hs2⟩
      walk_at "go"
      refine g_ixL (SqL.at h1) rfl ?_
      walk_at "go"
      refine g_ite (fun e0 => ?_) (fun e0 => ?_)
      · walk_at "go"
        refine g_ixL (SqL.at h1) rfl ?_
        walk_at "go"
        refine g_rI n0 ?_
        walk_at "go"
        refine g_ixL (SqL.at h1) rfl ?_
        walk_at "go"
        refine g_rI (wide_div n0 (b := 60) (by omega) (by decide) (by decide)) ?_
        walk_at "go"
        refine g_setL h1 rfl ?_
        walk_at "go"
        exact q _ _ (fr.trans Fr.upd) ⟨cs, i, _, s1, t, upd_same, by rw [upd_ne ncd]; exact h2, ncd, h0, hi, Int.ediv_nonneg hq (by omega), hs, hs2, ht⟩ (Int.emod_nonneg _ (by omega)) (Int.emod_lt_of_pos _ n0)
      · walk_at "go"
        refine g_ixL (SqL.at h1) rfl ?_
        walk_at "go"
        refine g_setL h1 rfl ?_
        have h1' : upd H1 d (.lst [.ref c, .int i, .int qq, .int s1, .int (t + 1)]) d = some (.lst [.ref c, .int i, .int qq, .int s1, .int (t + 1)]) := upd_same
        walk_at "go"
        refine g_ixL (SqL.at h1') rfl ?_
        walk_at "go"
        refine g_rI (.inl ⟨by omega, by omega⟩) ?_
        walk_at "go"
        refine g_ixL (SqL.at h1') rfl ?_
        walk_at "go"
        refine g_rI (.inr ⟨by decide, by decide⟩) ?_
        walk_at "go"
        refine g_rI (by decide) ?_
        walk_at "go"
        refine g_setL h1' rfl ?_
        generalize hw : (s1 * 48271 + (t + 1) * 7919 + 1) % 2147483647 = w1
        have w0 : 0 ≤ w1 := by rw [← hw]; exact Int.emod_nonneg _ (by decide)
        have w2 : w1 < 2147483647 := by rw [← hw]; exact Int.emod_lt_of_pos _ (by decide)
        have h1'' : upd (upd H1 d (.lst [.ref c, .int i, .int qq, .int s1, .int (t + 1)])) d (.lst [.ref c, .int i, .int qq, .int w1, .int (t + 1)]) d = some (.lst [.ref c, .int i, .int qq, .int w1, .int (t + 1)]) := upd_same
        walk_at "go"
        refine g_ixL (SqL.at h1'') rfl ?_
        walk_at "go"
        refine g_ixL (SqL.at h1'') rfl ?_
        walk_at "go"
        refine g_rI ⟨by decide, by decide⟩ ?_
        walk_at "go"
        refine g_rI (.inl ⟨by omega, by omega⟩) ?_
        walk_at "go"
        refine g_rI (by decide) ?_
        generalize hm : (w1 * (w1 / 1009 + 69623)) % 2147483399 = m1
        have m0 : 0 ≤ m1 := by rw [← hm]; exact Int.emod_nonneg _ (by decide)
        have m2 : m1 < 2147483399 := by rw [← hm]; exact Int.emod_lt_of_pos _ (by decide)
        walk_at "go"
        refine g_rI ⟨by decide, by decide⟩ ?_
        walk_at "go"
        refine g_rI (.inl ⟨by omega, by omega⟩) ?_
        walk_at "go"
        refine g_rI (by decide) ?_
        walk_at "go"
        refine g_rI ⟨by decide, by decide⟩ ?_
        walk_at "go"
        refine g_rI n0 ?_
        exact q _ _ ((fr.trans Fr.upd).trans Fr.upd) ⟨cs, i, qq, w1, t + 1, upd_same, by rw [upd_ne ncd, upd_ne ncd]; exact h2, ncd, h0, hi, hq, w0, by omega, by omega⟩ (Int.emod_nonneg _ (by omega)) (Int.emod_lt_of_pos _ n0)

end

section
variable {P : Program} {w : World} {K : PySem.W.Frag} {mg : Str → Option Value} {base : Heap} {a : Ad}
/-! ### kinds -/
def sp_is_integer (K : PySem.W.Frag) : Sp := fun vs H Q _ => ∃ v b, vs = [v] ∧ IntK K H v b ∧ Q (.bl b) H
theorem ok_is_integer (T : Txt K mg a) : FnOk P w K mg base CX0 1 a.f_is_integer a.d_is_integer ["thing"] (sp_is_integer K) := by
  refine T.F_is_integer.ok sc_is_integer (fun vs H Q E h => ?_) (fun cdv A outer s H vs Q E hr h => ?_)
  · obtain ⟨v, b, rfl, _⟩ := h
    rfl
  · obtain ⟨v, b, rfl, ⟨t, b1, b2, ty, k1, k2, rfl⟩, q⟩ := h
    refine ⟨_, (pss_one (ps_ret (pe_and (pe_callB (kIsi K rfl) (by rfl) T.z_isinstance (by decide +kernel) (pa_cons (pv 0) (pa_cons (pe_bltn (v := .ty "int") (by rfl) T.z_int (by decide +kernel) rfl) pa_nil))) (pe_one (pe_not (pe_callB (kIsi K rfl) (by rfl) T.z_isinstance (by decide +kernel) (pa_cons (pv 0) (pa_cons (pe_bltn (v := .ty "bool") (by rfl) T.z_bool (by decide +kernel) rfl) pa_nil)))))))), ?_⟩
    walk_at "go"
    refine g_isi ty k1 ?_
    walk_at "go"
    cases b1 with
    | true =>
      walk_at "go"
      refine g_isi ty k2 ?_
      walk_at "go"
      exact q
    | false =>
      walk_at "go"
      exact q
def sp_is_between (K : PySem.W.Frag) : Sp := fun vs H Q _ => ∃ v lo hi, vs = [v, .int lo, .int hi] ∧ ((∃ i, v = .int i ∧ Q (.bl (decide (lo ≤ i ∧ i ≤ hi))) H) ∨ (IntK K H v false ∧ Q (.bl false) H))
theorem ok_is_between (T : Txt K mg a) : FnOk P w K mg base CX0 2 a.f_is_between a.d_is_between ["thing", "least", "most"] (sp_is_between K) := by
  refine T.F_is_between.ok sc_is_between (fun vs H Q E h => ?_) (fun cdv A outer s H vs Q E hr h => ?_)
  · obtain ⟨v, lo, hi, rfl, _⟩ := h
    rfl
  · obtain ⟨v, lo, hi, rfl, h⟩ := h
    refine ⟨_, (pss_one (ps_ret (pe_and (pe_call (ok_is_integer T) (hr.mono (by first | decide | omega)) (by rfl) T.g_is_integer T.F_is_integer.kp (T.b_is_integer) .nil pass0 (pa_cons (pv 0) pa_nil)) (pe_one (pe_chain op_le op_le (pv 1) (pv 0) (pv 2)))))), ?_⟩
    rcases h with ⟨i, rfl, q⟩ | ⟨k, q⟩
    · walk_at "go"
      refine ⟨_, _, rfl, IntK.int i, ?_⟩
      walk_at "go"
      refine g_ite (fun e1 => ?_) (fun e1 => ?_)
      · walk_at "go"
        rw [show decide (i ≤ hi) = decide (lo ≤ i ∧ i ≤ hi) from by simp [e1]]
        exact q
      · walk_at "go"
        rw [show false = decide (lo ≤ i ∧ i ≤ hi) from by simp [e1]]
        exact q
    · walk_at "go"
      refine ⟨_, _, rfl, k, ?_⟩
      walk_at "go"
      exact q
def sp_is_number (K : PySem.W.Frag) : Sp := fun vs H Q _ => ∃ v n, vs = [v, .int n] ∧ ((∃ i, v = .int i ∧ Q (.bl (decide (0 ≤ i ∧ i < n))) H) ∨ (IntK K H v false ∧ Q (.bl false) H))
theorem ok_is_number (T : Txt K mg a) : FnOk P w K mg base CX0 3 a.f_is_number a.d_is_number ["thing", "many"] (sp_is_number K) := by
  refine T.F_is_number.ok sc_is_number (fun vs H Q E h => ?_) (fun cdv A outer s H vs Q E hr h => ?_)
  · obtain ⟨v, n, rfl, _⟩ := h
    rfl
  · obtain ⟨v, n, rfl, h⟩ := h
    refine ⟨_, (pss_one (ps_ret (pe_call (ok_is_between T) (hr.mono (by first | decide | omega)) (by rfl) T.g_is_between T.F_is_between.kp (T.b_is_between) .nil pass0 (pa_cons (pv 0) (pa_cons pe_int (pa_cons (pe_op op_sub (pv 1) pe_int) pa_nil)))))), ?_⟩
    rcases h with ⟨i, rfl, q⟩ | ⟨k, q⟩
    · walk_at "go"
      refine ⟨_, _, _, rfl, .inl ⟨i, rfl, ?_⟩⟩
      rw [show decide (0 ≤ i ∧ i ≤ n - 1) = decide (0 ≤ i ∧ i < n) from by
        rw [Bool.eq_iff_iff, decide_eq_true_iff, decide_eq_true_iff]; omega]
      exact q
    · walk_at "go"
      exact ⟨_, _, _, rfl, .inr ⟨k, q⟩⟩

end

section
variable {P : Program} {w : World} {K : PySem.W.Frag} {mg : Str → Option Value} {base : Heap} {a : Ad}
/-! ### data at a place, isinstance of two kinds -/
theorem DpAll.get {K : PySem.W.Frag} {H : Hp} {vs : List V} {ds : List PyData} {i : Nat} {v : V} (h : DpAll K H vs ds) (e : vs[i]? = some v) : ∃ d, ds[i]? = some d ∧ Dp K H v d := by
  have hl : i < ds.length := by rw [← DpAll.len h]; exact (List.getElem?_eq_some_iff.mp e).1
  exact ⟨_, List.getElem?_eq_getElem hl, DpAll.at h e (List.getElem?_eq_getElem hl)⟩
theorem g_isiT {K : PySem.W.Frag} {H : Hp} {Q : VK} {x : V} {p : Addr} {n m : String} {t : Value} {b b2 : Bool} (hp : H p = some (.tup [.ty n, .ty m])) (ty : TyX K H x t) (k : PySem.W.kitOne K t (.type n) = some b) (k2 : PySem.W.kitOne K t (.type m) = some b2) (q : Q (.bl (b || b2)) H) : rIsiT K [x, .ref p] H Q :=
  ⟨x, p, _, t, [.type n, .type m], _, rfl, hp, .cons (.ty n) (.cons (.ty m) .nil), ty, kitAny2 k k2, q⟩

end

section
variable {P : Program} {w : World} {K : PySem.W.Frag} {mg : Str → Option Value} {base : Heap} {a : Ad}
theorem small100k {n : Nat} (h : n ≤ 100000) : n < sizeLine := Nat.lt_of_le_of_lt h (by decide)
theorem numsT {K : PySem.W.Frag} {H : Hp} {p : Addr} {xs : List V} (h : SqT K H p xs) : SqT K H p xs := h
def sp_are_numbers (K : PySem.W.Frag) : Sp := fun vs H Q _ => ∃ (p : Addr) (ns : List Int) (n : Int), vs = [.ref p, .int n] ∧ SqT K H p (ns.map V.int) ∧ ns.length ≤ 100000 ∧ ∀ H', Same H H' → Q (.bl (ns.all fun i => decide (0 ≤ i ∧ i < n))) H'
theorem ok_are_numbers (T : Txt K mg a) : FnOk P w K mg base CX0 4 a.f_are_numbers a.d_are_numbers ["things", "many"] (sp_are_numbers K) := by
  refine T.F_are_numbers.ok sc_are_numbers (fun vs H Q E h => ?_) (fun cdv A outer s H vs Q E hr h => ?_)
  · obtain ⟨p, ns, n, rfl, _⟩ := h
    rfl
  · obtain ⟨p, ns, n, rfl, hp, hl, q⟩ := h
    refine ⟨_, (pss_one (ps_ret (pe_callB (kAll K rfl rfl) (by rfl) T.z_all (by decide +kernel) (pa_cons (pe_lc (own := [("thing", 2)]) (g := (gName 2)) rfl sc_are_numbers.nd (kiTup K rfl (pv 0)) (blkOk_by (own := [("thing", 2)]) (N := ["things", "many", "thing"]) (sc := defScope s_are_numbers) (by decide +kernel)) (fun _ _ _ _ _ => (pg_name (i := 2) sc_are_numbers.nd rfl (.inl rfl))) (fun _ _ _ _ _ => pts_nil) (fun _ _ _ _ _ => (pe_call (ok_is_number T) (hr.mono (by first | decide | omega)) (by rfl) T.g_is_number T.F_is_number.kp (T.b_is_number) .nil pass0 (pa_cons (pv 2) (pa_cons (pv 1) pa_nil))))) pa_nil)))), ?_⟩
    walk_at "go"
    refine ⟨_, rfl, ⟨_, hp⟩, fun D nD => ?_⟩
    refine lc_same (H0 := H) (walk_tup (K := K) (a := p) (xs := ns.map V.int)) (fun i => ((ns.take i).map fun i => decide (0 ≤ i ∧ i < n)).map V.bl) rfl (fun i _ => ?_) (Same.refl H) nD nD (fun H' s => (Tx.of s).seq hp) (fun i x H1 H2 C Cn hi s hy hC hN => ?_) (fun H' s hD => ?_)
    · rw [List.length_map, List.length_map, List.length_take]
      exact small100k (by omega)
    · obtain ⟨rfl, hx⟩ := hy
      rw [List.getElem?_map] at hx
      cases hz : ns[i]? with
      | none => rw [hz] at hx; cases hx
      | some z =>
        rw [hz] at hx
        cases hx
        refine ⟨rfl, ?_⟩
        walk_at "go"
        refine ⟨_, _, rfl, .inl ⟨z, rfl, hC _ _ (Same.refl _) ?_⟩⟩
        rw [take_snoc hz, List.map_append, List.map_append]
        rfl
    · walk_at "go"
      rw [List.length_map] at hD
      refine ⟨D, _, rfl, SqL.at hD, ?_⟩
      rw [List.take_length, List.all_map]
      exact q _ s

end

section
variable {P : Program} {w : World} {K : PySem.W.Frag} {mg : Str → Option Value} {base : Heap} {a : Ad}
/-! ### alike -/
mutual
def dep : PyData → Nat
  | .tuple ds => depAll ds + 1
  | .list ds => depAll ds + 1
  | _ => 0
def depAll : List PyData → Nat
  | [] => 0
  | d :: ds => max (dep d) (depAll ds)
end
mutual
def sm : PyData → Bool
  | .tuple ds => decide (ds.length ≤ 1000000) && smAll ds
  | .list ds => decide (ds.length ≤ 1000000) && smAll ds
  | _ => true
def smAll : List PyData → Bool
  | [] => true
  | d :: ds => sm d && smAll ds
end
theorem dep_at : ∀ {ds : List PyData} {i : Nat} {d : PyData}, ds[i]? = some d → dep d ≤ depAll ds
  | [], _, _, h => by simp at h
  | e :: ds, 0, _, h => by
    cases h
    unfold depAll
    omega
  | e :: ds, i + 1, _, h => by
    have := dep_at (ds := ds) (i := i) (by simpa using h)
    unfold depAll
    omega
theorem sm_at : ∀ {ds : List PyData} {i : Nat} {d : PyData}, smAll ds = true → ds[i]? = some d → sm d = true
  | [], _, _, _, h => by simp at h
  | e :: ds, 0, _, s, h => by
    cases h
    unfold smAll at s
    rw [Bool.and_eq_true] at s
    exact s.1
  | e :: ds, i + 1, _, s, h => by
    unfold smAll at s
    rw [Bool.and_eq_true] at s
    exact sm_at (ds := ds) (i := i) s.2 (by simpa using h)
/-- what tells that data are no tuple and no list -/
def leafD : PyData → Bool
  | .tuple _ => false
  | .list _ => false
  | .dict _ => false
  | _ => true
theorem leaf_kit {K : PySem.W.Frag} {d : PyData} (h : leafD d = true) : PySem.W.kitOne K (.type (tyD d)) (.type "tuple") = some false ∧ PySem.W.kitOne K (.type (tyD d)) (.type "list") = some false ∧ ∃ b, PySem.W.kitOne K (.type (tyD d)) (.type "bool") = some b := by
  cases d with
  | none => exact ⟨kit_ty (a := "NoneType") (by decide +kernel), kit_ty (a := "NoneType") (by decide +kernel), false, kit_ty (a := "NoneType") (by decide +kernel)⟩
  | bool z => exact ⟨kit_ty (a := "bool") (by decide +kernel), kit_ty (a := "bool") (by decide +kernel), true, kit_ty (a := "bool") (by decide +kernel)⟩
  | int z => exact ⟨kit_ty (a := "int") (by decide +kernel), kit_ty (a := "int") (by decide +kernel), false, kit_ty (a := "int") (by decide +kernel)⟩
  | str z => exact ⟨kit_ty (a := "str") (by decide +kernel), kit_ty (a := "str") (by decide +kernel), false, kit_ty (a := "str") (by decide +kernel)⟩
  | tuple z => cases h
  | list z => cases h
  | dict z => cases h
theorem all_rep (n : Nat) : (List.replicate n true).all id = true := by
  rw [List.all_eq_true]
  intro x hx
  exact (List.mem_replicate.mp hx).2
def sp_law_is (K : PySem.W.Frag) (n : Nat) : Sp := fun vs H Q _ => ∃ x y d, vs = [x, y] ∧ Dp K H x d ∧ Dp K H y d ∧ dep d ≤ n ∧ sm d = true ∧ ∀ H', Same H H' → Q (.bl true) H'
theorem FnOk.cases3 {k : Nat} {f : Addr} {fd : FuncData} {ps : List Str} {sp sp1 sp2 sp3 : Sp} (F1 : FnOk P w K mg base CX0 k f fd ps sp1) (F2 : FnOk P w K mg base CX0 k f fd ps sp2) (F3 : FnOk P w K mg base CX0 k f fd ps sp3) (h : ∀ vs H Q E, sp vs H Q E → sp1 vs H Q E ∨ sp2 vs H Q E ∨ sp3 vs H Q E) : FnOk P w K mg base CX0 k f fd ps sp where
  len := fun vs H Q E q => by
    rcases h vs H Q E q with q | q | q
    · exact F1.len vs H Q E q
    · exact F2.len vs H Q E q
    · exact F3.len vs H Q E q
  run := fun A outer s H args us vs Q E hr e b r q => by
    rcases h vs H Q E q with q | q | q
    · exact F1.run A outer s H args us vs Q E hr e b r q
    · exact F2.run A outer s H args us vs Q E hr e b r q
    · exact F3.run A outer s H args us vs Q E hr e b r q
end

section
variable {P : Program} {w : World} {K : PySem.W.Frag} {mg : Str → Option Value} {base : Heap} {a : Ad}
/-! ### rows, logs -/
def sp_is_tuple_of (K : PySem.W.Frag) : Sp := fun vs H Q _ => ∃ v n, vs = [v, .int n] ∧ ((∃ p xs, v = .ref p ∧ SqT K H p xs ∧ Q (.bl (decide ((xs.length : Int) = n))) H) ∨ (∃ t, TyX K H v t ∧ PySem.W.kitOne K t (.type "tuple") = some false ∧ Q (.bl false) H))
theorem TyX.tup {K : PySem.W.Frag} {H : Hp} {p : Addr} {xs : List V} (h : SqT K H p xs) : TyX K H (.ref p) (.type "tuple") := by
  rcases h with (q | ⟨o, q⟩) | ⟨o, its, n, e, c, _⟩
  · exact .base (.tup q)
  · exact .fTuple q
  · exact .kTuple e c
theorem ok_is_tuple_of (T : Txt K mg a) : FnOk P w K mg base CX0 1 a.f_is_tuple_of a.d_is_tuple_of ["thing", "many"] (sp_is_tuple_of K) := by
  refine T.F_is_tuple_of.ok sc_is_tuple_of (fun vs H Q E h => ?_) (fun cdv A outer s H vs Q E hr h => ?_)
  · obtain ⟨v, n, rfl, _⟩ := h
    rfl
  · obtain ⟨v, n, rfl, h⟩ := h
    refine ⟨_, (pss_one (ps_ret (pe_and (pe_callB (kIsi K rfl) (by rfl) T.z_isinstance (by decide +kernel) (pa_cons (pv 0) (pa_cons (pe_bltn (v := .ty "tuple") (by rfl) T.z_tuple (by decide +kernel) rfl) pa_nil))) (pe_one (pe_cmpR op_eq (pe_callB (kLen K rfl) (by rfl) T.z_len (by decide +kernel) (pa_cons (pv 0) pa_nil)) (pv 1) (nomark _)))))), ?_⟩
    rcases h with ⟨p, xs, rfl, hp, q⟩ | ⟨t, ty, k, q⟩
    · walk_at "go"
      refine g_isi (TyX.tup hp) (b := true) (kit_ty (a := "tuple") (by decide +kernel)) ?_
      walk_at "go"
      refine ⟨_, _, rfl, .inr hp, ?_⟩
      walk_at "go"
      exact q
    · walk_at "go"
      refine g_isi ty k ?_
      walk_at "go"
      exact q
/-- a good row -/
def sp_is_row (K : PySem.W.Frag) : Sp := fun vs H Q _ => ∃ v n r, vs = [.int n, v] ∧ Dp K H v (rowD r) ∧ GoodRow n r ∧ Q (.bl true) H
theorem ok_is_copying (T : Txt K mg a) : FnOk P w K mg base CX0 4 a.f_is_copying a.d_is_copying ["offices", "thing"] (sp_is_row K) := by
  refine T.F_is_copying.ok sc_is_copying (fun vs H Q E h => ?_) (fun cdv A outer s H vs Q E hr h => ?_)
  · obtain ⟨v, n, r, rfl, _⟩ := h
    rfl
  · obtain ⟨v, n, r, rfl, hv, ⟨g1, g2, g3, g4, g5⟩, q⟩ := h
    obtain ⟨p, rfl, hp⟩ := of_row hv
    refine ⟨_, (pss_cons (ps_if (pt_not (pt_val (pe_call (ok_is_tuple_of T) (hr.mono (by first | decide | omega)) (by rfl) T.g_is_tuple_of T.F_is_tuple_of.kp (T.b_is_tuple_of) .nil pass0 (pa_cons (pv 1) (pa_cons pe_int pa_nil)))))
  (pss_one (ps_ret pe_bl))
  pss_nil)
  (pss_cons (ps_asg (pv 1) (kgTup K rfl rfl (pgs_cons (pg_name (i := 2) sc_is_copying.nd rfl (.inl rfl)) (pgs_cons (pg_name (i := 3) sc_is_copying.nd rfl (.inl rfl)) (pgs_cons (pg_name (i := 4) sc_is_copying.nd rfl (.inl rfl)) pgs_nil)))))
  (pss_cons (ps_if (PW.pt (pw_or (pt_not (pt_val (pe_call (ok_is_number T) (hr.mono (by first | decide | omega)) (by rfl) T.g_is_number T.F_is_number.kp (T.b_is_number) .nil pass0 (pa_cons (pv 2) (pa_cons (pv 0) pa_nil))))) (pw_or1 (pt_not (pt_val (pe_call (ok_is_number T) (hr.mono (by first | decide | omega)) (by rfl) T.g_is_number T.F_is_number.kp (T.b_is_number) .nil pass0 (pa_cons (pv 3) (pa_cons (pv 0) pa_nil))))))))
  (pss_one (ps_ret pe_bl))
  pss_nil)
  (pss_one (ps_ret (pe_and (pe_cmpR op_ne (pv 2) (pv 3) (nomark _)) (pe_one (pe_callB (kIsi K rfl) (by rfl) T.z_isinstance (by decide +kernel) (pa_cons (pv 4) (pa_cons (pe_bltn (v := .ty "bool") (by rfl) T.z_bool (by decide +kernel) rfl) pa_nil)))))))))), ?_⟩
    walk_at "go"
    refine ⟨_, _, rfl, .inl ⟨p, _, rfl, hp, ?_⟩⟩
    rw [decide_eq_true (show (([V.int r.1, V.int r.2.1, V.bl r.2.2].length : Nat) : Int) = 3 from rfl)]
    walk_at "go"
    refine ⟨p, _, rfl, hp, rfl, _, _, rfl, _, _, rfl, _, _, rfl, rfl, ?_⟩
    walk_at "go"
    refine ⟨_, _, rfl, .inl ⟨_, rfl, ?_⟩⟩
    rw [decide_eq_true (show 0 ≤ r.1 ∧ r.1 < n from ⟨g1, g2⟩)]
    walk_at "go"
    refine ⟨_, _, rfl, .inl ⟨_, rfl, ?_⟩⟩
    rw [decide_eq_true (show 0 ≤ r.2.1 ∧ r.2.1 < n from ⟨g3, g4⟩)]
    walk_at "go"
    rw [decide_eq_false (show ¬ r.1 = r.2.1 by omega)]
    walk_at "go"
    refine g_isi (b := true) (.base (.bl _)) (kit_ty (a := "bool") (by decide +kernel)) ?_
    exact q
theorem ok_is_row (T : Txt K mg a) : FnOk P w K mg base CX0 5 a.f_is_row a.d_is_row ["offices", "thing"] (sp_is_row K) := by
  refine T.F_is_row.ok sc_is_row (fun vs H Q E h => ?_) (fun cdv A outer s H vs Q E hr h => ?_)
  · obtain ⟨v, n, r, rfl, _⟩ := h
    rfl
  · obtain ⟨v, n, r, rfl, hv, hg, q⟩ := h
    obtain ⟨g1, g2, g3, g4, g5⟩ := id hg
    obtain ⟨p, rfl, hp⟩ := of_row hv
    refine ⟨_, (pss_one (ps_ret (pe_and (pe_call (ok_is_copying T) (hr.mono (by first | decide | omega)) (by rfl) T.g_is_copying T.F_is_copying.kp (T.b_is_copying) .nil pass0 (pa_cons (pv 0) (pa_cons (pv 1) pa_nil))) (pe_one (pe_cmpR op_eq (pe_callB call_abs (by rfl) T.z_abs (by decide +kernel) (pa_cons (pe_op op_sub (pe_ix (kIxT K rfl) (pv 1) pe_int (fun _ _ => rfl)) (pe_ix (kIxT K rfl) (pv 1) pe_int (fun _ _ => rfl))) pa_nil)) pe_int (nomark _)))))), ?_⟩
    walk_at "go"
    refine ⟨_, n, r, rfl, hv, hg, ?_⟩
    walk_at "go"
    refine g_ixT hp (v := .int r.1) rfl ?_
    walk_at "go"
    refine g_ixT hp (v := .int r.2.1) rfl ?_
    walk_at "go"
    refine ⟨_, rfl, ?_⟩
    walk_at "go"
    rw [decide_eq_true (show (if r.1 - r.2.1 < 0 then -(r.1 - r.2.1) else r.1 - r.2.1) = 1 from by split <;> omega)]
    exact q
theorem g_enT {K : PySem.W.Frag} {σ : L2.St} {H : Hp} {R : It → Hp → Prop} {ta : TA} (q : ta σ H fun vs H1 => ∃ p xs, vs = [.ref p] ∧ SqT K H1 p xs ∧ R (IteT K p) H1) : (fun σ H R => ta σ H fun vs H1 => ∃ p xs, vs = [.ref p] ∧ SqT K H1 p xs ∧ R (IteT K p) H1 : TI) σ H R := q
def sp_wrong_part (K : PySem.W.Frag) (f : Addr) : Sp := fun vs H Q _ => ∃ n p rs, vs = [.int n, .ref p, .ref f] ∧ Dp K H (.ref p) (rowsD rs) ∧ GoodLog n rs ∧ ∀ H', Same H H' → Q .non H'
theorem ok_wrong_part (T : Txt K mg a) : FnOk P w K mg base CX0 6 a.f_wrong_part a.d_wrong_part ["offices", "rows", "is_right"] (sp_wrong_part K a.f_is_row) := by
  refine T.F_wrong_part.ok sc_wrong_part (fun vs H Q E h => ?_) (fun cdv A outer s H vs Q E hr h => ?_)
  · obtain ⟨n, p, rs, rfl, _⟩ := h
    rfl
  · obtain ⟨n, p, rs, rfl, hrs, ⟨n1, n2, l60, hgood⟩, q⟩ := h
    obtain ⟨p', xs, e, hp, ha⟩ := of_tup hrs
    cases e
    have hl := DpAll.len ha
    rw [List.length_map] at hl
    refine ⟨_, (pss_cons (ps_if (pt_not (pt_val (pe_call (ok_is_between T) (hr.mono (by first | decide | omega)) (by rfl) T.g_is_between T.F_is_between.kp (T.b_is_between) .nil pass0 (pa_cons (pv 0) (pa_cons pe_int (pa_cons (pe_glob (v := .int 12) rfl T.g_MOST_OFFICES.choose_spec ⟨_, rfl⟩) pa_nil))))))
  (pss_one (ps_ret pe_str))
  pss_nil)
  (pss_cons (ps_if (PW.pt (pw_or (pt_not (pt_val (pe_callB (kIsi K rfl) (by rfl) T.z_isinstance (by decide +kernel) (pa_cons (pv 1) (pa_cons (pe_bltn (v := .ty "tuple") (by rfl) T.z_tuple (by decide +kernel) rfl) pa_nil))))) (pw_or1 (pt_cmpR op_gt (pe_callB (kLen K rfl) (by rfl) T.z_len (by decide +kernel) (pa_cons (pv 1) pa_nil)) (pe_glob (v := .int 60) rfl T.g_MOST_ROWS.choose_spec ⟨_, rfl⟩) (nomark _)))))
  (pss_one (ps_ret pe_str))
  pss_nil)
  (pss_cons (ps_for PassesOwn.never rfl (kiEnumT K rfl (by rfl) T.z_enumerate (pa_cons (pv 1) pa_nil)) (kgTup K rfl rfl (pgs_cons (pg_name (i := 3) sc_wrong_part.nd rfl (.inl rfl)) (pgs_cons (pg_name (i := 4) sc_wrong_part.nd rfl (.inl rfl)) pgs_nil)))
  (pss_one (ps_if (pt_not (pt_val (pe_callL (i := 2) (ok_is_row T) (hr.mono (by first | decide | omega)) (by rfl) (by first | exact Or.inl rfl | exact Or.inr (Or.inl rfl) | exact Or.inr (Or.inr rfl)) T.F_is_row.kp (T.b_is_row) .nil pass0 (pa_cons (pv 0) (pa_cons (pv 4) pa_nil)))))
  (pss_one (ps_ret (pv 3)))
  pss_nil)))
  (pss_one (ps_ret pe_non))))), ?_⟩
    walk_at "go"
    refine ⟨_, _, _, rfl, .inl ⟨_, rfl, ?_⟩⟩
    rw [decide_eq_true (show 1 ≤ n ∧ n ≤ 12 from ⟨n1, n2⟩)]
    walk_at "go"
    refine g_isi (TyX.tup hp) (b := true) (kit_ty (a := "tuple") (by decide +kernel)) ?_
    walk_at "go"
    refine ⟨_, _, rfl, .inr hp, ?_⟩
    walk_at "go"
    rw [decide_eq_false (show ¬ (60 : Int) < (xs.length : Nat) by omega)]
    walk_at "go"
    refine ⟨p, xs, rfl, hp, ?_⟩
    refine for_it (walk_enumT (K := K) (p := p) (xs := xs)) (fun i σ H' => ∃ y3 y4, σ = [some (.int n), some (.ref p), some (.ref a.f_is_row), y3, y4] ∧ Same H H') ⟨_, _, rfl, Same.refl _⟩ (fun i σ H' _ hP => ?_) (fun i z σ H1 H1' hi hP hy => ?_) (fun σ H' hP => ?_)
    · obtain ⟨y3, y4, _, s1⟩ := hP
      exact (Tx.of s1).seq hp
    · obtain ⟨y3, y4, rfl, s1⟩ := hP
      obtain ⟨Tp, x1, y1, rfl, nT, rfl, e1, e2⟩ := hy
      obtain ⟨d, gd, rd⟩ := DpAll.get ha e2
      obtain ⟨r, gr, rfl⟩ := map_at gd
      refine ⟨Tp, _, rfl, SqT.new, rfl, _, _, rfl, _, _, rfl, rfl, ?_⟩
      walk_at "go"
      refine ⟨rfl, ?_⟩
      walk_at "go"
      refine ⟨y1, n, r, rfl, Dp.same (s1.trans (same_new nT)) _ _ rd, hgood r (List.mem_of_getElem? gr), ?_⟩
      walk_at "go"
      exact ⟨_, _, rfl, s1.trans (same_new nT)⟩
    · obtain ⟨y3, y4, rfl, s1⟩ := hP
      walk_at "go"
      exact q _ s1
def sp_Log_init (K : PySem.W.Frag) (C : Addr) : Sp := fun vs H Q _ => ∃ x dx n p rs, vs = [.ref x, .int n, .ref p] ∧ H x = some (.ins C dx []) ∧ Dp K H (.ref p) (rowsD rs) ∧ GoodLog n rs ∧ ∀ H', Fr x H H' → H' x = some (.ins C dx [("offices", .int n), ("rows", .ref p)]) → Q .non H'
theorem ok_Log_init (T : Txt K mg a) : FnOk P w K mg base CX0 7 a.f_Log_init a.d_Log_init ["self", "offices", "rows"] (sp_Log_init K a.c_Log) := by
  refine T.F_Log_init.ok sc_Log_init (fun vs H Q E h => ?_) (fun cdv A outer s H vs Q E hr h => ?_)
  · obtain ⟨x, dx, n, p, rs, rfl, _⟩ := h
    rfl
  · obtain ⟨x, dx, n, p, rs, rfl, hx, hrs, ⟨n1, n2, l60, hgood⟩, q⟩ := h
    obtain ⟨p', xs, e, hp, ha⟩ := of_tup hrs
    cases e
    have hl := DpAll.len ha
    rw [List.length_map] at hl
    refine ⟨_, (pss_cons (ps_set (i := 3) sc_Log_init.nd rfl (.inl rfl) (pe_call (ok_wrong_part T) (hr.mono (by first | decide | omega)) (by rfl) T.g_wrong_part T.F_wrong_part.kp (T.b_wrong_part) .nil pass0 (pa_cons (pv 1) (pa_cons (pv 2) (pa_cons (pe_glob (v := .ref a.f_is_row) rfl T.g_is_row rfl) pa_nil)))))
  (pss_cons (ps_if (pt_cmpR op_notN (pv 3) pe_non (nomark _))
  (pss_one ps_never)
  pss_nil)
  (pss_cons (ksFld K rfl (pv 0) (pv 1) rfl)
  (pss_one (ksFld K rfl (pv 0) (pv 2) rfl))))), ?_⟩
    walk_at "go"
    refine ⟨n, p, rs, rfl, hrs, ⟨n1, n2, l60, hgood⟩, fun H1 s1 => ?_⟩
    walk_at "go"
    refine ⟨rfl, ?_⟩
    walk_at "go"
    rw [decide_eq_true (show V.non = V.non from rfl)]
    walk_at "go"
    refine ⟨x, _, dx, [], rfl, s1 _ _ hx, T.cl_Log, T.n_Log_offices, by decide, ?_⟩
    walk_at "go"
    refine ⟨x, _, dx, _, rfl, upd_same, T.cl_Log, T.n_Log_rows, by show (1 : Nat) < 1000; decide, ?_⟩
    exact q _ (fun b o nb e => by rw [upd_ne nb, upd_ne nb]; exact s1 b o e) upd_same

end

section
variable {P : Program} {w : World} {K : PySem.W.Frag} {mg : Str → Option Value} {base : Heap} {a : Ad}
/-! ### a row by its number -/
def sp_check_row (K : PySem.W.Frag) (C : Addr) : Sp := fun vs H Q _ => ∃ l n rs i, vs = [l, .int i] ∧ LogAt K C H l n rs ∧ 0 ≤ i ∧ i < (rs.length : Int) ∧ Q .non H
theorem ok_check_row (T : Txt K mg a) : FnOk P w K mg base CX0 4 a.f_check_row a.d_check_row ["log", "row"] (sp_check_row K a.c_Log) := by
  refine T.F_check_row.ok sc_check_row (fun vs H Q E h => ?_) (fun cdv A outer s H vs Q E hr h => ?_)
  · obtain ⟨l, n, rs, i, rfl, _⟩ := h
    rfl
  · obtain ⟨l, n, rs, i, rfl, hlog, i0, i1, q⟩ := h
    obtain ⟨la, ldx, p, rfl, hla, hrd⟩ := hlog
    obtain ⟨_, ys, e, hp, ha⟩ := of_tup hrd
    cases e
    have hl := DpAll.len ha
    rw [List.length_map] at hl
    refine ⟨_, (pss_one (ps_if (pt_not (pt_val (pe_call (ok_is_number T) (hr.mono (by first | decide | omega)) (by rfl) T.g_is_number T.F_is_number.kp (T.b_is_number) .nil pass0 (pa_cons (pv 1) (pa_cons (pe_callB (kLen K rfl) (by rfl) T.z_len (by decide +kernel) (pa_cons (kpFld K rfl (pv 0) rfl) pa_nil)) pa_nil)))))
  (pss_one ps_never)
  pss_nil)), ?_⟩
    walk_at "go"
    refine ⟨_, _, _, _, _, rfl, hla, T.cl_Log, T.n_Log_rows, rfl, ?_⟩
    walk_at "go"
    refine ⟨_, _, rfl, .inr hp, ?_⟩
    walk_at "go"
    refine ⟨_, _, rfl, .inl ⟨i, rfl, ?_⟩⟩
    rw [decide_eq_true (show 0 ≤ i ∧ i < (ys.length : Nat) by omega)]
    walk_at "go"
    exact q

end

section
variable {P : Program} {w : World} {K : PySem.W.Frag} {mg : Str → Option Value} {base : Heap} {a : Ad}
/-! ### logs made out of logs -/
theorem ok_Log___eq (T : Txt K mg a) : FnOk P w K mg base CX0 1 a.f_Log___eq a.d_Log___eq ["self", "other"] (spEq (LogEq K a.c_Log)) := by
  refine T.F_Log___eq.ok sc_Log___eq (fun vs H Q E h => ?_) (fun cdv A outer s H vs Q E hr h => ?_)
  · obtain ⟨x, y, rfl, _⟩ := h
    rfl
  · obtain ⟨x, y, rfl, ⟨n, rs, ⟨_, dx, p, e1, hx, dxr⟩, ⟨_, dy, p2, e2, hy, dyr⟩⟩, q⟩ := h
    cases e1
    cases e2
    refine ⟨_, (pss_one (ps_ret (pe_and (pe_callB (C8.call_isC T.iC_Log) (by rfl) T.z_isinstance (by decide +kernel) (pa_cons (pv 1) (pa_cons (pe_glob (v := .ref a.c_Log) rfl T.gc_Log rfl) pa_nil))) (pe_and (pe_cmpR op_eq (kpFld K rfl (pv 0) rfl) (kpFld K rfl (pv 1) rfl) (nomark _)) (pe_one (pe_cmpR (kEqD K rfl hr.units) (kpFld K rfl (pv 0) rfl) (kpFld K rfl (pv 1) rfl) (nomark _))))))), ?_⟩
    walk_at "go"
    refine ⟨_, _, _, rfl, hy, ?_⟩
    walk_at "go"
    refine ⟨_, _, _, _, _, rfl, hx, T.cl_Log, T.n_Log_offices, rfl, ?_⟩
    walk_at "go"
    refine ⟨_, _, _, _, _, rfl, hy, T.cl_Log, T.n_Log_offices, rfl, ?_⟩
    walk_at "go"
    rw [decide_eq_true rfl]
    walk_at "go"
    refine ⟨_, _, _, _, _, rfl, hx, T.cl_Log, T.n_Log_rows, rfl, ?_⟩
    walk_at "go"
    refine ⟨_, _, _, _, _, rfl, hy, T.cl_Log, T.n_Log_rows, rfl, ?_⟩
    refine ⟨_, _, dxr, dyr, shaped_rowsD rs, shaped_rowsD rs, ?_⟩
    rw [eqv_self (shaped_rowsD rs)]
    exact q _ (Same.refl _)
def sp_log_of_any_size (K : PySem.W.Frag) (C : Addr) : Sp := fun vs H Q _ => ∃ n p rs, vs = [.int n, .ref p] ∧ Dp K H (.ref p) (rowsD rs) ∧ 1 ≤ n ∧ n ≤ 12 ∧ ∀ H' x, Same H H' → LogAt K C H' (.ref x) n rs → Q (.ref x) H'
theorem ok_log_of_any_size (T : Txt K mg a) : FnOk P w K mg base CX0 9 a.f_log_of_any_size a.d_log_of_any_size ["offices", "rows"] (sp_log_of_any_size K a.c_Log) := by
  refine T.F_log_of_any_size.ok sc_log_of_any_size (fun vs H Q E h => ?_) (fun cdv A outer s H vs Q E hr h => ?_)
  · obtain ⟨n, p, rs, rfl, _⟩ := h
    rfl
  · obtain ⟨n, p, rs, rfl, hrs, n1, n12, q⟩ := h
    refine ⟨_, (pss_cons (ps_set (i := 2) sc_log_of_any_size.nd rfl (.inl rfl) (pe_make T.mk_Log (ok_Log_init T) (hr.mono (by first | decide | omega)) (by rfl) T.gc_Log T.b_Log_init .nil pass0 (pa_cons (pv 0) (pa_cons (pe_tup pa_nil) pa_nil))))
  (pss_cons (ksFld K rfl (pv 2) (pv 1) rfl)
  (pss_one (ps_ret (pv 2))))), ?_⟩
    walk_at "go"
    refine ⟨Nat.zero_le _, fun p0 np0 => ?_⟩
    walk_at "go"
    intro x dx nx ndx nxd
    have s0 : Same H (upd H p0 (.tup [])) := same_new np0
    have s1 := s0.trans ((same_new (o := .own x) ndx).trans (same_new (p := x) (o := .ins a.c_Log dx []) (by rw [upd_ne nxd.symm]; exact nx)))
    refine ⟨x, dx, n, p0, [], rfl, upd_same, .tup ((Tx.of ((same_new (o := .own x) ndx).trans (same_new (p := x) (o := .ins a.c_Log dx []) (by rw [upd_ne nxd.symm]; exact nx)))).seq SqT.new) .nil, ⟨n1, n12, Nat.zero_le _, fun r hr => by cases hr⟩, fun H5 f5 hx5 => ⟨rfl, ?_⟩⟩
    have s5 := s0.trans (log_made nx ndx f5)
    walk_at "go"
    refine ⟨x, _, dx, _, rfl, hx5, T.cl_Log, T.n_Log_rows, by show (2 : Nat) < 1000; decide, ?_⟩
    have s6 : Same H (upd H5 x (.ins a.c_Log dx (putF "rows" (.ref p) [("offices", .int n), ("rows", .ref p0)]))) := Same.put s5 (s0.free nx)
    walk_at "go"
    exact q _ x s6 ⟨x, dx, p, rfl, upd_same, Dp.same s6 _ _ hrs⟩
def sp_without (K : PySem.W.Frag) (C : Addr) : Sp := fun vs H Q _ => ∃ l n rs k, vs = [l, .int k] ∧ LogAt K C H l n rs ∧ AnyLog n rs ∧ 0 ≤ k ∧ k < rs.length ∧ ∀ H' x, Same H H' → LogAt K C H' (.ref x) n (rs.take k.toNat ++ rs.drop (k.toNat + 1)) → Q (.ref x) H'
theorem ok_without (T : Txt K mg a) : FnOk P w K mg base CX0 10 a.f_without a.d_without ["log", "row"] (sp_without K a.c_Log) := by
  refine T.F_without.ok sc_without (fun vs H Q E h => ?_) (fun cdv A outer s H vs Q E hr h => ?_)
  · obtain ⟨l, n, rs, k, rfl, _⟩ := h
    rfl
  · obtain ⟨l, n, rs, k, rfl, hlog, ⟨n1, n12, hmax, hgood⟩, k0, k1, q⟩ := h
    obtain ⟨la, ldx, p, rfl, hla, hrd⟩ := hlog
    obtain ⟨_, ys, e, hp, ha⟩ := of_tup hrd
    cases e
    have hl := DpAll.len ha
    rw [List.length_map] at hl
    have ek : k = ((k.toNat : Nat) : Int) := by omega
    refine ⟨_, (pss_cons (ps_expr (pe_call (ok_check_row T) (hr.mono (by first | decide | omega)) (by rfl) T.g_check_row T.F_check_row.kp (T.b_check_row) .nil pass0 (pa_cons (pv 0) (pa_cons (pv 1) pa_nil))))
  (pss_one (ps_ret (pe_call (ok_log_of_any_size T) (hr.mono (by first | decide | omega)) (by rfl) T.g_log_of_any_size T.F_log_of_any_size.kp (T.b_log_of_any_size) .nil pass0 (pa_cons (kpFld K rfl (pv 0) rfl) (pa_cons (pe_op (kCatA K rfl) (pe_slice (kSlA K rfl) (kpFld K rfl (pv 0) rfl) po_none (po_some (pv 1))) (pe_slice (kSlA K rfl) (kpFld K rfl (pv 0) rfl) (po_some (pe_op op_add (pv 1) pe_int)) po_none)) pa_nil)))))), ?_⟩
    walk_at "go"
    refine ⟨_, n, rs, k, rfl, ⟨la, ldx, p, rfl, hla, hrd⟩, k0, k1, ?_⟩
    walk_at "go"
    refine ⟨_, _, _, _, _, rfl, hla, T.cl_Log, T.n_Log_offices, rfl, ?_⟩
    walk_at "go"
    refine ⟨_, _, _, _, _, rfl, hla, T.cl_Log, T.n_Log_rows, rfl, ?_⟩
    walk_at "go"
    refine g_slA hp (fun p2 H2 s2 h2 => ?_)
    rw [ek, cutV_take] at h2
    walk_at "go"
    refine ⟨_, _, _, _, _, rfl, s2 _ _ hla, T.cl_Log, T.n_Log_rows, rfl, ?_⟩
    walk_at "go"
    refine g_slA ((Tx.of s2).seq hp) (fun p3 H3 s3 h3 => ?_)
    rw [show k + 1 = ((k.toNat + 1 : Nat) : Int) by omega, cutV_drop] at h3
    refine g_catA ((Tx.of s3).seq h2) h3 (by rw [List.length_take, List.length_drop]; exact Nat.le_trans (show _ ≤ 200000 by omega) (by decide)) (fun p4 H4 s4 h4 => ?_)
    have sA := s2.trans (s3.trans s4)
    walk_at "go"
    refine ⟨n, p4, rs.take k.toNat ++ rs.drop (k.toNat + 1), rfl, ?_, n1, n12, fun H5 x s5 hx => q _ x (sA.trans s5) hx⟩
    refine .tup h4 ?_
    rw [List.map_append, List.map_take, List.map_drop]
    exact DpAll.app (DpAll.take _ (Dp.sameAll sA _ _ ha)) (DpAll.drop _ (Dp.sameAll sA _ _ ha))
def sp_with_row (K : PySem.W.Frag) (C : Addr) : Sp := fun vs H Q _ => ∃ l n rs k v r, vs = [l, .int k, v] ∧ LogAt K C H l n rs ∧ AnyLog n rs ∧ 0 ≤ k ∧ k ≤ rs.length ∧ Dp K H v (rowD r) ∧ GoodRow n r ∧ ∀ H' x, Same H H' → LogAt K C H' (.ref x) n (rs.take k.toNat ++ r :: rs.drop k.toNat) → Q (.ref x) H'
theorem ok_with_row (T : Txt K mg a) : FnOk P w K mg base CX0 10 a.f_with_row a.d_with_row ["log", "at", "row"] (sp_with_row K a.c_Log) := by
  refine T.F_with_row.ok sc_with_row (fun vs H Q E h => ?_) (fun cdv A outer s H vs Q E hr h => ?_)
  · obtain ⟨l, n, rs, k, v, r, rfl, _⟩ := h
    rfl
  · obtain ⟨l, n, rs, k, v, r, rfl, hlog, ⟨n1, n12, hmax, hgood⟩, k0, k1, hv, hrow, q⟩ := h
    obtain ⟨la, ldx, p, rfl, hla, hrd⟩ := hlog
    obtain ⟨_, ys, e, hp, ha⟩ := of_tup hrd
    cases e
    have hl := DpAll.len ha
    rw [List.length_map] at hl
    have ek : k = ((k.toNat : Nat) : Int) := by omega
    refine ⟨_, (pss_cons (ps_if (pt_not (pt_val (pe_call (ok_is_number T) (hr.mono (by first | decide | omega)) (by rfl) T.g_is_number T.F_is_number.kp (T.b_is_number) .nil pass0 (pa_cons (pv 1) (pa_cons (pe_op op_add (pe_callB (kLen K rfl) (by rfl) T.z_len (by decide +kernel) (pa_cons (kpFld K rfl (pv 0) rfl) pa_nil)) pe_int) pa_nil)))))
  (pss_one ps_never)
  pss_nil)
  (pss_cons (ps_if (pt_not (pt_val (pe_call (ok_is_row T) (hr.mono (by first | decide | omega)) (by rfl) T.g_is_row T.F_is_row.kp (T.b_is_row) .nil pass0 (pa_cons (kpFld K rfl (pv 0) rfl) (pa_cons (pv 2) pa_nil)))))
  (pss_one ps_never)
  pss_nil)
  (pss_one (ps_ret (pe_call (ok_log_of_any_size T) (hr.mono (by first | decide | omega)) (by rfl) T.g_log_of_any_size T.F_log_of_any_size.kp (T.b_log_of_any_size) .nil pass0 (pa_cons (kpFld K rfl (pv 0) rfl) (pa_cons (pe_op (kCatA K rfl) (pe_op (kCatA K rfl) (pe_slice (kSlA K rfl) (kpFld K rfl (pv 0) rfl) po_none (po_some (pv 1))) (pe_tup (pa_cons (pv 2) pa_nil))) (pe_slice (kSlA K rfl) (kpFld K rfl (pv 0) rfl) (po_some (pv 1)) po_none)) pa_nil))))))), ?_⟩
    walk_at "go"
    refine ⟨_, _, _, _, _, rfl, hla, T.cl_Log, T.n_Log_rows, rfl, ?_⟩
    walk_at "go"
    refine ⟨_, _, rfl, .inr hp, ?_⟩
    walk_at "go"
    refine ⟨_, _, rfl, .inl ⟨k, rfl, ?_⟩⟩
    rw [decide_eq_true (show 0 ≤ k ∧ k < ((ys.length : Nat) : Int) + 1 by omega)]
    walk_at "go"
    refine ⟨_, _, _, _, _, rfl, hla, T.cl_Log, T.n_Log_offices, rfl, ?_⟩
    walk_at "go"
    refine ⟨v, n, r, rfl, hv, hrow, ?_⟩
    walk_at "go"
    refine ⟨_, _, _, _, _, rfl, hla, T.cl_Log, T.n_Log_offices, rfl, ?_⟩
    walk_at "go"
    refine ⟨_, _, _, _, _, rfl, hla, T.cl_Log, T.n_Log_rows, rfl, ?_⟩
    walk_at "go"
    refine g_slA hp (fun p2 H2 s2 h2 => ?_)
    rw [ek, cutV_take] at h2
    walk_at "go"
    refine ⟨by show 1 ≤ sizeLine; decide, fun p3 np3 => ?_⟩
    have s3 : Same H2 (upd H2 p3 (.tup [v])) := same_new np3
    refine g_catA ((Tx.of s3).seq h2) SqT.new (by rw [List.length_take]; exact Nat.le_trans (show _ ≤ 200000 by simp only [List.length_cons, List.length_nil]; omega) (by decide)) (fun p4 H4 s4 h4 => ?_)
    have s24 := s2.trans (s3.trans s4)
    walk_at "go"
    refine ⟨_, _, _, _, _, rfl, s24 _ _ hla, T.cl_Log, T.n_Log_rows, rfl, ?_⟩
    walk_at "go"
    refine g_slA ((Tx.of s24).seq hp) (fun p5 H5 s5 h5 => ?_)
    rw [ek, cutV_drop] at h5
    refine g_catA ((Tx.of s5).seq h4) h5 (by rw [List.length_append, List.length_take, List.length_drop]; exact Nat.le_trans (show _ ≤ 200002 by simp only [List.length_cons, List.length_nil]; omega) (by decide)) (fun p6 H6 s6 h6 => ?_)
    have sA := s24.trans (s5.trans s6)
    walk_at "go"
    refine ⟨n, p6, rs.take k.toNat ++ r :: rs.drop k.toNat, rfl, ?_, n1, n12, fun H7 x s7 hx => q _ x (sA.trans s7) hx⟩
    refine .tup h6 ?_
    rw [List.map_append, List.map_cons, List.map_take, List.map_drop, show rowD r :: List.drop k.toNat (List.map rowD rs) = [rowD r] ++ List.drop k.toNat (List.map rowD rs) from rfl, ← List.append_assoc]
    exact DpAll.app (DpAll.app (DpAll.take _ (Dp.sameAll sA _ _ ha)) (.cons (Dp.same sA _ _ hv) .nil)) (DpAll.drop _ (Dp.sameAll sA _ _ ha))
def sp_loosened (K : PySem.W.Frag) (C : Addr) : Sp := fun vs H Q _ => ∃ l n rs, vs = [l] ∧ LogAt K C H l n rs ∧ AnyLog n rs ∧ ∀ H' x, Same H H' → LogAt K C H' (.ref x) n (loose rs) → Q (.ref x) H'
end

section
variable {P : Program} {w : World} {K : PySem.W.Frag} {mg : Str → Option Value} {base : Heap} {a : Ad}
/-! ### a log made -/
theorem mk_log {C x dx p : Addr} {n : Int} {rs : List Row} {H1 : Hp} {QQ : Hp → Prop} {E : XK} (hrv : Dp K H1 (.ref p) (rowsD rs)) (hg : GoodLog n rs) (nx : H1 x = none) (ndx : H1 dx = none) (nxd : dx ≠ x)
    (q : ∀ H2, Same H1 H2 → LogAt K C H2 (.ref x) n rs → QQ H2) : sp_Log_init K C (.ref x :: ([.int n, .ref p] ++ [])) (upd (upd H1 dx (.own x)) x (.ins C dx [])) (fun v H2 => v = .non ∧ QQ H2) E :=
  ⟨x, dx, n, p, rs, rfl, upd_same, Dp.same ((same_new ndx).trans (same_new (by rw [upd_ne nxd.symm]; exact nx))) _ _ hrv, hg, fun H5 f5 hx5 => ⟨rfl, q H5 (log_made nx ndx f5) ⟨x, dx, p, rfl, hx5, Dp.same (log_made nx ndx f5) _ _ hrv⟩⟩⟩

end

section
variable {P : Program} {w : World} {K : PySem.W.Frag} {mg : Str → Option Value} {base : Heap} {a : Ad}
/-! ### finds of a log -/
def sp_is_find (K : PySem.W.Frag) (C : Addr) : Sp := fun vs H Q _ => ∃ l t n rs f, vs = [l, t] ∧ LogAt K C H l n rs ∧ Dp K H t (findD f) ∧ f.1 ≤ rs.length ∧ (f.2.1 : Int) < n ∧ (f.2.2 : Int) < n ∧ ∀ H', Same H H' → Q (.bl true) H'
theorem ok_is_find (T : Txt K mg a) : FnOk P w K mg base CX0 5 a.f_is_find a.d_is_find ["log", "thing"] (sp_is_find K a.c_Log) := by
  refine T.F_is_find.ok sc_is_find (fun vs H Q E h => ?_) (fun cdv A outer s H vs Q E hr h => ?_)
  · obtain ⟨l, t, n, rs, f, rfl, _⟩ := h
    rfl
  · obtain ⟨l, t, n, rs, f, rfl, hlog, ht, f1, f2, f3, q⟩ := h
    obtain ⟨tp, rfl, htp⟩ := of_find ht
    obtain ⟨la, ldx, p, rfl, hla, hrd⟩ := hlog
    obtain ⟨_, xs, e, hp, ha⟩ := of_tup hrd
    cases e
    have hl := DpAll.len ha
    rw [List.length_map] at hl
    refine ⟨_, (pss_cons (ps_if (pt_not (pt_val (pe_call (ok_is_tuple_of T) (hr.mono (by first | decide | omega)) (by rfl) T.g_is_tuple_of T.F_is_tuple_of.kp (T.b_is_tuple_of) .nil pass0 (pa_cons (pv 1) (pa_cons pe_int pa_nil)))))
  (pss_one (ps_ret pe_bl))
  pss_nil)
  (pss_one (ps_ret (pe_and (pe_call (ok_is_number T) (hr.mono (by first | decide | omega)) (by rfl) T.g_is_number T.F_is_number.kp (T.b_is_number) .nil pass0 (pa_cons (pe_ix (kIxT K rfl) (pv 1) pe_int (fun _ _ => rfl)) (pa_cons (pe_op op_add (pe_callB (kLen K rfl) (by rfl) T.z_len (by decide +kernel) (pa_cons (kpFld K rfl (pv 0) rfl) pa_nil)) pe_int) pa_nil))) (pe_one (pe_call (ok_are_numbers T) (hr.mono (by first | decide | omega)) (by rfl) T.g_are_numbers T.F_are_numbers.kp (T.b_are_numbers) .nil pass0 (pa_cons (pe_slice (kSlA K rfl) (pv 1) (po_some pe_int) po_none) (pa_cons (kpFld K rfl (pv 0) rfl) pa_nil)))))))), ?_⟩
    walk_at "go"
    refine ⟨_, _, rfl, .inl ⟨tp, _, rfl, htp, ?_⟩⟩
    rw [decide_eq_true (show (([V.int f.1, V.int f.2.1, V.int f.2.2].length : Nat) : Int) = 3 from rfl)]
    walk_at "go"
    refine g_ixT htp (v := .int f.1) rfl ?_
    walk_at "go"
    refine ⟨_, _, _, _, _, rfl, hla, T.cl_Log, T.n_Log_rows, rfl, ?_⟩
    walk_at "go"
    refine ⟨_, _, rfl, .inr hp, ?_⟩
    walk_at "go"
    refine ⟨_, _, rfl, .inl ⟨_, rfl, ?_⟩⟩
    rw [decide_eq_true (show 0 ≤ ((f.1 : Nat) : Int) ∧ ((f.1 : Nat) : Int) < ((xs.length : Nat) : Int) + 1 by omega)]
    walk_at "go"
    refine g_slA htp fun p' H' s hp' => ?_
    rw [cutV1] at hp'
    walk_at "go"
    refine ⟨_, _, _, _, _, rfl, s _ _ hla, T.cl_Log, T.n_Log_offices, rfl, ?_⟩
    walk_at "go"
    refine ⟨p', [(f.2.1 : Int), (f.2.2 : Int)], n, rfl, numsT hp', by first | (show 2 ≤ 100000; decide) | (show 2 ≤ 1000; decide), fun H2 s2 => ?_⟩
    rw [show ([((f.2.1 : Nat) : Int), ((f.2.2 : Nat) : Int)].all fun i => decide (0 ≤ i ∧ i < n)) = true from by
      simp only [List.all_cons, List.all_nil, Bool.and_true, Bool.and_eq_true, decide_eq_true_eq]
      omega]
    exact q _ (s.trans s2)
theorem all_trues : ∀ k : Nat, (List.replicate k true).all id = true := fun k => by
  rw [List.all_eq_true]
  intro x hx
  rw [(List.mem_replicate.mp hx).2]
  rfl
/-- finds of a log are finds -/
def sp_are_finds (K : PySem.W.Frag) (C : Addr) : Sp := fun vs H Q _ => ∃ l t n rs fs b k, vs = [l, t, .int k] ∧ LogAt K C H l n rs ∧ FindsAt K b H t fs ∧ (∀ f ∈ fs, f.1 ≤ rs.length ∧ (f.2.1 : Int) < n ∧ (f.2.2 : Int) < n) ∧ fs.length ≤ 1000 ∧ (fs.length : Int) ≤ k ∧ ∀ H', Same H H' → Q (.bl true) H'
def sp_check_finds (K : PySem.W.Frag) (C : Addr) : Sp := fun vs H Q _ => ∃ l t n rs fs b, vs = [l, t] ∧ LogAt K C H l n rs ∧ FindsAt K b H t fs ∧ (∀ f ∈ fs, f.1 ≤ rs.length ∧ (f.2.1 : Int) < n ∧ (f.2.2 : Int) < n) ∧ fs.length ≤ 40 ∧ ∀ H', Same H H' → Q .non H'
end

section
variable {P : Program} {w : World} {K : PySem.W.Frag} {mg : Str → Option Value} {base : Heap} {a : Ad}
/-! ### how deep rows are -/
theorem dep_rows : ∀ rs : List Row, depAll (rs.map rowD) ≤ 1
  | [] => Nat.zero_le _
  | r :: rs => by
    have := dep_rows rs
    show max (dep (rowD r)) (depAll (rs.map rowD)) ≤ 1
    have e : dep (rowD r) = 1 := rfl
    omega
theorem sm_rows : ∀ rs : List Row, smAll (rs.map rowD) = true
  | [] => rfl
  | r :: rs => by
    show (sm (rowD r) && smAll (rs.map rowD)) = true
    rw [sm_rows rs]
    rfl
theorem dep_rowsD (rs : List Row) : dep (rowsD rs) ≤ 2 := by
  have := dep_rows rs
  show depAll (rs.map rowD) + 1 ≤ 2
  omega
theorem sm_rowsD {rs : List Row} (h : rs.length ≤ 1000000) : sm (rowsD rs) = true := by
  show (decide ((rs.map rowD).length ≤ 1000000) && smAll (rs.map rowD)) = true
  rw [sm_rows, List.length_map, decide_eq_true h]
  rfl

end

section
variable {P : Program} {w : World} {K : PySem.W.Frag} {mg : Str → Option Value} {base : Heap} {a : Ad}
/-! ### doings -/
/-- True for the sure rows -/
def okF : List Row → List Bool → Bool
  | r :: rs, f :: fs => (f || !r.2.2) && okF rs fs
  | _, _ => true
def zipOk (rs : List Row) (fs : List Bool) : List Bool := (fs.zip rs).map fun p => p.1 || !p.2.2.2
theorem okF_zip : ∀ (rs : List Row) (fs : List Bool), okF rs fs = (zipOk rs fs).all id
  | [], [] => rfl
  | [], _ :: _ => rfl
  | _ :: _, [] => rfl
  | r :: rs, f :: fs => by
    show ((f || !r.2.2) && okF rs fs) = ((f || !r.2.2) && (zipOk rs fs).all id)
    rw [okF_zip rs fs]
theorem zipOk_len (rs : List Row) (fs : List Bool) : (zipOk rs fs).length = min fs.length rs.length := by
  unfold zipOk
  rw [List.length_map, List.length_zip]
theorem zipOk_at {rs : List Row} {fs : List Bool} {i : Nat} {r : Row} {f : Bool} (h : fs[i]? = some f) (k : rs[i]? = some r) : (zipOk rs fs)[i]? = some (f || !r.2.2) := by
  unfold zipOk
  rw [List.getElem?_map, (List.getElem?_zip_eq_some (z := (f, r))).mpr ⟨h, k⟩]
  rfl
def isDo (rs : List Row) (fs : List Bool) : Bool := decide (fs.length = rs.length) && okF rs fs
theorem isDo_len {rs : List Row} {fs : List Bool} (h : isDo rs fs = true) : fs.length = rs.length := by
  unfold isDo at h
  rw [Bool.and_eq_true] at h
  exact of_decide_eq_true h.1
def sp_is_doing (K : PySem.W.Frag) (C : Addr) : Sp := fun vs H Q _ => ∃ l t n rs fs, vs = [l, t] ∧ LogAt K C H l n rs ∧ Dp K H t (flagsD fs) ∧ rs.length ≤ 100000 ∧ ∀ H', Same H H' → Q (.bl (isDo rs fs)) H'
theorem ok_is_doing (T : Txt K mg a) : FnOk P w K mg base CX0 2 a.f_is_doing a.d_is_doing ["log", "thing"] (sp_is_doing K a.c_Log) := by
  refine T.F_is_doing.ok sc_is_doing (fun vs H Q E h => ?_) (fun cdv A outer s H vs Q E hr h => ?_)
  · obtain ⟨l, t, n, rs, fs, rfl, _⟩ := h
    rfl
  · obtain ⟨l, t, n, rs, fs, rfl, hlog, ht, hmax, q⟩ := h
    obtain ⟨tp, rfl, htp⟩ := of_flags ht
    obtain ⟨la, ldx, p, rfl, hla, hrd⟩ := hlog
    obtain ⟨_, xs, e, hp, ha⟩ := of_tup hrd
    cases e
    have hl := DpAll.len ha
    rw [List.length_map] at hl
    refine ⟨_, (pss_cons (ps_if (pt_not (pt_val (pe_call (ok_is_tuple_of T) (hr.mono (by first | decide | omega)) (by rfl) T.g_is_tuple_of T.F_is_tuple_of.kp (T.b_is_tuple_of) .nil pass0 (pa_cons (pv 1) (pa_cons (pe_callB (kLen K rfl) (by rfl) T.z_len (by decide +kernel) (pa_cons (kpFld K rfl (pv 0) rfl) pa_nil)) pa_nil)))))
  (pss_one (ps_ret pe_bl))
  pss_nil)
  (pss_one (ps_ret (pe_callB (kAll K rfl rfl) (by rfl) T.z_all (by decide +kernel) (pa_cons (pe_lc (own := [("done", 2), ("row", 3)]) (g := (gTup K 2 (gCons (gName 2) (gCons (gName 3) gNil)))) rfl sc_is_doing.nd (kiZip K rfl (by rfl) T.z_zip (pa_cons (pv 1) (pa_cons (kpFld K rfl (pv 0) rfl) pa_nil))) (blkOk_by (own := [("done", 2), ("row", 3)]) (N := ["log", "thing", "done", "row"]) (sc := defScope s_is_doing) (by decide +kernel)) (fun _ _ _ _ _ => (kgTup K rfl rfl (pgs_cons (pg_name (i := 2) sc_is_doing.nd rfl (.inl rfl)) (pgs_cons (pg_name (i := 3) sc_is_doing.nd rfl (.inl rfl)) pgs_nil)))) (fun _ _ _ _ _ => pts_nil) (fun _ _ _ _ _ => (pe_and (pe_callB (kIsi K rfl) (by rfl) T.z_isinstance (by decide +kernel) (pa_cons (pv 2) (pa_cons (pe_bltn (v := .ty "bool") (by rfl) T.z_bool (by decide +kernel) rfl) pa_nil))) (pe_one (pe_or (pv 2) (pe_one (pe_not (pe_ix (kIxT K rfl) (pv 3) pe_int (fun _ _ => rfl))))))))) pa_nil))))), ?_⟩
    walk_at "go"
    refine ⟨_, _, _, _, _, rfl, hla, T.cl_Log, T.n_Log_rows, rfl, ?_⟩
    walk_at "go"
    refine ⟨_, _, rfl, .inr hp, ?_⟩
    walk_at "go"
    refine ⟨_, _, rfl, .inl ⟨tp, _, rfl, htp, ?_⟩⟩
    rw [List.length_map]
    walk_at "go"
    refine g_iteN (fun e0 => ?_) (fun e0 => ?_)
    · walk_at "go"
      have : isDo rs fs = false := by
        unfold isDo
        rw [decide_eq_false (by omega)]
        rfl
      rw [← this]
      exact q _ (Same.refl _)
    · have el : fs.length = rs.length := by omega
      walk_at "go"
      refine ⟨_, _, _, _, _, rfl, hla, T.cl_Log, T.n_Log_rows, rfl, ?_⟩
      walk_at "go"
      refine ⟨_, _, _, _, rfl, .inr ⟨htp, hp, fun D nD => ?_⟩⟩
      refine lc_same (H0 := H) (walk_zipT (K := K) (a := tp) (b := p) (xs := fs.map V.bl) (ys := xs) rfl) (fun i => ((zipOk rs fs).take i).map V.bl) rfl (fun i _ => ?_) (Same.refl H) nD nD (fun H' s => ⟨(Tx.of s).seq htp, (Tx.of s).seq hp⟩) (fun i x H2 H3 C Cn hi s hy hC hN => ?_) (fun H' s hD => ?_)
      · rw [List.length_map, List.length_take, zipOk_len]
        exact Nat.lt_of_le_of_lt (show _ ≤ 100000 by omega) (by decide)
      · obtain ⟨Tp, x1, y1, rfl, nT, rfl, e1, e2⟩ := hy
        obtain ⟨f, gf, rfl⟩ := map_at e1
        obtain ⟨d, gd, rd⟩ := DpAll.get ha e2
        obtain ⟨r, gr, rfl⟩ := map_at gd
        have sT : Same H (upd H2 Tp (.tup [V.bl f, y1])) := s.trans (same_new nT)
        obtain ⟨rp, rfl, hrp⟩ := of_row (Dp.same sT _ _ rd)
        refine ⟨Tp, _, rfl, SqT.new, rfl, _, _, rfl, _, _, rfl, rfl, rfl, ?_⟩
        have fin : ((zipOk rs fs).take (i + 1)).map V.bl = ((zipOk rs fs).take i).map V.bl ++ [V.bl (f || !r.2.2)] := by
          rw [take_snoc (zipOk_at gf gr), List.map_append]
          rfl
        walk_at "go"
        refine g_isi (b := true) (.base (.bl _)) (kit_ty (a := "bool") (by decide +kernel)) ?_
        walk_at "go"
        cases f with
        | true =>
          walk_at "go"
          exact hC _ _ (same_new nT) fin
        | false =>
          walk_at "go"
          refine g_ixT hrp (v := .bl r.2.2) rfl ?_
          walk_at "go"
          exact hC _ _ (same_new nT) fin
      · walk_at "go"
        refine ⟨D, _, rfl, SqL.at hD, ?_⟩
        rw [List.length_map, hl, show min fs.length rs.length = (zipOk rs fs).length from (zipOk_len rs fs).symm, List.take_length, ← okF_zip, show okF rs fs = isDo rs fs from by
          unfold isDo
          rw [decide_eq_true el]
          rfl]
        exact q _ s
def sp_check_doing (K : PySem.W.Frag) (C : Addr) : Sp := fun vs H Q _ => ∃ l t n rs fs, vs = [l, t] ∧ LogAt K C H l n rs ∧ Dp K H t (flagsD fs) ∧ rs.length ≤ 100000 ∧ isDo rs fs = true ∧ ∀ H', Same H H' → Q .non H'
theorem ok_check_doing (T : Txt K mg a) : FnOk P w K mg base CX0 3 a.f_check_doing a.d_check_doing ["log", "doing"] (sp_check_doing K a.c_Log) := by
  refine T.F_check_doing.ok sc_check_doing (fun vs H Q E h => ?_) (fun cdv A outer s H vs Q E hr h => ?_)
  · obtain ⟨l, t, n, rs, fs, rfl, _⟩ := h
    rfl
  · obtain ⟨l, t, n, rs, fs, rfl, hlog, ht, hmax, hdo, q⟩ := h
    refine ⟨_, (pss_one (ps_if (pt_not (pt_val (pe_call (ok_is_doing T) (hr.mono (by first | decide | omega)) (by rfl) T.g_is_doing T.F_is_doing.kp (T.b_is_doing) .nil pass0 (pa_cons (pv 0) (pa_cons (pv 1) pa_nil)))))
  (pss_one ps_never)
  pss_nil)), ?_⟩
    walk_at "go"
    refine ⟨l, t, n, rs, fs, rfl, hlog, ht, hmax, fun H1 s1 => ?_⟩
    rw [hdo]
    walk_at "go"
    exact q _ s1

end

section
variable {P : Program} {w : World} {K : PySem.W.Frag} {mg : Str → Option Value} {base : Heap} {a : Ad}
/-! ### all sheets of a doing -/
def sp_all_sheets (K : PySem.W.Frag) (C : Addr) : Sp := fun vs H Q _ => ∃ l t n rs fs, vs = [l, t] ∧ LogAt K C H l n rs ∧ Dp K H t (flagsD fs) ∧ AnyLog n rs ∧ isDo rs fs = true ∧ ∀ H' f xs, Same H H' → H f = none → H' f = some (.lst xs) → DpAll K H' xs (allSt n rs fs) → Q (.ref f) H'
theorem ok_all_sheets (T : Txt K mg a) : FnOk P w K mg base CX0 4 a.f_all_sheets a.d_all_sheets ["log", "doing"] (sp_all_sheets K a.c_Log) := by
  refine T.F_all_sheets.ok sc_all_sheets (fun vs H Q E h => ?_) (fun cdv A outer s H vs Q E hr h => ?_)
  · obtain ⟨l, t, n, rs, fs, rfl, _⟩ := h
    rfl
  · obtain ⟨l, t, n, rs, fs, rfl, hlog, ht, ⟨n1, n2, hmax, hgood⟩, hdo, q⟩ := h
    have hlen := isDo_len hdo
    have hst := fun i hi => st_good (by omega : 0 ≤ n) hgood hlen i hi
    refine ⟨_, (pss_cons (ps_expr (pe_call (ok_check_doing T) (hr.mono (by first | decide | omega)) (by rfl) T.g_check_doing T.F_check_doing.kp (T.b_check_doing) .nil pass0 (pa_cons (pv 0) (pa_cons (pv 1) pa_nil))))
  (pss_cons (ps_set (i := 2) sc_all_sheets.nd rfl (.inl rfl) (pe_listRg rfl (by rfl) T.z_list (prg_1 (by rfl) T.z_range (kpFld K rfl (pv 0) rfl))))
  (pss_cons (ps_set (i := 3) sc_all_sheets.nd rfl (.inl rfl) (pe_lst (pa_cons (pe_callTy (kTupOf K rfl) (by rfl) T.z_tuple (by decide +kernel) (pa_cons (pv 2) pa_nil)) pa_nil)))
  (pss_cons (ps_for PassesOwn.never rfl (kiZip K rfl (by rfl) T.z_zip (pa_cons (kpFld K rfl (pv 0) rfl) (pa_cons (pv 1) pa_nil))) (kgTup K rfl rfl (pgs_cons (pg_name (i := 4) sc_all_sheets.nd rfl (.inl rfl)) (pgs_cons (pg_name (i := 5) sc_all_sheets.nd rfl (.inl rfl)) pgs_nil)))
  (pss_cons (ps_if (pt_val (pv 5))
  (pss_one (ps_asg (pe_ix (kIxL K rfl) (pv 2) (pe_ix (kIxT K rfl) (pv 4) pe_int (fun _ _ => rfl)) (fun _ _ => rfl)) (pg_sub (pv 2) (pe_ix (kIxT K rfl) (pv 4) pe_int (fun _ _ => rfl)) set_list)))
  pss_nil)
  (pss_one (ps_expr (pe_bm PySem.F.plainAttrs_list PySem.F.slot_list_append PySem.F.type_list_append mt_append (pv 3) (pa_cons (pe_callTy (kTupOf K rfl) (by rfl) T.z_tuple (by decide +kernel) (pa_cons (pv 2) pa_nil)) pa_nil))))))
  (pss_one (ps_ret (pv 3))))))), ?_⟩
    walk_at "go"
    refine ⟨l, t, n, rs, fs, rfl, hlog, ht, hmax, hdo, fun H1 s1 => ?_⟩
    obtain ⟨tp, rfl, htp⟩ := of_flags ht
    obtain ⟨la, ldx, p, rfl, hla, hrd⟩ := hlog
    obtain ⟨_, ys, e, hp, ha⟩ := of_tup hrd
    cases e
    have hl := DpAll.len ha
    rw [List.length_map] at hl
    walk_at "go"
    refine ⟨_, _, _, _, _, rfl, s1 _ _ hla, T.cl_Log, T.n_Log_offices, rfl, n, rfl, RgOk.of_le (by decide) (by omega) (by decide) (by omega), fun h nh => ?_⟩
    rw [rgV_first]
    have s2 : Same H (upd H1 h (.lst ((firstSt n).map V.int))) := s1.trans (same_new nh)
    have nh0 : H h = none := s1.free nh
    walk_at "go"
    refine ⟨h, _, rfl, .inl ⟨SqL.new, fun t0 nt0 => ?_⟩⟩
    have s3 := s2.trans (same_new (o := .tup ((firstSt n).map V.int)) nt0)
    walk_at "go"
    refine ⟨by show 1 ≤ sizeLine; decide, fun fl nfl => ?_⟩
    have s4 := s3.trans (same_new (o := .lst [.ref t0]) nfl)
    have nfl0 : H fl = none := s3.free nfl
    have nhf : h ≠ fl := fun e => by
      rw [← e, upd_ne (ne_of_none upd_same nt0), upd_same] at nfl
      cases nfl
    walk_at "go"
    refine ⟨_, _, _, _, _, rfl, s4 _ _ hla, T.cl_Log, T.n_Log_rows, rfl, ?_⟩
    walk_at "go"
    refine ⟨p, tp, ys, fs.map V.bl, rfl, .inr ⟨(Tx.of s4).seq hp, (Tx.of s4).seq htp, ?_⟩⟩
    refine for_it (walk_zipT (K := K) (a := p) (b := tp) (xs := ys) (ys := fs.map V.bl) (n := rs.length) (by rw [List.length_map, hl, hlen, Nat.min_self]))
      (fun i σ H' => ∃ y4 y5 xs, σ = [some (.ref la), some (.ref tp), some (.ref h), some (.ref fl), y4, y5] ∧ Same H H' ∧ H' h = some (.lst ((stAt n rs fs i).map V.int)) ∧ H' fl = some (.lst xs) ∧ DpAll K H' xs ((List.range (i + 1)).map fun j => tupI (stAt n rs fs j)))
      ⟨_, _, [.ref t0], rfl, s4, ?_, upd_same, ?_⟩ (fun i σ H' _ hP => ?_) (fun i x σ H2 H3 hi hP hy => ?_) (fun σ H' hP => ?_)
    · rw [upd_ne nhf, upd_ne (ne_of_none upd_same nt0), upd_same]
      rfl
    · exact .cons (dp_ints ((Tx.new nfl).seq SqT.new)) .nil
    · obtain ⟨y4, y5, xs, rfl, sm, _⟩ := hP
      exact ⟨(Tx.of sm).seq hp, (Tx.of sm).seq htp⟩
    · obtain ⟨y4, y5, xs, rfl, sm, hh, hf, hxs⟩ := hP
      obtain ⟨Tp, x1, y1, rfl, nT, rfl, e1, e2⟩ := hy
      obtain ⟨f, gf, rfl⟩ := map_at e2
      obtain ⟨d, gd, rd⟩ := DpAll.get ha e1
      obtain ⟨r, gr, rfl⟩ := map_at gd
      have hrow := hgood r (List.mem_of_getElem? gr)
      obtain ⟨g1, g2, g3, g4, g5⟩ := hrow
      have sT : Same H (upd H2 Tp (.tup [x1, V.bl f])) := sm.trans (same_new nT)
      obtain ⟨rp, rfl, hrp⟩ := of_row (Dp.same sT _ _ rd)
      have nTh : h ≠ Tp := ne_of_none hh nT
      have nTf : fl ≠ Tp := ne_of_none hf nT
      have hst1 := hst i (by omega)
      have hsl : (stAt n rs fs i).length = n.toNat := by have := hst1.1; omega
      have eS : stAt n rs fs (i + 1) = stepR (stAt n rs fs i) r f := st_succ gr gf
      refine ⟨Tp, _, rfl, SqT.new, rfl, _, _, rfl, _, _, rfl, rfl, ?_⟩
      have hh' : (upd H2 Tp (.tup [.ref rp, V.bl f])) h = some (.lst ((stAt n rs fs i).map V.int)) := by rw [upd_ne nTh]; exact hh
      have hf' : (upd H2 Tp (.tup [.ref rp, V.bl f])) fl = some (.lst xs) := by rw [upd_ne nTf]; exact hf
      have hx' : DpAll K (upd H2 Tp (.tup [.ref rp, V.bl f])) xs ((List.range (i + 1)).map fun j => tupI (stAt n rs fs j)) := Dp.sameAll (same_new nT) _ _ hxs
      have hxl : xs.length = i + 1 := by rw [DpAll.len hxs]; simp
      refine seq_cut (fun σ' H4 => σ' = [some (.ref la), some (.ref tp), some (.ref h), some (.ref fl), some (.ref rp), some (.bl f)] ∧ Same H H4 ∧ H4 h = some (.lst ((stAt n rs fs (i + 1)).map V.int)) ∧ H4 fl = some (.lst xs) ∧ DpAll K H4 xs ((List.range (i + 1)).map fun j => tupI (stAt n rs fs j))) ?_ ?_
      · rintro σ' H4 ⟨rfl, s5, hh4, hf4, hx4⟩
        walk_at "go"
        refine ⟨.inl ⟨rfl, _, SqL.at hf4⟩, ?_⟩
        walk_at "go"
        refine ⟨h, _, rfl, .inl ⟨SqL.at hh4, fun t1 nt1 => ?_⟩⟩
        have hf5 : (upd H4 t1 (.tup ((stAt n rs fs (i + 1)).map V.int))) fl = some (.lst xs) := by rw [upd_ne (ne_of_none hf4 nt1)]; exact hf4
        walk_at "go"
        refine ⟨fl, xs, .ref t1, rfl, rfl, hf5, by rw [hxl]; exact Nat.lt_of_le_of_lt (show i + 1 ≤ 100000 by omega) (by decide), ?_⟩
        refine ⟨_, _, xs ++ [.ref t1], rfl, Same.put (s5.trans (same_new nt1)) nfl0, ?_, upd_same, ?_⟩
        · rw [upd_ne nhf, upd_ne (ne_of_none hh4 nt1)]
          exact hh4
        · rw [range1_map]
          refine Dp.txAll (Tx.lst hf5) _ _ ?_ (DpAll.snoc (Dp.sameAll (same_new nt1) _ _ hx4) (dp_ints SqT.new))
          rw [← range1_map]
          exact imAll_tupI _ _
      · intro N hN
        walk_at "go"
        cases f with
        | false =>
          walk_at "go"
          exact hN _ _ ⟨rfl, sT, by rw [eS]; exact hh', hf', hx'⟩
        | true =>
          have hy2 : r.2.1.toNat < (stAt n rs fs i).length := by omega
          have gz := List.getElem?_eq_getElem hy2
          walk_at "go"
          refine g_ixT hrp (v := .int r.2.1) rfl ?_
          walk_at "go"
          refine g_ixL (SqL.at hh') (atI_at g3 (map_get gz)) ?_
          walk_at "go"
          refine g_ixT hrp (v := .int r.1) rfl ?_
          walk_at "go"
          refine g_setL hh' (ixN_at g1 (by rw [List.length_map, hsl]; omega)) ?_
          refine hN _ _ ⟨rfl, Same.put sT nh0, ?_, ?_, ?_⟩
          · rw [upd_same, eS]
            unfold stepR
            rw [if_pos rfl, getD_of gz, List.map_set]
          · rw [upd_ne nhf.symm]
            exact hf'
          · exact Dp.txAll (Tx.lst hh') _ _ (imAll_tupI _ _) hx'
    · obtain ⟨y4, y5, xs, rfl, sm, hh, hf, hxs⟩ := hP
      walk_at "go"
      exact q _ fl xs sm nfl0 hf hxs

end

section
variable {P : Program} {w : World} {K : PySem.W.Frag} {mg : Str → Option Value} {base : Heap} {a : Ad}
/-! ### drawn rows and doings -/
def sp_law_row (K : PySem.W.Frag) : Sp := fun vs H Q _ => ∃ (d c : Addr) (n sh : Int), vs = [.ref d, .int n, .int sh] ∧ Dice d c H ∧ 2 ≤ n ∧ n ≤ 12 ∧ ∀ H' v r, Fr d H H' → Dice d c H' → Dp K H' v (rowD r) → GoodRow n r → Q v H'
theorem ok_law_row (T : Txt K mg a) : FnOk P w K mg base CX0 2 a.f_law_row a.d_law_row ["_law_dice_here", "_law_offices_here", "_law_share"] (sp_law_row K) := by
  refine T.F_law_row.ok sc_law_row (fun vs H Q E h => ?_) (fun cdv A outer s H vs Q E hr h => ?_)
  · obtain ⟨d, c, n, sh, rfl, _⟩ := h
    rfl
  · obtain ⟨d, c, n, sh, rfl, hD, n2, n12, q⟩ := h
    refine ⟨_, (pss_cons (ps_set (i := 3) sc_law_row.nd rfl (.inl rfl) (pe_call (ok_law_draw T) (hr.mono (by first | decide | omega)) (by rfl) T.g_law_draw T.F_law_draw.kp (T.b_law_draw) .nil pass0 (pa_cons (pv 0) (pa_cons (pv 1) pa_nil))))
  (pss_cons (ps_set (i := 4) sc_law_row.nd rfl (.inl rfl) (pe_op op_add (pv 3) pe_int))
  (pss_cons (ps_if (PW.pt (pw_and (pt_cmpR op_gt (pv 3) pe_int (nomark _)) (pw_and1 (PW.pt (pw_or (pt_cmpR op_eq (pv 3) (pe_op op_sub (pv 1) pe_int) (nomark _)) (pw_or1 (pt_cmpR op_eq (pe_call (ok_law_draw T) (hr.mono (by first | decide | omega)) (by rfl) T.g_law_draw T.F_law_draw.kp (T.b_law_draw) .nil pass0 (pa_cons (pv 0) (pa_cons pe_int pa_nil))) pe_int (nomark _))))))))
  (pss_one (ps_set (i := 4) sc_law_row.nd rfl (.inl rfl) (pe_op op_sub (pv 3) pe_int)))
  pss_nil)
  (pss_one (ps_ret (pe_tup (pa_cons (pv 3) (pa_cons (pv 4) (pa_cons (pe_cmpR op_lt (pe_call (ok_law_draw T) (hr.mono (by first | decide | omega)) (by rfl) T.g_law_draw T.F_law_draw.kp (T.b_law_draw) .nil pass0 (pa_cons (pv 0) (pa_cons pe_int pa_nil))) (pv 2) (nomark _)) pa_nil))))))))), ?_⟩
    walk_at "go"
    refine ⟨d, c, n, rfl, hD, by omega, by omega, fun H1 x f1 hD1 x0 x1 => ?_⟩
    walk_at "gs"
    refine g_seq ?_
    walk_at "gs"
    refine seq_cut (fun σ' H' => ∃ y, σ' = [some (.ref d), some (.int n), some (.int sh), some (.int x), some (.int y)] ∧ Fr d H H' ∧ Dice d c H' ∧ GoodRow n (x, y, true)) ?_ ?_
    · rintro σ' H2 ⟨y, rfl, f2, hD2, g⟩
      walk_at "go"
      refine ⟨d, c, 6, rfl, hD2, by decide, by decide, fun H3 z f3 hD3 _ _ => ?_⟩
      walk_at "go"
      refine ⟨by show 3 ≤ sizeLine; decide, fun p np => ?_⟩
      exact q _ _ (x, y, decide (z < sh)) ((f2.trans f3).trans (Fr.new np)) (hD3.new np) (dp_row SqT.new) g
    · intro N hN
      walk_at "go"
      refine g_ite (fun e0 => ?_) (fun e0 => ?_)
      · walk_at "go"
        refine g_ite (fun e1 => ?_) (fun e1 => ?_)
        · walk_at "go"
          exact hN _ _ ⟨_, rfl, f1, hD1, x0, x1, by show 0 ≤ x - 1; omega, by show x - 1 < n; omega, .inr rfl⟩
        · walk_at "go"
          refine ⟨d, c, 2, rfl, hD1, by decide, by decide, fun H2 z f2 hD2 _ _ => ?_⟩
          walk_at "go"
          refine g_ite (fun e2 => ?_) (fun e2 => ?_)
          · walk_at "go"
            exact hN _ _ ⟨_, rfl, f1.trans f2, hD2, x0, x1, by show 0 ≤ x - 1; omega, by show x - 1 < n; omega, .inr rfl⟩
          · walk_at "go"
            exact hN _ _ ⟨_, rfl, f1.trans f2, hD2, x0, x1, by show 0 ≤ x + 1; omega, by show x + 1 < n; omega, .inl rfl⟩
      · walk_at "go"
        exact hN _ _ ⟨_, rfl, f1, hD1, x0, x1, by show 0 ≤ x + 1; omega, by show x + 1 < n; omega, .inl rfl⟩
theorem rows_of {n : Int} : ∀ {ds : List PyData}, (∀ e ∈ ds, ∃ r, e = rowD r ∧ GoodRow n r) → ∃ rs : List Row, ds = rs.map rowD ∧ ∀ r ∈ rs, GoodRow n r
  | [], _ => ⟨[], rfl, fun r h => by cases h⟩
  | e :: ds, h => by
    obtain ⟨rs, e1, e2⟩ := rows_of fun z hz => h z (List.mem_cons_of_mem _ hz)
    obtain ⟨r, rfl, g⟩ := h e (List.mem_cons_self ..)
    refine ⟨r :: rs, by rw [e1]; rfl, fun z hz => ?_⟩
    rcases List.mem_cons.mp hz with rfl | hz
    · exact g
    · exact e2 z hz
theorem draw3 {r a b c : Int} (h0 : 0 ≤ r) (h1 : r < 3) : ∃ z, atI [V.int a, V.int b, V.int c] r = some (.int z) := by
  have : r = 0 ∨ r = 1 ∨ r = 2 := by omega
  rcases this with rfl | rfl | rfl
  · exact ⟨a, rfl⟩
  · exact ⟨b, rfl⟩
  · exact ⟨c, rfl⟩
def sp_law_rows (K : PySem.W.Frag) : Sp := fun vs H Q _ => ∃ (d c : Addr) (n m : Int), vs = [.ref d, .int n, .int m] ∧ Dice d c H ∧ 1 ≤ n ∧ n ≤ 12 ∧ 0 ≤ m ∧ m ≤ 60 ∧ ∀ H' v rs, Fr d H H' → Dice d c H' → Dp K H' v (rowsD rs) → (∀ r ∈ rs, GoodRow n r) → (rs.length : Int) ≤ m → Q v H'
theorem ok_law_rows (T : Txt K mg a) : FnOk P w K mg base CX0 3 a.f_law_rows a.d_law_rows ["_law_dice_here", "_law_offices_here", "_law_many"] (sp_law_rows K) := by
  refine T.F_law_rows.ok sc_law_rows (fun vs H Q E h => ?_) (fun cdv A outer s H vs Q E hr h => ?_)
  · obtain ⟨d, c, n, m, rfl, _⟩ := h
    rfl
  · obtain ⟨d, c, n, m, rfl, hD, n1, n12, m0, m60, q⟩ := h
    refine ⟨_, (pss_cons (ps_set (i := 3) sc_law_rows.nd rfl (.inr rfl) (pe_ix (kIxL K rfl) (pe_lst (pa_cons pe_int (pa_cons pe_int (pa_cons pe_int pa_nil)))) (pe_call (ok_law_draw T) (hr.mono (by first | decide | omega)) (by rfl) T.g_law_draw T.F_law_draw.kp (T.b_law_draw) .nil pass0 (pa_cons (pv 0) (pa_cons pe_int pa_nil))) (fun _ _ => rfl)))
  (pss_cons (ps_if (pt_cmpR op_eq (pv 1) pe_int (nomark _))
  (pss_one (ps_ret (pe_tup pa_nil)))
  pss_nil)
  (pss_one (ps_ret (pe_callTy (kTupOf K rfl) (by rfl) T.z_tuple (by decide +kernel) (pa_cons (pe_lc (own := [("_law_k", 4)]) (g := (gName 4)) rfl sc_law_rows.nd (pi_range1 rfl T.z_range (pa_cons (pv 2) pa_nil)) (blkOk_by (own := [("_law_k", 4)]) (N := ["_law_dice_here", "_law_offices_here", "_law_many", "_law_share", "_law_k"]) (sc := defScope s_law_rows) (by decide +kernel)) (fun _ _ _ _ _ => (pg_name (i := 4) sc_law_rows.nd rfl (.inl rfl))) (fun _ _ _ _ _ => pts_nil) (fun _ _ _ _ _ => (pe_call (ok_law_row T) (hr.mono (by first | decide | omega)) (by rfl) T.g_law_row T.F_law_row.kp (T.b_law_row) .nil pass0 (pa_cons (pv 0) (pa_cons (pv 1) (pa_cons (pv 3) pa_nil)))))) pa_nil)))))), ?_⟩
    walk_at "go"
    refine ⟨by show 3 ≤ sizeLine; decide, fun l nl => ?_⟩
    walk_at "go"
    refine ⟨d, c, 3, rfl, hD.new nl, by decide, by decide, fun H1 r f1 hD1 r0 r1 => ?_⟩
    have fl : Fr d H H1 := (Fr.new nl).trans f1
    obtain ⟨sh, hsh⟩ := draw3 (a := 0) (b := 1) (c := 3) r0 r1
    walk_at "go"
    refine g_ixL (SqL.at (f1 _ _ (hD.nd nl) upd_same)) hsh ?_
    walk_at "go"
    refine g_ite (fun e0 => ?_) (fun e0 => ?_)
    · walk_at "go"
      refine ⟨by show 0 ≤ sizeLine; decide, fun p np => ?_⟩
      exact q _ _ [] (fl.trans (Fr.new np)) (hD1.new np) (.tup SqT.new .nil) (fun r h => by cases h) m0
    · walk_at "go"
      refine ⟨_, rfl, by omega, by omega, fun D nDD => ?_⟩
      refine lc_draw (K := K) (d := d) (c := c) walk_rng0 (fun e => ∃ r, e = rowD r ∧ GoodRow n r) (small1000 (by omega)) (fun e ⟨z, h, _⟩ => by rw [h]; rfl) nDD hD1 (fun _ _ => trivial) (fun j x H9 H9' C Cn hj f9 hD9 hy hC => ?_) (fun H' ys ds f9 hD9 hDl hys hn hall => ?_)
      · obtain ⟨rfl, rfl⟩ := hy
        refine ⟨rfl, ?_⟩
        walk_at "go"
        exact ⟨d, c, n, sh, rfl, hD9, by omega, n12, fun H10 v r f10 hD10 hv g => hC _ _ _ f10 hD10 hv ⟨r, rfl, g⟩⟩
      · obtain ⟨rs, rfl, hgood⟩ := rows_of hall
        rw [List.length_map] at hn
        walk_at "go"
        refine ⟨D, ys, rfl, .inl ⟨SqL.at hDl, fun p np => ?_⟩⟩
        exact q _ _ rs ((fl.trans f9).trans (Fr.new np)) (hD9.new np) (.tup SqT.new (Dp.sameAll (same_new np) _ _ hys)) hgood (by omega)
theorem okF_of : ∀ {rs : List Row} {fs : List Bool}, (∀ (i : Nat) (r : Row) (f : Bool), rs[i]? = some r → fs[i]? = some f → r.2.2 = true → f = true) → okF rs fs = true
  | [], _, _ => by unfold okF; rfl
  | _ :: _, [], _ => rfl
  | r :: rs, f :: fs, h => by
    unfold okF
    rw [okF_of fun i r f h1 h2 => h (i + 1) r f (by simpa using h1) (by simpa using h2), Bool.and_true]
    have := h 0 r f rfl rfl
    cases hr : r.2.2 with
    | false => cases f <;> rfl
    | true => rw [this hr]; rfl
theorem flags_of : ∀ {ds : List PyData}, (∀ e ∈ ds, ∃ f, e = .bool f) → ∃ fs : List Bool, ds = fs.map PyData.bool
  | [], _ => ⟨[], rfl⟩
  | e :: ds, h => by
    obtain ⟨fs, e1⟩ := flags_of fun z hz => h z (List.mem_cons_of_mem _ hz)
    obtain ⟨f, rfl⟩ := h e (List.mem_cons_self ..)
    exact ⟨f :: fs, by rw [e1]; rfl⟩
def sp_law_doing (K : PySem.W.Frag) : Sp := fun vs H Q _ => ∃ (d c : Addr) (rv : V) (rs : List Row), vs = [.ref d, rv] ∧ Dice d c H ∧ Dp K H rv (rowsD rs) ∧ rs.length ≤ 100000 ∧ ∀ H' v fs, Fr d H H' → Dice d c H' → Dp K H' v (flagsD fs) → isDo rs fs = true → Q v H'
theorem ok_law_doing (T : Txt K mg a) : FnOk P w K mg base CX0 2 a.f_law_doing a.d_law_doing ["_law_dice_here", "_law_rows_here"] (sp_law_doing K) := by
  refine T.F_law_doing.ok sc_law_doing (fun vs H Q E h => ?_) (fun cdv A outer s H vs Q E hr h => ?_)
  · obtain ⟨d, c, rv, rs, rfl, _⟩ := h
    rfl
  · obtain ⟨d, c, rv, rs, rfl, hD, hrv, hmax, q⟩ := h
    obtain ⟨p, xs, rfl, hp, ha⟩ := of_tup hrv
    have hl := DpAll.len ha
    rw [List.length_map] at hl
    refine ⟨_, (pss_cons (ps_set (i := 2) sc_law_doing.nd rfl (.inr rfl) (pe_ix (kIxL K rfl) (pe_lst (pa_cons pe_int (pa_cons pe_int (pa_cons pe_int pa_nil)))) (pe_call (ok_law_draw T) (hr.mono (by first | decide | omega)) (by rfl) T.g_law_draw T.F_law_draw.kp (T.b_law_draw) .nil pass0 (pa_cons (pv 0) (pa_cons pe_int pa_nil))) (fun _ _ => rfl)))
  (pss_one (ps_ret (pe_callTy (kTupOf K rfl) (by rfl) T.z_tuple (by decide +kernel) (pa_cons (pe_lc (own := [("_law_row_here", 3)]) (g := (gName 3)) rfl sc_law_doing.nd (kiTup K rfl (pv 1)) (blkOk_by (own := [("_law_row_here", 3)]) (N := ["_law_dice_here", "_law_rows_here", "_law_share", "_law_row_here"]) (sc := defScope s_law_doing) (by decide +kernel)) (fun _ _ _ _ _ => (pg_name (i := 3) sc_law_doing.nd rfl (.inl rfl))) (fun _ _ _ _ _ => pts_nil) (fun _ _ _ _ _ => (pe_or (pe_ix (kIxT K rfl) (pv 3) pe_int (fun _ _ => rfl)) (pe_one (pe_cmpR op_lt (pe_call (ok_law_draw T) (hr.mono (by first | decide | omega)) (by rfl) T.g_law_draw T.F_law_draw.kp (T.b_law_draw) .nil pass0 (pa_cons (pv 0) (pa_cons pe_int pa_nil))) (pv 2) (nomark _)))))) pa_nil))))), ?_⟩
    walk_at "go"
    refine ⟨by show 3 ≤ sizeLine; decide, fun l nl => ?_⟩
    walk_at "go"
    refine ⟨d, c, 3, rfl, hD.new nl, by decide, by decide, fun H1 r f1 hD1 r0 r1 => ?_⟩
    have fl : Fr d H H1 := (Fr.new nl).trans f1
    obtain ⟨sh, hsh⟩ := draw3 (a := 1) (b := 3) (c := 5) r0 r1
    walk_at "go"
    refine g_ixL (SqL.at (f1 _ _ (hD.nd nl) upd_same)) hsh ?_
    have t1 : Tx H H1 := hD.tx fl
    walk_at "go"
    refine ⟨p, rfl, ⟨_, t1.seq hp⟩, fun D nDD => ?_⟩
    refine lc_drawI (K := K) (d := d) (c := c) (walk_tup (K := K) (a := p) (xs := xs)) (fun i e => ∃ f, e = .bool f ∧ ∀ r, rs[i]? = some r → r.2.2 = true → f = true) (Nat.lt_of_le_of_lt (show xs.length ≤ 100000 by omega) (by decide)) (fun i e ⟨z, h, _⟩ => by rw [h]; rfl) nDD hD1 (fun H' f => (hD1.tx f).seq (t1.seq hp)) (fun j x H9 H9' C Cn hj f9 hD9 hy hC => ?_) (fun H' ys ds f9 hD9 hDl hys hn hall => ?_)
    · obtain ⟨rfl, hx⟩ := hy
      obtain ⟨e, ge, re⟩ := DpAll.get ha hx
      obtain ⟨r', gr, rfl⟩ := map_at ge
      obtain ⟨rp, rfl, hrp⟩ := of_row re
      refine ⟨rfl, ?_⟩
      walk_at "go"
      refine g_ixT ((hD1.tx f9).seq (t1.seq hrp)) (v := .bl r'.2.2) rfl ?_
      walk_at "go"
      cases hs : r'.2.2 with
      | true =>
        walk_at "go"
        exact hC _ _ _ (Fr.refl _ _) hD9 (.bl true) ⟨true, rfl, fun _ _ _ => rfl⟩
      | false =>
        walk_at "go"
        refine ⟨d, c, 6, rfl, hD9, by decide, by decide, fun H10 z f10 hD10 _ _ => ?_⟩
        walk_at "go"
        refine hC _ _ _ f10 hD10 (.bl _) ⟨_, rfl, fun r2 g2 s2 => ?_⟩
        rw [gr] at g2
        cases g2
        rw [hs] at s2
        cases s2
    · obtain ⟨fs, rfl⟩ := flags_of fun e he => by
        obtain ⟨i, hi⟩ := List.mem_iff_getElem?.mp he
        obtain ⟨f, hf, _⟩ := hall i e hi
        exact ⟨f, hf⟩
      rw [List.length_map] at hn
      walk_at "go"
      refine ⟨D, ys, rfl, .inl ⟨SqL.at hDl, fun p2 np2 => ?_⟩⟩
      refine q _ _ fs ((fl.trans f9).trans (Fr.new np2)) (hD9.new np2) (.tup SqT.new (Dp.sameAll (same_new np2) _ _ hys)) ?_
      unfold isDo
      rw [decide_eq_true (show fs.length = rs.length by omega), okF_of fun i r f h1 h2 h3 => ?_]
      · rfl
      · obtain ⟨f', e1, e2⟩ := hall i (.bool f) (map_get h2)
        cases e1
        exact e2 r h1 h3
def sp_law_offices : Sp := fun vs H Q _ => ∃ (d c : Addr) (m : Int), vs = [.ref d, .int m] ∧ Dice d c H ∧ 3 ≤ m ∧ m ≤ 12 ∧ ∀ H' n, Fr d H H' → Dice d c H' → 1 ≤ n → n ≤ m → Q (.int n) H'
end

section
variable {P : Program} {w : World} {K : PySem.W.Frag} {mg : Str → Option Value} {base : Heap} {a : Ad}
/-! ### own copying -/
def sp_law_led (K : PySem.W.Frag) : Sp := fun vs H Q _ => ∃ n rv t rs fs, vs = [.int n, rv, t] ∧ Dp K H rv (rowsD rs) ∧ Dp K H t (flagsD fs) ∧ AnyLog n rs ∧ fs.length = rs.length ∧ ∀ H' f xs, Same H H' → H f = none → H' f = some (.lst xs) → DpAll K H' xs (allSt n rs fs) → Q (.ref f) H'
theorem ok_law_led (T : Txt K mg a) : FnOk P w K mg base CX0 1 a.f_law_led a.d_law_led ["_law_offices_here", "_law_rows_here", "_law_doing_here"] (sp_law_led K) := by
  refine T.F_law_led.ok sc_law_led (fun vs H Q E h => ?_) (fun cdv A outer s H vs Q E hr h => ?_)
  · obtain ⟨n, rv, t, rs, fs, rfl, _⟩ := h
    rfl
  · obtain ⟨n, rv, t, rs, fs, rfl, hrv, ht, ⟨n1, n2, hmax, hgood⟩, hlen, q⟩ := h
    have hst := fun i hi => st_good (by omega : 0 ≤ n) hgood hlen i hi
    obtain ⟨tp, rfl, htp⟩ := of_flags ht
    obtain ⟨p, ys, rfl, hp, ha⟩ := of_tup hrv
    have hl := DpAll.len ha
    rw [List.length_map] at hl
    refine ⟨_, (pss_cons (ps_set (i := 3) sc_law_led.nd rfl (.inl rfl) (pe_lst (pa_cons (pe_tupRg rfl (by rfl) T.z_tuple (prg_1 (by rfl) T.z_range (pv 0))) pa_nil)))
  (pss_cons (ps_for PassesOwn.never rfl (pi_range1 rfl T.z_range (pa_cons (pe_callB (kLen K rfl) (by rfl) T.z_len (by decide +kernel) (pa_cons (pv 1) pa_nil)) pa_nil)) (pg_name (i := 4) sc_law_led.nd rfl (.inl rfl))
  (pss_cons (ps_set (i := 5) sc_law_led.nd rfl (.inl rfl) (pe_callTy (kLstOf K rfl) (by rfl) T.z_list (by decide +kernel) (pa_cons (pe_ix (kIxL K rfl) (pv 3) (pe_un un_neg pe_int) (fun _ _ => rfl)) pa_nil)))
  (pss_cons (ps_if (pt_val (pe_ix (kIxT K rfl) (pv 2) (pv 4) (fun _ _ => rfl)))
  (pss_one (ps_asg (pe_ix (kIxL K rfl) (pv 5) (pe_ix (kIxT K rfl) (pe_ix (kIxT K rfl) (pv 1) (pv 4) (fun _ _ => rfl)) pe_int (fun _ _ => rfl)) (fun _ _ => rfl)) (pg_sub (pv 5) (pe_ix (kIxT K rfl) (pe_ix (kIxT K rfl) (pv 1) (pv 4) (fun _ _ => rfl)) pe_int (fun _ _ => rfl)) set_list)))
  pss_nil)
  (pss_one (ps_expr (pe_bm PySem.F.plainAttrs_list PySem.F.slot_list_append PySem.F.type_list_append mt_append (pv 3) (pa_cons (pe_callTy (kTupOf K rfl) (by rfl) T.z_tuple (by decide +kernel) (pa_cons (pv 5) pa_nil)) pa_nil)))))))
  (pss_one (ps_ret (pv 3))))), ?_⟩
    walk_at "go"
    refine ⟨RgOk.of_le (by decide) (by omega) (by decide) (by omega), fun t0 nt0 => ?_⟩
    rw [rgV_first]
    have s3 : Same H (upd H t0 (.tup ((firstSt n).map V.int))) := same_new nt0
    walk_at "go"
    refine ⟨by show 1 ≤ sizeLine; decide, fun fl nfl => ?_⟩
    have s4 := s3.trans (same_new (o := .lst [.ref t0]) nfl)
    have nfl0 : H fl = none := s3.free nfl
    walk_at "go"
    refine ⟨_, _, rfl, .inr ((Tx.of s4).seq hp), ?_⟩
    refine ⟨_, rfl, by omega, by omega, ?_⟩
    rw [hl]
    refine for_it walk_rng0
      (fun i σ H' => ∃ y4 y5 xs, σ = [some (.int n), some (.ref p), some (.ref tp), some (.ref fl), y4, y5] ∧ Same H H' ∧ H' fl = some (.lst xs) ∧ DpAll K H' xs ((List.range (i + 1)).map fun j => tupI (stAt n rs fs j)))
      ⟨_, _, [.ref t0], rfl, s4, upd_same, .cons (dp_ints ((Tx.new nfl).seq SqT.new)) .nil⟩ (fun _ _ _ _ _ => trivial) (fun i x σ H2 H3 hi hP hy => ?_) (fun σ H' hP => ?_)
    · obtain ⟨y4, y5, xs, rfl, sm, hf, hxs⟩ := hP
      obtain ⟨rfl, rfl⟩ := hy
      have hi' : i < rs.length := by omega
      have gr := List.getElem?_eq_getElem hi'
      generalize rs[i] = r at gr
      have gf := List.getElem?_eq_getElem (show i < fs.length by omega)
      generalize fs[i] = f at gf
      have hrow := hgood r (List.mem_of_getElem? gr)
      obtain ⟨g1, g2, g3, g4, g5⟩ := hrow
      have gx : i < ys.length := by omega
      obtain ⟨d, gd, rd⟩ := DpAll.get ha (List.getElem?_eq_getElem gx)
      have ed : d = rowD r := Option.some.inj (gd.symm.trans (map_get gr))
      subst ed
      obtain ⟨rp, erp, hrp⟩ := of_row rd
      have gx' : ys[i]? = some (.ref rp) := by rw [List.getElem?_eq_getElem gx, erp]
      have hst1 := hst i (by omega)
      have hsl : (stAt n rs fs i).length = n.toNat := by have := hst1.1; omega
      have eS : stAt n rs fs (i + 1) = stepR (stAt n rs fs i) r f := st_succ gr gf
      have hxl : xs.length = i + 1 := by rw [DpAll.len hxs]; simp
      obtain ⟨dl, gdl, rdl⟩ := DpAll.get hxs (List.getElem?_eq_getElem (show xs.length - 1 < xs.length by omega))
      have edl : dl = tupI (stAt n rs fs i) := by
        rw [show xs.length - 1 = i by omega, List.getElem?_map, List.getElem?_range (by omega)] at gdl
        exact (Option.some.inj gdl).symm
      subst edl
      obtain ⟨lp, elp, hlp⟩ := of_ints rdl
      have gl : xs[xs.length - 1]? = some (.ref lp) := by rw [List.getElem?_eq_getElem (by omega), elp]
      have hp3 := (Tx.of sm).seq hp
      have htp3 := (Tx.of sm).seq htp
      have hrp3 := (Tx.of sm).seq hrp
      walk_at "gs"
      refine g_seq ?_
      walk_at "gs"
      refine g_ixL (SqL.at hf) (atI_lastG gl) ?_
      walk_at "gs"
      refine ⟨lp, _, rfl, .inr hlp, fun h nh => ?_⟩
      have sh : Same H (upd H3 h (.lst ((stAt n rs fs i).map V.int))) := sm.trans (same_new nh)
      have nh0 : H h = none := sm.free nh
      have nhf : h ≠ fl := (ne_of_none hf nh).symm
      have hf2 : (upd H3 h (.lst ((stAt n rs fs i).map V.int))) fl = some (.lst xs) := by rw [upd_ne nhf.symm]; exact hf
      have hx2 : DpAll K (upd H3 h (.lst ((stAt n rs fs i).map V.int))) xs ((List.range (i + 1)).map fun j => tupI (stAt n rs fs j)) := Dp.sameAll (same_new nh) _ _ hxs
      walk_at "gs"
      refine seq_cut (fun σ' H4 => σ' = [some (.int n), some (.ref p), some (.ref tp), some (.ref fl), some (.int ((i : Nat) : Int)), some (.ref h)] ∧ Same H H4 ∧ H4 h = some (.lst ((stAt n rs fs (i + 1)).map V.int)) ∧ H4 fl = some (.lst xs) ∧ DpAll K H4 xs ((List.range (i + 1)).map fun j => tupI (stAt n rs fs j))) ?_ ?_
      · rintro σ' H4 ⟨rfl, s5, hh4, hf4, hx4⟩
        walk_at "go"
        refine ⟨.inl ⟨rfl, _, SqL.at hf4⟩, ?_⟩
        walk_at "go"
        refine ⟨h, _, rfl, .inl ⟨SqL.at hh4, fun t1 nt1 => ?_⟩⟩
        have hf5 : (upd H4 t1 (.tup ((stAt n rs fs (i + 1)).map V.int))) fl = some (.lst xs) := by rw [upd_ne (ne_of_none hf4 nt1)]; exact hf4
        walk_at "go"
        refine ⟨fl, xs, .ref t1, rfl, rfl, hf5, by rw [hxl]; exact Nat.lt_of_le_of_lt (show i + 1 ≤ 100000 by omega) (by decide), ?_⟩
        refine ⟨_, _, xs ++ [.ref t1], rfl, Same.put (s5.trans (same_new nt1)) nfl0, upd_same, ?_⟩
        rw [range1_map]
        refine Dp.txAll (Tx.lst hf5) _ _ ?_ (DpAll.snoc (Dp.sameAll (same_new nt1) _ _ hx4) (dp_ints SqT.new))
        rw [← range1_map]
        exact imAll_tupI _ _
      · intro N hN
        walk_at "go"
        refine g_ixT ((Tx.of (same_new nh)).seq htp3) (atI_nat (map_get gf)) ?_
        walk_at "go"
        cases f with
        | false =>
          walk_at "go"
          exact hN _ _ ⟨rfl, sh, by rw [eS]; exact upd_same, hf2, hx2⟩
        | true =>
          have hy2 : r.2.1.toNat < (stAt n rs fs i).length := by omega
          have gz := List.getElem?_eq_getElem hy2
          have tn : Tx H3 (upd H3 h (.lst ((stAt n rs fs i).map V.int))) := Tx.new nh
          walk_at "go"
          refine g_ixT (tn.seq hp3) (atI_nat gx') ?_
          walk_at "go"
          refine g_ixT (tn.seq hrp3) (v := .int r.2.1) rfl ?_
          walk_at "go"
          refine g_ixL SqL.new (atI_at g3 (map_get gz)) ?_
          walk_at "go"
          refine g_ixT (tn.seq hp3) (atI_nat gx') ?_
          walk_at "go"
          refine g_ixT (tn.seq hrp3) (v := .int r.1) rfl ?_
          walk_at "go"
          refine g_setL upd_same (ixN_at g1 (by rw [List.length_map, hsl]; omega)) ?_
          refine hN _ _ ⟨rfl, Same.put sh nh0, ?_, ?_, ?_⟩
          · rw [upd_same, eS]
            unfold stepR
            rw [if_pos rfl, getD_of gz, List.map_set]
          · rw [upd_ne nhf.symm]
            exact hf2
          · exact Dp.txAll (Tx.lst upd_same) _ _ (imAll_tupI _ _) hx2
    · obtain ⟨y4, y5, xs, rfl, sm, hf, hxs⟩ := hP
      walk_at "go"
      exact q _ fl xs sm nfl0 hf hxs

end

section
variable {P : Program} {w : World} {K : PySem.W.Frag} {mg : Str → Option Value} {base : Heap} {a : Ad}
/-! ### an archive -/
def finD (fs : List Fd) : PyData := .tuple (fs.map findD)
theorem im_finD (fs : List Fd) : im (finD fs) = true := imAll_map (fun _ => rfl) fs
abbrev St2 := List Row × List Fd
def PairAt (K : PySem.W.Frag) (C : Addr) (H : Hp) (n : Int) (v : V) (st : St2) : Prop := ∃ t l f, v = .ref t ∧ SqT K H t [l, f] ∧ LogAt K C H l n st.1 ∧ Dp K H f (finD st.2)
theorem PairAt.ta {C CA : Addr} {H H' : Hp} {n : Int} {v : V} {st : St2} (ne : C ≠ CA) (t : Ta CA H H') (h : PairAt K C H n v st) : PairAt K C H' n v st := by
  obtain ⟨a, l, f, e, h1, h2, h3⟩ := h
  exact ⟨a, l, f, e, t.seq h1, h2.ta ne t, Dp.ta t _ _ (im_finD _) h3⟩
def PastAt (K : PySem.W.Frag) (C : Addr) (H : Hp) (n : Int) (xs : List V) (past : List St2) : Prop := xs.length = past.length ∧ ∀ (i : Nat) v st, xs[i]? = some v → past[i]? = some st → PairAt K C H n v st
theorem PastAt.ta {C CA : Addr} {H H' : Hp} {n : Int} {xs : List V} {past : List St2} (ne : C ≠ CA) (t : Ta CA H H') (h : PastAt K C H n xs past) : PastAt K C H' n xs past := ⟨h.1, fun i v st g1 g2 => (h.2 i v st g1 g2).ta ne t⟩
theorem PastAt.snoc {C : Addr} {H : Hp} {n : Int} {xs : List V} {past : List St2} {v : V} {st : St2} (h : PastAt K C H n xs past) (p : PairAt K C H n v st) : PastAt K C H n (xs ++ [v]) (past ++ [st]) := by
  refine ⟨by rw [List.length_append, List.length_append, h.1]; rfl, fun i u st' g1 g2 => ?_⟩
  by_cases hi : i < xs.length
  · rw [List.getElem?_append_left hi] at g1
    rw [List.getElem?_append_left (by rw [← h.1]; exact hi)] at g2
    exact h.2 i u st' g1 g2
  · rw [List.getElem?_append_right (by omega)] at g1
    rw [List.getElem?_append_right (by rw [← h.1]; omega), ← h.1] at g2
    have hz : i - xs.length = 0 := by
      by_cases hz : i - xs.length = 0
      · exact hz
      · rw [show i - xs.length = (i - xs.length - 1) + 1 by omega, List.getElem?_cons_succ] at g1
        simp at g1
    rw [hz] at g1 g2
    cases g1
    cases g2
    exact p
theorem PastAt.pop {C : Addr} {H : Hp} {n : Int} {xs : List V} {past : List St2} {v : V} {st : St2} (h : PastAt K C H n (xs ++ [v]) (past ++ [st])) : PastAt K C H n xs past ∧ PairAt K C H n v st := by
  have hl : xs.length = past.length := by have := h.1; rw [List.length_append, List.length_append] at this; simpa using this
  refine ⟨⟨hl, fun i u st' g1 g2 => h.2 i u st' ?_ ?_⟩, h.2 xs.length v st ?_ ?_⟩
  · rw [List.getElem?_append_left (List.getElem?_eq_some_iff.mp g1).1]
    exact g1
  · rw [List.getElem?_append_left (List.getElem?_eq_some_iff.mp g2).1]
    exact g2
  · rw [List.getElem?_append_right (Nat.le_refl _), Nat.sub_self]
    rfl
  · rw [hl, List.getElem?_append_right (Nat.le_refl _), Nat.sub_self]
    rfl
def ArcAt (K : PySem.W.Frag) (C CA : Addr) (H : Hp) (x pa : Addr) (n : Int) (past : List St2) (cur : St2) : Prop :=
  ∃ dx l f xs, H x = some (.ins CA dx [("log", l), ("finds", f), ("past", .ref pa)]) ∧ LogAt K C H l n cur.1 ∧ Dp K H f (finD cur.2) ∧ H pa = some (.lst xs) ∧ PastAt K C H n xs past
def Kx (x pa : Addr) (H H' : Hp) : Prop := ∀ b o, b ≠ x → b ≠ pa → H b = some o → H' b = some o
theorem Kx.of {x pa : Addr} {H H' : Hp} (s : Same H H') : Kx x pa H H' := fun b o _ _ h => s b o h
theorem Kx.trans {x pa : Addr} {H H' H2 : Hp} (s : Kx x pa H H') (t : Kx x pa H' H2) : Kx x pa H H2 := fun b o h1 h2 h => t b o h1 h2 (s b o h1 h2 h)
theorem Kx.at {x pa : Addr} {H : Hp} {o : HO} : Kx x pa H (upd H x o) := fun b u h1 _ h => by rw [upd_ne h1]; exact h
theorem Kx.past {x pa : Addr} {H : Hp} {o : HO} : Kx x pa H (upd H pa o) := fun b u _ h2 h => by rw [upd_ne h2]; exact h
theorem Kx.ta {CA x pa dx : Addr} {fs : List (Str × V)} {xs : List V} {H H' : Hp} (s : Kx x pa H H') (hx : H x = some (.ins CA dx fs)) (hp : H pa = some (.lst xs)) : Ta CA H H' := fun b o h n m => s b o (fun e => by subst e; rw [hx] at h; cases h; exact m _ _ rfl) (fun e => by subst e; rw [hp] at h; cases h; exact n _ rfl) h
theorem ArcAt.same {C CA : Addr} {H H' : Hp} {x pa : Addr} {n : Int} {past : List St2} {cur : St2} (s : Same H H') (h : ArcAt K C CA H x pa n past cur) : ArcAt K C CA H' x pa n past cur := by
  obtain ⟨dx, l, f, xs, h1, h2, h3, h4, h5⟩ := h
  refine ⟨dx, l, f, xs, s _ _ h1, h2.tx (Tx.of s), Dp.same s _ _ h3, s _ _ h4, h5.1, fun i v st g1 g2 => ?_⟩
  obtain ⟨t, l', f', e, u1, u2, u3⟩ := h5.2 i v st g1 g2
  exact ⟨t, l', f', e, (Tx.of s).seq u1, u2.tx (Tx.of s), Dp.same s _ _ u3⟩
theorem xpa {CA x pa dx : Addr} {fs : List (Str × V)} {xs : List V} {H : Hp} (hx : H x = some (.ins CA dx fs)) (hp : H pa = some (.lst xs)) : x ≠ pa := fun e => by subst e; rw [hx] at hp; cases hp
/-- change -/
def sp_Archive_change (K : PySem.W.Frag) (C CA : Addr) : Sp := fun vs H Q _ => ∃ x pa n past cur l f rs fs, vs = [.ref x, l, f] ∧ ArcAt K C CA H x pa n past cur ∧ LogAt K C H l n rs ∧ Dp K H f (finD fs) ∧ past.length ≤ 1000 ∧ ∀ H', Kx x pa H H' → ArcAt K C CA H' x pa n (past ++ [cur]) (rs, fs) → Q .non H'
theorem ok_Archive_change (T : Txt K mg a) : FnOk P w K mg base CX0 1 a.f_Archive_change a.d_Archive_change ["self", "log", "finds"] (sp_Archive_change K a.c_Log a.c_Archive) := by
  refine T.F_Archive_change.ok sc_Archive_change (fun vs H Q E h => ?_) (fun cdv A outer s H vs Q E hr h => ?_)
  · obtain ⟨x, pa, n, past, cur, l, f, rs, fs, rfl, _⟩ := h
    rfl
  · obtain ⟨x, pa, n, past, cur, l, f, rs, fs, rfl, ⟨dx, l0, f0, xs, hx, hl0, hf0, hpa, hP⟩, hl, hf, hm, q⟩ := h
    have nxp := xpa hx hpa
    have hm' := hP.1
    refine ⟨_, (pss_cons (ps_expr (pe_bm PySem.F.plainAttrs_list PySem.F.slot_list_append PySem.F.type_list_append mt_append (kpFld K rfl (pv 0) rfl) (pa_cons (pe_tup (pa_cons (kpFld K rfl (pv 0) rfl) (pa_cons (kpFld K rfl (pv 0) rfl) pa_nil))) pa_nil)))
  (pss_cons (ksFld K rfl (pv 0) (pv 1) rfl)
  (pss_one (ksFld K rfl (pv 0) (pv 2) rfl)))), ?_⟩
    walk_at "go"
    refine ⟨_, _, _, _, _, rfl, hx, T.cl_Archive, T.n_Archive_past, rfl, ?_⟩
    walk_at "go"
    refine ⟨.inl ⟨rfl, _, SqL.at hpa⟩, ?_⟩
    walk_at "go"
    refine ⟨_, _, _, _, _, rfl, hx, T.cl_Archive, T.n_Archive_log, rfl, ?_⟩
    walk_at "go"
    refine ⟨_, _, _, _, _, rfl, hx, T.cl_Archive, T.n_Archive_finds, rfl, ?_⟩
    walk_at "go"
    refine ⟨by show 2 ≤ sizeLine; decide, fun t nt => ?_⟩
    have s1 := same_new (o := .tup [l0, f0]) nt
    walk_at "go"
    refine ⟨pa, xs, .ref t, rfl, rfl, s1 _ _ hpa, Nat.lt_of_le_of_lt (show xs.length ≤ 1000 by omega) (by decide), ?_⟩
    have k1 : Kx x pa H (upd (upd H t (.tup [l0, f0])) pa (.lst (xs ++ [.ref t]))) := (Kx.of s1).trans .past
    have hx1 : (upd (upd H t (.tup [l0, f0])) pa (.lst (xs ++ [.ref t]))) x = some (.ins a.c_Archive dx [("log", l0), ("finds", f0), ("past", .ref pa)]) := by rw [upd_ne nxp]; exact s1 _ _ hx
    have t1 := k1.ta hx hpa
    have t2 : Ta a.c_Archive (upd H t (.tup [l0, f0])) (upd (upd H t (.tup [l0, f0])) pa (.lst (xs ++ [.ref t]))) := Kx.ta (.past (x := x)) (s1 _ _ hx) (s1 _ _ hpa)
    have hP1 : PastAt K a.c_Log (upd (upd H t (.tup [l0, f0])) pa (.lst (xs ++ [.ref t]))) n (xs ++ [.ref t]) (past ++ [cur]) := (hP.ta T.nq t1).snoc ⟨t, l0, f0, rfl, t2.seq SqT.new, hl0.ta T.nq t1, Dp.ta t1 _ _ (im_finD _) hf0⟩
    have hpa1 := @upd_same (upd H t (.tup [l0, f0])) pa (.lst (xs ++ [.ref t]))
    have hl1 := hl.ta T.nq t1
    have hf1 := Dp.ta t1 _ _ (im_finD _) hf
    generalize upd (upd H t (.tup [l0, f0])) pa (.lst (xs ++ [.ref t])) = H1 at k1 hx1 hP1 hpa1 hl1 hf1 ⊢
    walk_at "go"
    refine ⟨x, _, dx, _, rfl, hx1, T.cl_Archive, T.n_Archive_log, by show (3 : Nat) < 1000; decide, ?_⟩
    walk_at "go"
    refine ⟨x, _, dx, _, rfl, upd_same, T.cl_Archive, T.n_Archive_finds, by show (3 : Nat) < 1000; decide, ?_⟩
    have k2 : Kx x pa H1 (upd (upd H1 x (.ins a.c_Archive dx (putF "log" l [("log", l0), ("finds", f0), ("past", .ref pa)]))) x (.ins a.c_Archive dx (putF "finds" f (putF "log" l [("log", l0), ("finds", f0), ("past", .ref pa)])))) := Kx.at.trans .at
    have t3 := k2.ta hx1 hpa1
    exact q _ (k1.trans k2) ⟨dx, l, f, _, upd_same, hl1.ta T.nq t3, Dp.ta t3 _ _ (im_finD _) hf1, by rw [upd_ne nxp.symm, upd_ne nxp.symm]; exact hpa1, hP1.ta T.nq t3⟩
theorem ArcAt.txp {C CA : Addr} {H H' : Hp} {x pa : Addr} {n : Int} {past : List St2} {cur : St2} (t : Tx H H') (hp : ∀ xs, H pa = some (.lst xs) → H' pa = some (.lst xs)) (h : ArcAt K C CA H x pa n past cur) : ArcAt K C CA H' x pa n past cur := by
  obtain ⟨dx, l, f, xs, h1, h2, h3, h4, h5⟩ := h
  refine ⟨dx, l, f, xs, t _ _ h1 (fun z e => by cases e), h2.tx t, Dp.tx t _ _ (im_finD _) h3, hp _ h4, h5.1, fun i v st g1 g2 => ?_⟩
  obtain ⟨t', l', f', e, u1, u2, u3⟩ := h5.2 i v st g1 g2
  exact ⟨t', l', f', e, t.seq u1, u2.tx t, Dp.tx t _ _ (im_finD _) u3⟩

end

section
variable {P : Program} {w : World} {K : PySem.W.Frag} {mg : Str → Option Value} {base : Heap} {a : Ad}
/-! ### an archive's deeds -/
def upF (k : Nat) (f : Fd) : Fd := (if k < f.1 then f.1 + 1 else f.1, f.2)
def downF (k : Nat) (f : Fd) : Fd := (if k < f.1 then f.1 - 1 else f.1, f.2)
def sp_Archive_init (K : PySem.W.Frag) (C CA : Addr) : Sp := fun vs H Q _ => ∃ x dx n, vs = [.ref x, .int n] ∧ H x = some (.ins CA dx []) ∧ 1 ≤ n ∧ n ≤ 12 ∧ ∀ H' pa, Fr x H H' → H pa = none → ArcAt K C CA H' x pa n [] ([], []) → Q .non H'
theorem ok_Archive_init (T : Txt K mg a) : FnOk P w K mg base CX0 9 a.f_Archive_init a.d_Archive_init ["self", "offices"] (sp_Archive_init K a.c_Log a.c_Archive) := by
  refine T.F_Archive_init.ok sc_Archive_init (fun vs H Q E h => ?_) (fun cdv A outer s H vs Q E hr h => ?_)
  · obtain ⟨x, dx, n, rfl, _⟩ := h
    rfl
  · obtain ⟨x, dx, n, rfl, hx, n1, n12, q⟩ := h
    refine ⟨_, (pss_cons (ps_if (pt_not (pt_val (pe_call (ok_is_between T) (hr.mono (by first | decide | omega)) (by rfl) T.g_is_between T.F_is_between.kp (T.b_is_between) .nil pass0 (pa_cons (pv 1) (pa_cons pe_int (pa_cons (pe_glob (v := .int 12) rfl T.g_MOST_OFFICES.choose_spec ⟨_, rfl⟩) pa_nil))))))
  (pss_one ps_never)
  pss_nil)
  (pss_cons (ksFld K rfl (pv 0) (pe_make T.mk_Log (ok_Log_init T) (hr.mono (by first | decide | omega)) (by rfl) T.gc_Log T.b_Log_init .nil pass0 (pa_cons (pv 1) (pa_cons (pe_tup pa_nil) pa_nil))) rfl)
  (pss_cons (ksFld K rfl (pv 0) (pe_tup pa_nil) rfl)
  (pss_one (ksFld K rfl (pv 0) (pe_lst pa_nil) rfl))))), ?_⟩
    walk_at "go"
    refine ⟨_, _, _, rfl, .inl ⟨_, rfl, ?_⟩⟩
    rw [decide_eq_true (show 1 ≤ n ∧ n ≤ 12 from ⟨n1, n12⟩)]
    walk_at "go"
    refine ⟨Nat.zero_le _, fun t nt => ?_⟩
    have s1 := same_new (o := .tup []) nt
    walk_at "go"
    intro y dy ny ndy nyd
    refine mk_log (rs := []) (.tup SqT.new .nil) ⟨n1, n12, Nat.zero_le _, fun r hr => by cases hr⟩ ny ndy nyd fun H1 s2 hy => ?_
    have s12 := s1.trans s2
    walk_at "go"
    refine ⟨x, _, dx, [], rfl, s12 _ _ hx, T.cl_Archive, T.n_Archive_log, by decide, ?_⟩
    walk_at "go"
    refine ⟨Nat.zero_le _, fun t3 nt3 => ?_⟩
    walk_at "go"
    have hx3 : (upd (upd H1 x (.ins a.c_Archive dx (putF "log" (V.ref y) []))) t3 (.tup [])) x = some (.ins a.c_Archive dx (putF "log" (V.ref y) [])) := (same_new (o := .tup []) nt3) _ _ upd_same
    refine ⟨x, _, dx, _, rfl, hx3, T.cl_Archive, T.n_Archive_finds, by show (1 : Nat) < 1000; decide, ?_⟩
    walk_at "go"
    refine ⟨Nat.zero_le _, fun pa npa => ?_⟩
    walk_at "go"
    have nxp : x ≠ pa := fun e => by rw [← e, upd_same] at npa; cases npa
    refine ⟨x, _, dx, _, rfl, (same_new (o := .lst []) npa) _ _ upd_same, T.cl_Archive, T.n_Archive_past, by show (2 : Nat) < 1000; decide, ?_⟩
    have nt3x : t3 ≠ x := fun e => by rw [e, upd_same] at nt3; cases nt3
    have fx : ∀ {H0 : Hp} {o : HO}, Fr x H0 (upd H0 x o) := fun b u nb h => by rw [upd_ne nb]; exact h
    have f2 : Fr x H1 (upd (upd (upd H1 x (.ins a.c_Archive dx (putF "log" (V.ref y) []))) t3 (.tup [])) x (.ins a.c_Archive dx (putF "finds" (V.ref t3) (putF "log" (V.ref y) [])))) := (fx.trans (Fr.of (same_new nt3))).trans fx
    have f1 : Fr x H1 (upd (upd (upd (upd H1 x (.ins a.c_Archive dx (putF "log" (V.ref y) []))) t3 (.tup [])) x (.ins a.c_Archive dx (putF "finds" (V.ref t3) (putF "log" (V.ref y) [])))) pa (.lst [])) := f2.trans (Fr.of (same_new npa))
    have npa1 : H pa = none := by
      cases e : H pa with
      | none => rfl
      | some o =>
        have := ((Fr.of s12).trans f2) pa o nxp.symm e
        rw [this] at npa
        cases npa
    have ff := ((Fr.of s12).trans f1).trans (fx (o := .ins a.c_Archive dx (putF "past" (V.ref pa) (putF "finds" (V.ref t3) (putF "log" (V.ref y) [])))))
    refine q _ pa ff npa1 ⟨dx, .ref y, .ref t3, [], upd_same, ?_, .tup ?_ .nil, by rw [upd_ne nxp.symm, upd_same], rfl, fun i v st g1 g2 => by simp at g1⟩
    · have ta1 : Ta a.c_Archive H1 _ := fun b o h n m => (f1.trans (fx (o := .ins a.c_Archive dx (putF "past" (V.ref pa) (putF "finds" (V.ref t3) (putF "log" (V.ref y) [])))))) b o (fun e => by subst e; rw [s12 _ _ hx] at h; cases h; exact m _ _ rfl) h
      exact hy.ta T.nq ta1
    · have nt3pa : t3 ≠ pa := fun e => by
        rw [← e, upd_ne nt3x, upd_same] at npa
        cases npa
      exact .inl (.inl (by rw [upd_ne nt3x, upd_ne nt3pa, upd_ne nt3x, upd_same]))
def sp_check_find (K : PySem.W.Frag) (C : Addr) : Sp := fun vs H Q _ => ∃ l t n rs f, vs = [l, t] ∧ LogAt K C H l n rs ∧ Dp K H t (findD f) ∧ f.1 ≤ rs.length ∧ (f.2.1 : Int) < n ∧ (f.2.2 : Int) < n ∧ ∀ H', Same H H' → Q .non H'
theorem ok_check_find (T : Txt K mg a) : FnOk P w K mg base CX0 6 a.f_check_find a.d_check_find ["log", "find"] (sp_check_find K a.c_Log) := by
  refine T.F_check_find.ok sc_check_find (fun vs H Q E h => ?_) (fun cdv A outer s H vs Q E hr h => ?_)
  · obtain ⟨l, t, n, rs, f, rfl, _⟩ := h
    rfl
  · obtain ⟨l, t, n, rs, f, rfl, hlog, ht, f1, f2, f3, q⟩ := h
    refine ⟨_, (pss_one (ps_if (pt_not (pt_val (pe_call (ok_is_find T) (hr.mono (by first | decide | omega)) (by rfl) T.g_is_find T.F_is_find.kp (T.b_is_find) .nil pass0 (pa_cons (pv 0) (pa_cons (pv 1) pa_nil)))))
  (pss_one ps_never)
  pss_nil)), ?_⟩
    walk_at "go"
    refine ⟨l, t, n, rs, f, rfl, hlog, ht, f1, f2, f3, fun H1 s1 => ?_⟩
    walk_at "go"
    exact q _ s1
def sp_Archive_put (K : PySem.W.Frag) (C CA : Addr) : Sp := fun vs H Q _ => ∃ x pa n past rs fs v r k, vs = [.ref x, .int k, v] ∧ ArcAt K C CA H x pa n past (rs, fs) ∧ AnyLog n rs ∧ rs.length < 60 ∧ 0 ≤ k ∧ k ≤ rs.length ∧ Dp K H v (rowD r) ∧ GoodRow n r ∧ fs.length ≤ 1000 ∧ past.length ≤ 1000 ∧
  ∀ H', Kx x pa H H' → ArcAt K C CA H' x pa n (past ++ [(rs, fs)]) (rs.take k.toNat ++ r :: rs.drop k.toNat, fs.map (upF k.toNat)) → Q .non H'
theorem ok_Archive_put (T : Txt K mg a) : FnOk P w K mg base CX0 11 a.f_Archive_put a.d_Archive_put ["self", "at", "row"] (sp_Archive_put K a.c_Log a.c_Archive) := by
  refine T.F_Archive_put.ok sc_Archive_put (fun vs H Q E h => ?_) (fun cdv A outer s H vs Q E hr h => ?_)
  · obtain ⟨x, pa, n, past, rs, fs, v, r, k, rfl, _⟩ := h
    rfl
  · obtain ⟨x, pa, n, past, rs, fs, v, r, k, rfl, hA, hany, h60, k0, k1, hv, hg, lf, lp, q⟩ := h
    obtain ⟨dx, l0, f0, xs, hx, hl0, hf0, hpa, hP⟩ := id hA
    refine ⟨_, (pss_cons (ps_set (i := 3) sc_Archive_put.nd rfl (.inl rfl) (pe_call (ok_with_row T) (hr.mono (by first | decide | omega)) (by rfl) T.g_with_row T.F_with_row.kp (T.b_with_row) .nil pass0 (pa_cons (kpFld K rfl (pv 0) rfl) (pa_cons (pv 1) (pa_cons (pv 2) pa_nil)))))
  (pss_cons (ps_if (pt_cmpR op_ge (pe_callB (kLen K rfl) (by rfl) T.z_len (by decide +kernel) (pa_cons (kpFld K rfl (kpFld K rfl (pv 0) rfl) rfl) pa_nil)) (pe_glob (v := .int 60) rfl T.g_MOST_ROWS.choose_spec ⟨_, rfl⟩) (nomark _))
  (pss_one ps_never)
  pss_nil)
  (pss_one (ps_expr (pe_meth (pv 0) T.cl_Archive T.m_Archive_change (ok_Archive_change T) (hr.mono (by first | decide | omega)) T.b_Archive_change .nil pass0 (pa_cons (pv 3) (pa_cons (pe_callTy (kTupOf K rfl) (by rfl) T.z_tuple (by decide +kernel) (pa_cons (pe_lc (own := [("moment", 4), ("office", 5), ("edition", 6)]) (g := (gTup K 3 (gCons (gName 4) (gCons (gName 5) (gCons (gName 6) gNil))))) rfl sc_Archive_put.nd (kiTup K rfl (kpFld K rfl (pv 0) rfl)) (blkOk_by (own := [("moment", 4), ("office", 5), ("edition", 6)]) (N := ["self", "at", "row", "log", "moment", "office", "edition"]) (sc := defScope s_Archive_put) (by decide +kernel)) (fun _ _ _ _ _ => (kgTup K rfl rfl (pgs_cons (pg_name (i := 4) sc_Archive_put.nd rfl (.inl rfl)) (pgs_cons (pg_name (i := 5) sc_Archive_put.nd rfl (.inl rfl)) (pgs_cons (pg_name (i := 6) sc_Archive_put.nd rfl (.inl rfl)) pgs_nil))))) (fun _ _ _ _ _ => pts_nil) (fun _ _ _ _ _ => (pe_tup (pa_cons (pe_ifExp (pt_cmpR op_gt (pv 4) (pv 1) (nomark _)) (pe_op op_add (pv 4) pe_int) (pv 4)) (pa_cons (pv 5) (pa_cons (pv 6) pa_nil)))))) pa_nil)) pa_nil))))))), ?_⟩
    walk_at "go"
    refine ⟨_, _, _, _, _, rfl, hx, T.cl_Archive, T.n_Archive_log, rfl, ?_⟩
    walk_at "go"
    refine ⟨l0, n, rs, k, v, r, rfl, hl0, hany, k0, by omega, hv, hg, fun H1 y s1 hy => ?_⟩
    walk_at "go"
    refine ⟨_, _, _, _, _, rfl, s1 _ _ hx, T.cl_Archive, T.n_Archive_log, rfl, ?_⟩
    obtain ⟨la, ldx, p, rfl, hla, hrd⟩ := hl0.tx (Tx.of s1)
    walk_at "go"
    refine ⟨_, _, _, _, _, rfl, hla, T.cl_Log, T.n_Log_rows, rfl, ?_⟩
    obtain ⟨_, ys, e, hp, ha⟩ := of_tup hrd
    cases e
    have hl := DpAll.len ha
    rw [List.length_map] at hl
    walk_at "go"
    refine ⟨_, _, rfl, .inr hp, ?_⟩
    walk_at "go"
    rw [decide_eq_false (show ¬ (60 : Int) ≤ ((ys.length : Nat) : Int) by simp only at hl; omega)]
    walk_at "go"
    refine g_meth ?_
    walk_at "go"
    refine ⟨x, dx, _, rfl, s1 _ _ hx, rfl, ?_⟩
    walk_at "go"
    refine ⟨_, _, _, _, _, rfl, s1 _ _ hx, T.cl_Archive, T.n_Archive_finds, rfl, ?_⟩
    obtain ⟨fp, fxs, rfl, hfp, hfa⟩ := of_tup (Dp.same s1 _ _ hf0)
    have hfl := DpAll.len hfa
    rw [List.length_map] at hfl
    have ek : k = ((k.toNat : Nat) : Int) := by omega
    walk_at "go"
    refine ⟨fp, rfl, ⟨_, hfp⟩, fun D nD => ?_⟩
    refine lc_data (K := K) (walk_tup (K := K) (a := fp) (xs := fxs)) (fun i => ((fs.take i).map (upF k.toNat)).map findD) (by rw [List.take_zero]; rfl) (fun i hi => ?_) (fun i _ => imAll_map (fun _ => rfl) _) nD (fun H' s => (Tx.of s).seq hfp) (fun i x1 I1 I1' C Cn hi s hy hC hN => ?_) (fun H9 ps s9 hP9 hps => ?_)
    · rw [List.length_map, List.length_map, List.length_take]
      exact Nat.lt_of_le_of_lt (show _ ≤ 1000 by omega) (by decide)
    · obtain ⟨rfl, hz⟩ := hy
      obtain ⟨dd, gd, rd⟩ := DpAll.get (Dp.sameAll s _ _ hfa) hz
      obtain ⟨f, gf, rfl⟩ := map_at gd
      obtain ⟨tp, rfl, htp⟩ := of_find rd
      refine ⟨tp, _, rfl, htp, rfl, _, _, rfl, _, _, rfl, _, _, rfl, rfl, rfl, ?_⟩
      walk_at "go"
      refine g_ite (fun e0 => ?_) (fun e0 => ?_)
      · walk_at "go"
        refine ⟨by show 3 ≤ sizeLine; decide, fun tq ntq => ?_⟩
        refine hC _ (findD (upF k.toNat f)) _ (same_new ntq) ?_ ?_
        · rw [show upF k.toNat f = (f.1 + 1, f.2) from by unfold upF; rw [if_pos (by omega)]]
          exact dp_find SqT.new
        · rw [take_snoc gf, List.map_append, List.map_append]
          rfl
      · walk_at "go"
        refine ⟨by show 3 ≤ sizeLine; decide, fun tq ntq => ?_⟩
        refine hC _ (findD (upF k.toNat f)) _ (same_new ntq) ?_ ?_
        · rw [show upF k.toNat f = f from by unfold upF; rw [if_neg (by omega)]]
          exact dp_find SqT.new
        · rw [take_snoc gf, List.map_append, List.map_append]
          rfl
    rw [hfl, List.take_length] at hps
    walk_at "go"
    refine ⟨D, ps, rfl, .inl ⟨SqL.at hP9, fun tq ntq => ?_⟩⟩
    have sq := same_new (o := .tup ps) ntq
    have s19 := s1.trans (s9.trans sq)
    walk_at "go"
    refine ⟨x, pa, n, past, (rs, fs), .ref y, .ref tq, _, fs.map (upF k.toNat), rfl, hA.same s19, hy.tx (Tx.of (s9.trans sq)), .tup SqT.new (Dp.sameAll sq _ _ hps), lp, fun H' kx hA' => ?_⟩
    walk_at "go"
    exact q _ ((Kx.of s19).trans kx) hA'
def sp_Archive_strike (K : PySem.W.Frag) (C CA : Addr) : Sp := fun vs H Q _ => ∃ x pa n past rs fs k, vs = [.ref x, .int k] ∧ ArcAt K C CA H x pa n past (rs, fs) ∧ AnyLog n rs ∧ 0 ≤ k ∧ k < rs.length ∧ fs.length ≤ 1000 ∧ past.length ≤ 1000 ∧
  ∀ H', Kx x pa H H' → ArcAt K C CA H' x pa n (past ++ [(rs, fs)]) (rs.take k.toNat ++ rs.drop (k.toNat + 1), fs.map (downF k.toNat)) → Q .non H'
theorem ok_Archive_strike (T : Txt K mg a) : FnOk P w K mg base CX0 11 a.f_Archive_strike a.d_Archive_strike ["self", "number"] (sp_Archive_strike K a.c_Log a.c_Archive) := by
  refine T.F_Archive_strike.ok sc_Archive_strike (fun vs H Q E h => ?_) (fun cdv A outer s H vs Q E hr h => ?_)
  · obtain ⟨x, pa, n, past, rs, fs, k, rfl, _⟩ := h
    rfl
  · obtain ⟨x, pa, n, past, rs, fs, k, rfl, hA, hany, k0, k1, lf, lp, q⟩ := h
    obtain ⟨dx, l0, f0, xs, hx, hl0, hf0, hpa, hP⟩ := id hA
    refine ⟨_, (pss_cons (ps_set (i := 2) sc_Archive_strike.nd rfl (.inl rfl) (pe_call (ok_without T) (hr.mono (by first | decide | omega)) (by rfl) T.g_without T.F_without.kp (T.b_without) .nil pass0 (pa_cons (kpFld K rfl (pv 0) rfl) (pa_cons (pv 1) pa_nil))))
  (pss_one (ps_expr (pe_meth (pv 0) T.cl_Archive T.m_Archive_change (ok_Archive_change T) (hr.mono (by first | decide | omega)) T.b_Archive_change .nil pass0 (pa_cons (pv 2) (pa_cons (pe_callTy (kTupOf K rfl) (by rfl) T.z_tuple (by decide +kernel) (pa_cons (pe_lc (own := [("moment", 3), ("office", 4), ("edition", 5)]) (g := (gTup K 3 (gCons (gName 3) (gCons (gName 4) (gCons (gName 5) gNil))))) rfl sc_Archive_strike.nd (kiTup K rfl (kpFld K rfl (pv 0) rfl)) (blkOk_by (own := [("moment", 3), ("office", 4), ("edition", 5)]) (N := ["self", "number", "log", "moment", "office", "edition"]) (sc := defScope s_Archive_strike) (by decide +kernel)) (fun _ _ _ _ _ => (kgTup K rfl rfl (pgs_cons (pg_name (i := 3) sc_Archive_strike.nd rfl (.inl rfl)) (pgs_cons (pg_name (i := 4) sc_Archive_strike.nd rfl (.inl rfl)) (pgs_cons (pg_name (i := 5) sc_Archive_strike.nd rfl (.inl rfl)) pgs_nil))))) (fun _ _ _ _ _ => pts_nil) (fun _ _ _ _ _ => (pe_tup (pa_cons (pe_ifExp (pt_cmpR op_gt (pv 3) (pv 1) (nomark _)) (pe_op op_sub (pv 3) pe_int) (pv 3)) (pa_cons (pv 4) (pa_cons (pv 5) pa_nil)))))) pa_nil)) pa_nil)))))), ?_⟩
    walk_at "go"
    refine ⟨_, _, _, _, _, rfl, hx, T.cl_Archive, T.n_Archive_log, rfl, ?_⟩
    walk_at "go"
    refine ⟨l0, n, rs, k, rfl, hl0, hany, k0, k1, fun H1 y s1 hy => ?_⟩
    walk_at "go"
    refine g_meth ?_
    walk_at "go"
    refine ⟨x, dx, _, rfl, s1 _ _ hx, rfl, ?_⟩
    walk_at "go"
    refine ⟨_, _, _, _, _, rfl, s1 _ _ hx, T.cl_Archive, T.n_Archive_finds, rfl, ?_⟩
    obtain ⟨fp, fxs, rfl, hfp, hfa⟩ := of_tup (Dp.same s1 _ _ hf0)
    have hfl := DpAll.len hfa
    rw [List.length_map] at hfl
    have ek : k = ((k.toNat : Nat) : Int) := by omega
    walk_at "go"
    refine ⟨fp, rfl, ⟨_, hfp⟩, fun D nD => ?_⟩
    refine lc_data (K := K) (walk_tup (K := K) (a := fp) (xs := fxs)) (fun i => ((fs.take i).map (downF k.toNat)).map findD) (by rw [List.take_zero]; rfl) (fun i hi => ?_) (fun i _ => imAll_map (fun _ => rfl) _) nD (fun H' s => (Tx.of s).seq hfp) (fun i x1 I1 I1' C Cn hi s hy hC hN => ?_) (fun H9 ps s9 hP9 hps => ?_)
    · rw [List.length_map, List.length_map, List.length_take]
      exact Nat.lt_of_le_of_lt (show _ ≤ 1000 by omega) (by decide)
    · obtain ⟨rfl, hz⟩ := hy
      obtain ⟨dd, gd, rd⟩ := DpAll.get (Dp.sameAll s _ _ hfa) hz
      obtain ⟨f, gf, rfl⟩ := map_at gd
      obtain ⟨tp, rfl, htp⟩ := of_find rd
      refine ⟨tp, _, rfl, htp, rfl, _, _, rfl, _, _, rfl, _, _, rfl, rfl, rfl, ?_⟩
      walk_at "go"
      refine g_ite (fun e0 => ?_) (fun e0 => ?_)
      · walk_at "go"
        refine ⟨by show 3 ≤ sizeLine; decide, fun tq ntq => ?_⟩
        refine hC _ (findD (downF k.toNat f)) _ (same_new ntq) ?_ ?_
        · rw [show downF k.toNat f = (f.1 - 1, f.2) from by unfold downF; rw [if_pos (by omega)]]
          refine dp_find (f := (f.1 - 1, f.2)) ?_
          rw [show (((f.1 - 1, f.2) : Fd).1 : Int) = (f.1 : Int) - 1 from by show ((f.1 - 1 : Nat) : Int) = _; omega]
          exact SqT.new
        · rw [take_snoc gf, List.map_append, List.map_append]
          rfl
      · walk_at "go"
        refine ⟨by show 3 ≤ sizeLine; decide, fun tq ntq => ?_⟩
        refine hC _ (findD (downF k.toNat f)) _ (same_new ntq) ?_ ?_
        · rw [show downF k.toNat f = f from by unfold downF; rw [if_neg (by omega)]]
          exact dp_find SqT.new
        · rw [take_snoc gf, List.map_append, List.map_append]
          rfl
    rw [hfl, List.take_length] at hps
    walk_at "go"
    refine ⟨D, ps, rfl, .inl ⟨SqL.at hP9, fun tq ntq => ?_⟩⟩
    have sq := same_new (o := .tup ps) ntq
    have s19 := s1.trans (s9.trans sq)
    walk_at "go"
    refine ⟨x, pa, n, past, (rs, fs), .ref y, .ref tq, _, fs.map (downF k.toNat), rfl, hA.same s19, hy.tx (Tx.of (s9.trans sq)), .tup SqT.new (Dp.sameAll sq _ _ hps), lp, fun H' kx hA' => ?_⟩
    walk_at "go"
    exact q _ ((Kx.of s19).trans kx) hA'
def sp_Archive_show (K : PySem.W.Frag) (C CA : Addr) : Sp := fun vs H Q _ => ∃ x pa n past rs fs v f, vs = [.ref x, v] ∧ ArcAt K C CA H x pa n past (rs, fs) ∧ rs.length ≤ 60 ∧ Dp K H v (findD f) ∧ f.1 ≤ rs.length ∧ (f.2.1 : Int) < n ∧ (f.2.2 : Int) < n ∧ fs.length < 40 ∧ past.length ≤ 1000 ∧
  ∀ H', Kx x pa H H' → ArcAt K C CA H' x pa n (past ++ [(rs, fs)]) (rs, fs ++ [f]) → Q .non H'
theorem ok_Archive_show (T : Txt K mg a) : FnOk P w K mg base CX0 8 a.f_Archive_show a.d_Archive_show ["self", "find"] (sp_Archive_show K a.c_Log a.c_Archive) := by
  refine T.F_Archive_show.ok sc_Archive_show (fun vs H Q E h => ?_) (fun cdv A outer s H vs Q E hr h => ?_)
  · obtain ⟨x, pa, n, past, rs, fs, v, f, rfl, _⟩ := h
    rfl
  · obtain ⟨x, pa, n, past, rs, fs, v, f, rfl, hA, l60, hv, f1, f2, f3, l40, lp, q⟩ := h
    obtain ⟨dx, l0, f0, xs, hx, hl0, hf0, hpa, hP⟩ := id hA
    refine ⟨_, (pss_cons (ps_expr (pe_call (ok_check_find T) (hr.mono (by first | decide | omega)) (by rfl) T.g_check_find T.F_check_find.kp (T.b_check_find) .nil pass0 (pa_cons (kpFld K rfl (pv 0) rfl) (pa_cons (pv 1) pa_nil))))
  (pss_cons (ps_if (pt_cmpR op_ge (pe_callB (kLen K rfl) (by rfl) T.z_len (by decide +kernel) (pa_cons (kpFld K rfl (pv 0) rfl) pa_nil)) (pe_glob (v := .int 40) rfl T.g_MOST_FINDS.choose_spec ⟨_, rfl⟩) (nomark _))
  (pss_one ps_never)
  pss_nil)
  (pss_one (ps_expr (pe_meth (pv 0) T.cl_Archive T.m_Archive_change (ok_Archive_change T) (hr.mono (by first | decide | omega)) T.b_Archive_change .nil pass0 (pa_cons (kpFld K rfl (pv 0) rfl) (pa_cons (pe_op (kCatA K rfl) (kpFld K rfl (pv 0) rfl) (pe_tup (pa_cons (pv 1) pa_nil))) pa_nil))))))), ?_⟩
    walk_at "go"
    refine ⟨_, _, _, _, _, rfl, hx, T.cl_Archive, T.n_Archive_log, rfl, ?_⟩
    walk_at "go"
    refine ⟨l0, v, n, rs, f, rfl, hl0, hv, f1, f2, f3, fun H1 s1 => ?_⟩
    obtain ⟨fp, fxs, rfl, hfp, hfa⟩ := of_tup (Dp.same s1 _ _ hf0)
    have hfl := DpAll.len hfa
    rw [List.length_map] at hfl
    simp only at hfl
    walk_at "go"
    refine ⟨_, _, _, _, _, rfl, s1 _ _ hx, T.cl_Archive, T.n_Archive_finds, rfl, ?_⟩
    walk_at "go"
    refine ⟨_, _, rfl, .inr hfp, ?_⟩
    walk_at "go"
    rw [decide_eq_false (show ¬ (40 : Int) ≤ ((fxs.length : Nat) : Int) by omega)]
    walk_at "go"
    refine g_meth ?_
    walk_at "go"
    refine ⟨x, dx, _, rfl, s1 _ _ hx, rfl, ?_⟩
    walk_at "go"
    refine ⟨_, _, _, _, _, rfl, s1 _ _ hx, T.cl_Archive, T.n_Archive_log, rfl, ?_⟩
    walk_at "go"
    refine ⟨_, _, _, _, _, rfl, s1 _ _ hx, T.cl_Archive, T.n_Archive_finds, rfl, ?_⟩
    walk_at "go"
    refine ⟨by show 1 ≤ sizeLine; decide, fun t nt => ?_⟩
    have s2 := same_new (o := .tup [v]) nt
    refine g_catA ((Tx.of s2).seq hfp) SqT.new (Nat.le_trans (show _ ≤ 1000 by simp only [List.length_cons, List.length_nil]; omega) (by decide)) (fun p3 H3 s3 h3 => ?_)
    have s13 := s1.trans (s2.trans s3)
    walk_at "go"
    refine ⟨x, pa, n, past, (rs, fs), l0, .ref p3, rs, fs ++ [f], rfl, hA.same s13, hl0.tx (Tx.of s13), .tup h3 ?_, lp, fun H' kx hA' => ?_⟩
    · rw [List.map_append]
      exact DpAll.app (Dp.sameAll (s2.trans s3) _ _ hfa) (.cons (Dp.same s13 _ _ hv) .nil)
    walk_at "go"
    exact q _ ((Kx.of s13).trans kx) hA'
def sp_Archive_doubt (K : PySem.W.Frag) (C CA : Addr) : Sp := fun vs H Q _ => ∃ x pa n past rs fs k, vs = [.ref x, .int k] ∧ ArcAt K C CA H x pa n past (rs, fs) ∧ 0 ≤ k ∧ k < fs.length ∧ fs.length ≤ 1000 ∧ past.length ≤ 1000 ∧
  ∀ H', Kx x pa H H' → ArcAt K C CA H' x pa n (past ++ [(rs, fs)]) (rs, fs.take k.toNat ++ fs.drop (k.toNat + 1)) → Q .non H'
def sp_Archive_now (K : PySem.W.Frag) (C CA : Addr) : Sp := fun vs H Q _ => ∃ x pa n past cur, vs = [.ref x] ∧ ArcAt K C CA H x pa n past cur ∧ ∀ H' t l f, Same H H' → SqT K H' t [l, f] → LogAt K C H' l n cur.1 → Dp K H' f (finD cur.2) → Q (.ref t) H'
theorem ok_Archive_now (T : Txt K mg a) : FnOk P w K mg base CX0 1 a.f_Archive_now a.d_Archive_now ["self"] (sp_Archive_now K a.c_Log a.c_Archive) := by
  refine T.F_Archive_now.ok sc_Archive_now (fun vs H Q E h => ?_) (fun cdv A outer s H vs Q E hr h => ?_)
  · obtain ⟨x, pa, n, past, cur, rfl, _⟩ := h
    rfl
  · obtain ⟨x, pa, n, past, cur, rfl, ⟨dx, l0, f0, xs, hx, hl0, hf0, hpa, hP⟩, q⟩ := h
    refine ⟨_, (pss_one (ps_ret (pe_tup (pa_cons (kpFld K rfl (pv 0) rfl) (pa_cons (kpFld K rfl (pv 0) rfl) pa_nil))))), ?_⟩
    walk_at "go"
    refine ⟨_, _, _, _, _, rfl, hx, T.cl_Archive, T.n_Archive_log, rfl, ?_⟩
    walk_at "go"
    refine ⟨_, _, _, _, _, rfl, hx, T.cl_Archive, T.n_Archive_finds, rfl, ?_⟩
    walk_at "go"
    refine ⟨by show 2 ≤ sizeLine; decide, fun t nt => ?_⟩
    have s1 := same_new (o := .tup [l0, f0]) nt
    exact q _ t l0 f0 s1 SqT.new (hl0.tx (Tx.of s1)) (Dp.same s1 _ _ hf0)
def sp_Archive_steps (K : PySem.W.Frag) (C CA : Addr) : Sp := fun vs H Q _ => ∃ x pa n past cur, vs = [.ref x] ∧ ArcAt K C CA H x pa n past cur ∧ Q (.int (past.length : Nat)) H
theorem ok_Archive_steps (T : Txt K mg a) : FnOk P w K mg base CX0 1 a.f_Archive_steps a.d_Archive_steps ["self"] (sp_Archive_steps K a.c_Log a.c_Archive) := by
  refine T.F_Archive_steps.ok sc_Archive_steps (fun vs H Q E h => ?_) (fun cdv A outer s H vs Q E hr h => ?_)
  · obtain ⟨x, pa, n, past, cur, rfl, _⟩ := h
    rfl
  · obtain ⟨x, pa, n, past, cur, rfl, ⟨dx, l0, f0, xs, hx, hl0, hf0, hpa, hP⟩, q⟩ := h
    refine ⟨_, (pss_one (ps_ret (pe_callB (kLen K rfl) (by rfl) T.z_len (by decide +kernel) (pa_cons (kpFld K rfl (pv 0) rfl) pa_nil)))), ?_⟩
    walk_at "go"
    refine ⟨_, _, _, _, _, rfl, hx, T.cl_Archive, T.n_Archive_past, rfl, ?_⟩
    walk_at "go"
    refine ⟨_, _, rfl, .inl (SqL.at hpa), ?_⟩
    walk_at "go"
    rw [hP.1]
    exact q
theorem g_bmA {T : String} {r : V → List V → Hp → VK → Prop} {to : TE} {σ : L2.St} {H : Hp} {Q : VK} (q : to σ H fun x H1 => tyV K T x H1 ∧ r x [] H1 Q) : tBM0 K T r to σ H Q := q
def sp_Archive_back (K : PySem.W.Frag) (C CA : Addr) : Sp := fun vs H Q _ => ∃ x pa n past st cur, vs = [.ref x] ∧ ArcAt K C CA H x pa n (past ++ [st]) cur ∧ ∀ H', Kx x pa H H' → ArcAt K C CA H' x pa n past st → Q .non H'
theorem ok_Archive_back (T : Txt K mg a) : FnOk P w K mg base CX0 1 a.f_Archive_back a.d_Archive_back ["self"] (sp_Archive_back K a.c_Log a.c_Archive) := by
  refine T.F_Archive_back.ok sc_Archive_back (fun vs H Q E h => ?_) (fun cdv A outer s H vs Q E hr h => ?_)
  · obtain ⟨x, pa, n, past, st, cur, rfl, _⟩ := h
    rfl
  · obtain ⟨x, pa, n, past, st, cur, rfl, ⟨dx, l0, f0, xs, hx, hl0, hf0, hpa, hP⟩, q⟩ := h
    have nxp := xpa hx hpa
    refine ⟨_, (pss_cons (ps_if (pt_not (kTruth K rfl (kpFld K rfl (pv 0) rfl) (fun _ => rfl)))
  (pss_one ps_never)
  pss_nil)
  (pss_one (ps_asg (pe_bm0 PySem.F.plainAttrs_list PySem.F.slot_list_pop PySem.F.type_list_pop mt_pop (kpFld K rfl (pv 0) rfl)) (kgTup K rfl rfl (pgs_cons (kgFld K rfl (pv 0)) (pgs_cons (kgFld K rfl (pv 0)) pgs_nil)))))), ?_⟩
    walk_at "go"
    refine g_truth ?_
    walk_at "go"
    refine ⟨_, _, _, _, _, rfl, hx, T.cl_Archive, T.n_Archive_past, rfl, ?_⟩
    have hxl : xs.length = past.length + 1 := by rw [hP.1, List.length_append]; rfl
    obtain ⟨ys, y, rfl⟩ : ∃ ys y, xs = ys ++ [y] := ⟨xs.dropLast, xs.getLast (fun e => by rw [e] at hxl; cases hxl), (List.dropLast_concat_getLast _).symm⟩
    obtain ⟨hP', t, l, f, rfl, ht, hl, hf⟩ := hP.pop
    refine ⟨true, .inl ⟨_, SqL.at hpa, by cases ys <;> rfl⟩, ?_⟩
    walk_at "go"
    refine g_bmA ?_
    walk_at "go"
    refine ⟨_, _, _, _, _, rfl, hx, T.cl_Archive, T.n_Archive_past, rfl, .inl ⟨rfl, _, SqL.at hpa⟩, ?_⟩
    have hpop : (ys ++ [V.ref t])[(ys ++ [V.ref t]).length - 1]? = some (.ref t) := by
      rw [List.length_append, List.getElem?_append_right (by simp)]
      simp
    refine ⟨pa, _, .ref t, rfl, rfl, hpa, hpop, ?_⟩
    rw [List.dropLast_concat]
    have k1 : Kx x pa H (upd H pa (.lst ys)) := .past
    have t1 := k1.ta hx hpa
    have hx1 : (upd H pa (.lst ys)) x = some (.ins a.c_Archive dx [("log", l0), ("finds", f0), ("past", .ref pa)]) := by rw [upd_ne nxp]; exact hx
    have hpa1 := @upd_same H pa (.lst ys)
    have ht1 := t1.seq ht
    have hl1 := hl.ta T.nq t1
    have hf1 := Dp.ta t1 _ _ (im_finD _) hf
    have hP1 := hP'.ta T.nq t1
    generalize upd H pa (.lst ys) = H1 at k1 hx1 hpa1 ht1 hl1 hf1 hP1 ⊢
    refine ⟨t, _, rfl, ht1, rfl, _, _, rfl, ?_⟩
    refine g_gfld ?_
    walk_at "go"
    refine ⟨x, _, dx, _, rfl, hx1, T.cl_Archive, T.n_Archive_log, by show (3 : Nat) < 1000; decide, ?_⟩
    refine ⟨_, _, rfl, ?_⟩
    refine g_gfld ?_
    walk_at "go"
    refine ⟨x, _, dx, _, rfl, upd_same, T.cl_Archive, T.n_Archive_finds, by show (3 : Nat) < 1000; decide, rfl, ?_⟩
    have k2 : Kx x pa H1 (upd (upd H1 x (.ins a.c_Archive dx (putF "log" l [("log", l0), ("finds", f0), ("past", .ref pa)]))) x (.ins a.c_Archive dx (putF "finds" f (putF "log" l [("log", l0), ("finds", f0), ("past", .ref pa)])))) := Kx.at.trans .at
    have t3 := k2.ta hx1 hpa1
    exact q _ (k1.trans k2) ⟨dx, l, f, _, upd_same, hl1.ta T.nq t3, Dp.ta t3 _ _ (im_finD _) hf1, by rw [upd_ne nxp.symm, upd_ne nxp.symm]; exact hpa1, hP1.ta T.nq t3⟩

end

section
variable {P : Program} {w : World} {K : PySem.W.Frag} {mg : Str → Option Value} {base : Heap} {a : Ad}
/-! ### the law's own lists -/
theorem dep_fnds : ∀ fs : List Fd, depAll (fs.map findD) ≤ 1
  | [] => Nat.zero_le _
  | f :: fs => by
    have := dep_fnds fs
    show max (dep (findD f)) (depAll (fs.map findD)) ≤ 1
    have e : dep (findD f) = 1 := rfl
    omega
theorem sm_fnds : ∀ fs : List Fd, smAll (fs.map findD) = true
  | [] => rfl
  | f :: fs => by
    show (sm (findD f) && smAll (fs.map findD)) = true
    rw [sm_fnds fs]
    rfl
theorem dep_finD (fs : List Fd) : dep (finD fs) ≤ 2 := by
  have := dep_fnds fs
  show depAll (fs.map findD) + 1 ≤ 2
  omega
theorem sm_finD {fs : List Fd} (h : fs.length ≤ 1000000) : sm (finD fs) = true := by
  show (decide ((fs.map findD).length ≤ 1000000) && smAll (fs.map findD)) = true
  rw [sm_fnds, List.length_map, decide_eq_true h]
  rfl
def stD (st : St2) : PyData := .tuple [rowsD st.1, finD st.2]
theorem im_stD (st : St2) : im (stD st) = true := by
  show imAll [rowsD st.1, finD st.2] = true
  show (im (rowsD st.1) && (im (finD st.2) && true)) = true
  rw [im_rowsD, im_finD]
  rfl
theorem of_stD {st : St2} {H : Hp} {v : V} (h : Dp K H v (stD st)) : ∃ t r f, v = .ref t ∧ SqT K H t [.ref r, .ref f] ∧ Dp K H (.ref r) (rowsD st.1) ∧ Dp K H (.ref f) (finD st.2) := by
  unfold stD at h
  cases h with
  | tup q a =>
    cases a with
    | cons a1 a =>
      cases a with
      | cons a2 a =>
        cases a
        obtain ⟨r, _, rfl, _⟩ := of_tup a1
        obtain ⟨f, _, rfl, _⟩ := of_tup a2
        exact ⟨_, r, f, rfl, q, a1, a2⟩
def GoodF2 (n : Int) (m : Nat) (f : Fd) : Prop := f.1 ≤ m ∧ (f.2.1 : Int) < n ∧ (f.2.2 : Int) < n
def GoodS (n : Int) (st : St2) : Prop := (∀ r ∈ st.1, GoodRow n r) ∧ st.1.length ≤ 60 ∧ (∀ f ∈ st.2, GoodF2 n st.1.length f) ∧ st.2.length ≤ 40
def sp_law_moved (K : PySem.W.Frag) : Sp := fun vs H Q _ => ∃ v L b f g, vs = [v, .int L, .int b] ∧ Dp K H v (findD f) ∧ -1 ≤ b ∧ b ≤ 1 ∧ ((g : Fd).1 : Int) = (f.1 : Int) + b * (if L ≤ (f.1 : Int) then 1 else 0) ∧ g.2 = f.2 ∧ ∀ H' t, Same H H' → Dp K H' t (findD g) → Q t H'
theorem ok_law_moved (T : Txt K mg a) : FnOk P w K mg base CX0 1 a.f_law_moved a.d_law_moved ["_law_find_here", "_law_least", "_law_by"] (sp_law_moved K) := by
  refine T.F_law_moved.ok sc_law_moved (fun vs H Q E h => ?_) (fun cdv A outer s H vs Q E hr h => ?_)
  · obtain ⟨v, L, b, f, g, rfl, _⟩ := h
    rfl
  · obtain ⟨v, L, b, f, g, rfl, hv, b0, b1, eg, eg2, q⟩ := h
    obtain ⟨p, rfl, hp⟩ := of_find hv
    refine ⟨_, (pss_one (ps_ret (pe_tup (pa_cons (pe_op op_add (pe_ix (kIxT K rfl) (pv 0) pe_int (fun _ _ => rfl)) (pe_op op_mul (pv 2) (pe_callTy call_int1 (by rfl) T.z_int (by decide +kernel) (pa_cons (pe_cmpR op_ge (pe_ix (kIxT K rfl) (pv 0) pe_int (fun _ _ => rfl)) (pv 1) (nomark _)) pa_nil)))) (pa_cons (pe_ix (kIxT K rfl) (pv 0) pe_int (fun _ _ => rfl)) (pa_cons (pe_ix (kIxT K rfl) (pv 0) pe_int (fun _ _ => rfl)) pa_nil)))))), ?_⟩
    walk_at "go"
    refine g_ixT hp (v := .int f.1) rfl ?_
    walk_at "go"
    refine g_ixT hp (v := .int f.1) rfl ?_
    walk_at "go"
    refine .inr ⟨_, rfl, ?_⟩
    rw [show ∀ (pp : Prop) [Decidable pp], (if decide pp = true then (1 : Int) else 0) = if pp then 1 else 0 from fun pp _ => by by_cases h : pp <;> simp [h]]
    generalize hz : (if L ≤ (f.1 : Int) then (1 : Int) else 0) = z at eg ⊢
    have z0 : 0 ≤ z ∧ z ≤ 1 := by rw [← hz]; split <;> omega
    refine g_rI (.inl ⟨by omega, by omega⟩) ?_
    walk_at "go"
    rw [← eg]
    refine g_ixT hp (v := .int f.2.1) rfl ?_
    walk_at "go"
    refine g_ixT hp (v := .int f.2.2) rfl ?_
    walk_at "go"
    refine ⟨by show 3 ≤ sizeLine; decide, fun t nt => ?_⟩
    refine q _ _ (same_new nt) ?_
    rw [show g = (g.1, f.2) from by rw [← eg2]]
    exact dp_find SqT.new
theorem up_eq (k : Nat) (f : Fd) : ((upF k f).1 : Int) = (f.1 : Int) + 1 * (if (k : Int) + 1 ≤ (f.1 : Int) then 1 else 0) ∧ (upF k f).2 = f.2 := by
  refine ⟨?_, rfl⟩
  show ((if k < f.1 then f.1 + 1 else f.1 : Nat) : Int) = _
  by_cases h : k < f.1
  · rw [if_pos h, if_pos (by omega)]
    omega
  · rw [if_neg h, if_neg (by omega)]
    omega
theorem down_eq (k : Nat) (f : Fd) : ((downF k f).1 : Int) = (f.1 : Int) + (-1) * (if (k : Int) + 1 ≤ (f.1 : Int) then 1 else 0) ∧ (downF k f).2 = f.2 := by
  refine ⟨?_, rfl⟩
  show ((if k < f.1 then f.1 - 1 else f.1 : Nat) : Int) = _
  by_cases h : k < f.1
  · rw [if_pos h, if_pos (by omega)]
    omega
  · rw [if_neg h, if_neg (by omega)]
    omega

end

section
variable {P : Program} {w : World} {K : PySem.W.Frag} {mg : Str → Option Value} {base : Heap} {a : Ad}
/-! ### drawn finds -/
def sp_law_find (K : PySem.W.Frag) : Sp := fun vs H Q _ => ∃ (d c L : Addr) (n : Int) (xs : List V) (sts : List (List Int)), vs = [.ref d, .int n, .ref L] ∧ Dice d c H ∧ 1 ≤ n ∧ n ≤ 12 ∧ H L = some (.lst xs) ∧ L ≠ d ∧ DpAll K H xs (sts.map tupI) ∧ (∀ st ∈ sts, GoodSt n st) ∧ 1 ≤ sts.length ∧ sts.length ≤ 100000 ∧ ∀ H' v f, Fr d H H' → Dice d c H' → Dp K H' v (findD f) → f.1 < sts.length → (f.2.1 : Int) < n → (f.2.2 : Int) < n → Q v H'
theorem ok_law_find (T : Txt K mg a) : FnOk P w K mg base CX0 2 a.f_law_find a.d_law_find ["_law_dice_here", "_law_offices_here", "_law_led_here"] (sp_law_find K) := by
  refine T.F_law_find.ok sc_law_find (fun vs H Q E h => ?_) (fun cdv A outer s H vs Q E hr h => ?_)
  · obtain ⟨d, c, L, n, xs, sts, rfl, _⟩ := h
    rfl
  · obtain ⟨d, c, L, n, xs, sts, rfl, hD, n1, n12, hL, nLd, hxs, hgs, l1, l2, q⟩ := h
    have hl := DpAll.len hxs
    rw [List.length_map] at hl
    refine ⟨_, (pss_cons (ps_set (i := 3) sc_law_find.nd rfl (.inl rfl) (pe_call (ok_law_draw T) (hr.mono (by first | decide | omega)) (by rfl) T.g_law_draw T.F_law_draw.kp (T.b_law_draw) .nil pass0 (pa_cons (pv 0) (pa_cons (pe_callB (kLen K rfl) (by rfl) T.z_len (by decide +kernel) (pa_cons (pv 2) pa_nil)) pa_nil))))
  (pss_cons (ps_set (i := 4) sc_law_find.nd rfl (.inl rfl) (pe_call (ok_law_draw T) (hr.mono (by first | decide | omega)) (by rfl) T.g_law_draw T.F_law_draw.kp (T.b_law_draw) .nil pass0 (pa_cons (pv 0) (pa_cons (pv 1) pa_nil))))
  (pss_cons (ps_if (pt_cmpR op_eq (pe_call (ok_law_draw T) (hr.mono (by first | decide | omega)) (by rfl) T.g_law_draw T.F_law_draw.kp (T.b_law_draw) .nil pass0 (pa_cons (pv 0) (pa_cons pe_int pa_nil))) pe_int (nomark _))
  (pss_one (ps_ret (pe_tup (pa_cons (pv 3) (pa_cons (pv 4) (pa_cons (pe_call (ok_law_draw T) (hr.mono (by first | decide | omega)) (by rfl) T.g_law_draw T.F_law_draw.kp (T.b_law_draw) .nil pass0 (pa_cons (pv 0) (pa_cons (pv 1) pa_nil))) pa_nil))))))
  pss_nil)
  (pss_one (ps_ret (pe_tup (pa_cons (pv 3) (pa_cons (pv 4) (pa_cons (pe_ix (kIxT K rfl) (pe_ix (kIxL K rfl) (pv 2) (pv 3) (fun _ _ => rfl)) (pv 4) (fun _ _ => rfl)) pa_nil))))))))), ?_⟩
    walk_at "go"
    refine ⟨_, _, rfl, .inl (SqL.at hL), ?_⟩
    walk_at "go"
    refine ⟨d, c, ((xs.length : Nat) : Int), rfl, hD, by omega, by omega, fun H1 m f1 hD1 m0 m1 => ?_⟩
    walk_at "go"
    refine ⟨d, c, n, rfl, hD1, by omega, by omega, fun H2 o f2 hD2 o0 o1 => ?_⟩
    walk_at "go"
    refine ⟨d, c, 4, rfl, hD2, by decide, by decide, fun H3 z f3 hD3 z0 z1 => ?_⟩
    have f13 := (f1.trans f2).trans f3
    obtain ⟨m', rfl⟩ : ∃ k : Nat, m = (k : Int) := ⟨m.toNat, by omega⟩
    obtain ⟨o', rfl⟩ : ∃ k : Nat, o = (k : Int) := ⟨o.toNat, by omega⟩
    walk_at "go"
    refine g_ite (fun e0 => ?_) (fun e0 => ?_)
    · walk_at "go"
      refine ⟨d, c, n, rfl, hD3, by omega, by omega, fun H4 e f4 hD4 e0 e1 => ?_⟩
      obtain ⟨e', rfl⟩ : ∃ k : Nat, e = (k : Int) := ⟨e.toNat, by omega⟩
      walk_at "go"
      refine ⟨by show 3 ≤ sizeLine; decide, fun t nt => ?_⟩
      exact q _ _ (m', o', e') ((f13.trans f4).trans (Fr.new nt)) (hD4.new nt) (dp_find SqT.new) (by show m' < _; omega) o1 e1
    · walk_at "go"
      obtain ⟨y, gy⟩ : ∃ y, xs[m']? = some y := ⟨_, List.getElem?_eq_getElem (by omega)⟩
      obtain ⟨dd, gd, rd⟩ := DpAll.get (Dp.txAll (hD.tx f13) _ _ (imAll_map (fun ns => im_ints ns) _) hxs) gy
      obtain ⟨st, gst, rfl⟩ := map_at gd
      obtain ⟨tp, rfl, htp⟩ := of_ints rd
      obtain ⟨gs1, gs2, _⟩ := hgs st (List.mem_of_getElem? gst)
      refine g_ixL (SqL.at (f13 _ _ nLd hL)) (atI_at (by omega) (show xs[((m' : Nat) : Int).toNat]? = some (.ref tp) from gy)) ?_
      walk_at "go"
      obtain ⟨e, ge⟩ : ∃ e, st[o']? = some e := ⟨_, List.getElem?_eq_getElem (by omega)⟩
      refine g_ixT htp (atI_at (by omega) (show (st.map V.int)[((o' : Nat) : Int).toNat]? = some (.int e) from map_get ge)) ?_
      walk_at "go"
      refine ⟨by show 3 ≤ sizeLine; decide, fun t nt => ?_⟩
      obtain ⟨e0', e1'⟩ := gs2 e (List.mem_of_getElem? ge)
      obtain ⟨e', rfl⟩ : ∃ k : Nat, e = (k : Int) := ⟨e.toNat, by omega⟩
      exact q _ _ (m', o', e') (f13.trans (Fr.new nt)) (hD3.new nt) (dp_find SqT.new) (by show m' < _; omega) o1 e1'

end

section
variable {P : Program} {w : World} {K : PySem.W.Frag} {mg : Str → Option Value} {base : Heap} {a : Ad}
/-! ### pairs of a log and finds compared -/
def PairE (K : PySem.W.Frag) (C : Addr) : Eqv := fun x y H => DIns C (LogEq K C) x y H ∨ DTup K (DTup K DFlat) x y H
theorem mon_pairE {C : Addr} : Mon (PairE K C) := Mon.or (mon_ins fun a b H H' e ⟨n, rs, h1, h2⟩ => ⟨n, rs, h1.tx (Tx.of e), h2.tx (Tx.of e)⟩) (mon_tup (mon_tup mon_flat))
theorem eqG_pairE {X : Cx} (hX : X.prog = P ∧ X.w = w ∧ X.K = K ∧ X.mg = mg ∧ X.base = base) (T : Txt K mg a) : EqG X 2 (PairE K a.c_Log) := by
  obtain ⟨rfl, rfl, rfl, rfl, rfl⟩ := hX
  exact EqG.or ((eqG_ins (ok_Log___eq T) T.m_Log___eq.at_ T.m_Log___eq.fn T.b_Log___eq pass0).mono (by decide)) (eqG_tup (mon_tup mon_flat) (eqG_tup mon_flat eqG_flat))
theorem kPairNe {X : Cx} (hX : X.prog = P ∧ X.w = w ∧ X.K = K ∧ X.mg = mg ∧ X.base = base) (T : Txt K mg a) (hr : Room 3 X.A) : OpR X (compareOp .NotEq) (rNeG K (PairE K a.c_Log)) := by
  have h := eqG_pairE hX T
  obtain ⟨rfl, rfl, rfl, rfl, rfl⟩ := hX
  exact op_neG mon_pairE h hr
theorem kPairEq {X : Cx} (hX : X.prog = P ∧ X.w = w ∧ X.K = K ∧ X.mg = mg ∧ X.base = base) (T : Txt K mg a) (hr : Room 3 X.A) : OpR X (compareOp .Eq) (rEqG (DTup K (PairE K a.c_Log))) := by
  have h := eqG_pairE hX T
  obtain ⟨rfl, rfl, rfl, rfl, rfl⟩ := hX
  exact op_eqG (rcG_tup mon_pairE h) hr
theorem prs_flat {H : Hp} : ∀ ns : List Int, Prs DFlat (ns.map V.int) (ns.map V.int) H
  | [] => Prs.nil
  | n :: r => Prs.cons ⟨rfl, rfl, by simp [eqV]⟩ (prs_flat r)
theorem prs_fins {H : Hp} : ∀ {xs ys : List V} {fs : List Fd}, DpAll K H xs (fs.map findD) → DpAll K H ys (fs.map findD) → Prs (DTup K DFlat) xs ys H
  | _, _, [], h1, h2 => by cases h1; cases h2; exact Prs.nil
  | _, _, f :: fs, h1, h2 => by
    cases h1 with
    | cons p1 q1 =>
      cases h2 with
      | cons p2 q2 =>
        obtain ⟨a1, rfl, h1⟩ := of_find p1
        obtain ⟨a2, rfl, h2⟩ := of_find p2
        exact Prs.cons ⟨a1, a2, _, _, rfl, rfl, h1, h2, prs_flat [(f.1 : Int), (f.2.1 : Int), (f.2.2 : Int)]⟩ (prs_fins q1 q2)
theorem pair_eq {C : Addr} {H : Hp} {t t2 : Addr} {l l2 f f2 : V} {n : Int} {rs : List Row} {fs : List Fd} (h1 : SqT K H t [l, f]) (h2 : LogAt K C H l n rs) (h3 : Dp K H f (finD fs)) (k1 : SqT K H t2 [l2, f2]) (k2 : LogAt K C H l2 n rs) (k3 : Dp K H f2 (finD fs)) : DTup K (PairE K C) (.ref t) (.ref t2) H := by
  obtain ⟨a1, x1, p1, rfl, e1, _⟩ := id h2
  obtain ⟨a2, x2, p2, rfl, e2, _⟩ := id k2
  obtain ⟨b1, us, rfl, hu, hb⟩ := of_tup h3
  obtain ⟨b2, vs, rfl, hv, hc⟩ := of_tup k3
  exact ⟨t, t2, _, _, rfl, rfl, h1, k1, Prs.cons (.inl ⟨a1, a2, x1, x2, _, _, rfl, rfl, e1, e2, n, rs, h2, k2⟩) (Prs.cons (.inr ⟨b1, b2, us, vs, rfl, rfl, hu, hv, prs_fins hb hc⟩) Prs.nil)⟩

end

section
variable {P : Program} {w : World} {K : PySem.W.Frag} {mg : Str → Option Value} {base : Heap} {a : Ad}
/-! ### a row put in and struck; the law -/
def lawLevel : Nat := 15
theorem zip_ins {α β : Type} (rs : List α) (fs : List β) (r : α) (f : β) (k : Nat) (h : fs.length = rs.length) : (rs.take k ++ r :: rs.drop k).zip (fs.take k ++ f :: fs.drop k) = (rs.zip fs).take k ++ (r, f) :: (rs.zip fs).drop k := by
  rw [List.zip_append (by rw [List.length_take, List.length_take, h]), List.zip_cons_cons]
  simp only [List.zip, List.take_zipWith, List.drop_zipWith]
theorem st_ins {n : Int} {rs : List Row} {fs : List Bool} {r : Row} {k m : Nat} (hk : k ≤ rs.length) (h : fs.length = rs.length) :
    (m ≤ k → stAt n (rs.take k ++ r :: rs.drop k) (fs.take k ++ false :: fs.drop k) m = stAt n rs fs m) ∧ (k ≤ m → m ≤ rs.length → stAt n (rs.take k ++ r :: rs.drop k) (fs.take k ++ false :: fs.drop k) (m + 1) = stAt n rs fs m) := by
  have hz := zip_ins rs fs r false k h
  have hl : ((rs.zip fs).take k).length = k := by rw [List.length_take, List.length_zip, h]; omega
  refine ⟨fun hm => ?_, fun hm hm2 => ?_⟩
  · unfold stAt
    rw [hz, List.take_append_of_le_length (by omega), List.take_take, Nat.min_eq_left hm]
  · unfold stAt
    rw [hz, List.take_append, hl, List.take_of_length_le (by omega), show m + 1 - k = (m - k) + 1 by omega, List.take_succ_cons, List.foldl_append, List.foldl_cons]
    have e : (rs.zip fs).take m = (rs.zip fs).take k ++ ((rs.zip fs).drop k).take (m - k) := by
      rw [← List.take_add]
      congr 1
      omega
    rw [e, List.foldl_append]
    rfl
theorem isDo_ins {rs : List Row} {fs : List Bool} {u v : Int} {k : Nat} (h : isDo rs fs = true) : isDo (rs.take k ++ (u, v, false) :: rs.drop k) (fs.take k ++ false :: fs.drop k) = true := by
  have hl := isDo_len h
  unfold isDo at h ⊢
  rw [Bool.and_eq_true] at h ⊢
  refine ⟨decide_eq_true (by simp only [List.length_append, List.length_take, List.length_cons, List.length_drop, hl]), ?_⟩
  rw [okF_zip] at h ⊢
  unfold zipOk at h ⊢
  rw [zip_ins fs rs false (u, v, false) k hl.symm, List.all_eq_true]
  intro z hz
  obtain ⟨p, hp, rfl⟩ := List.mem_map.mp hz
  have hall := List.all_eq_true.mp h.2
  rcases List.mem_append.mp hp with hp | hp
  · exact hall _ (List.mem_map.mpr ⟨p, List.mem_of_mem_take hp, rfl⟩)
  · rcases List.mem_cons.mp hp with rfl | hp
    · rfl
    · exact hall _ (List.mem_map.mpr ⟨p, List.mem_of_mem_drop hp, rfl⟩)
theorem down_up (k : Nat) (f : Fd) : downF k (upF k f) = f := by
  obtain ⟨m, r⟩ := f
  unfold upF downF
  by_cases h : k < m
  · rw [if_pos h]
    show (if k < m + 1 then m + 1 - 1 else m + 1, r) = (m, r)
    rw [if_pos (by omega)]
    rfl
  · rw [if_neg h]
    show (if k < m then m - 1 else m, r) = (m, r)
    rw [if_neg h]
theorem rows_back (rs : List Row) (r : Row) {k : Nat} (hk : k ≤ rs.length) : (rs.take k ++ r :: rs.drop k).take k ++ (rs.take k ++ r :: rs.drop k).drop (k + 1) = rs := by
  have hl : (rs.take k).length = k := by rw [List.length_take]; omega
  rw [List.take_left' hl, List.drop_append, hl, List.drop_of_length_le (by omega), show k + 1 - k = 1 by omega]
  simp
structure W84 (K : PySem.W.Frag) (C CA d c x pa : Addr) (n : Int) (past : List St2) (cur : St2) (H : Hp) : Prop where
  dice : Dice d c H
  arc : ArcAt K C CA H x pa n past cur
  dp : d ≠ pa
  cp : c ≠ pa
section
variable {C CA d c x pa : Addr} {n : Int} {past past' : List St2} {cur cur' : St2} {H H' : Hp}
theorem W84.same (h : W84 K C CA d c x pa n past cur H) (s : Same H H') : W84 K C CA d c x pa n past cur H' := ⟨h.dice.fr s, h.arc.same s, h.dp, h.cp⟩
theorem W84.fr (h : W84 K C CA d c x pa n past cur H) (f : Fr d H H') (hD : Dice d c H') : W84 K C CA d c x pa n past cur H' := ⟨hD, h.arc.txp (h.dice.tx f) (fun xs e => f _ _ h.dp.symm e), h.dp, h.cp⟩
theorem W84.kx (h : W84 K C CA d c x pa n past cur H) (s : Kx x pa H H') (a : ArcAt K C CA H' x pa n past' cur') : W84 K C CA d c x pa n past' cur' H' ∧ Ta CA H H' := by
  obtain ⟨dx, l, f, xs, h1, _, _, h4, _⟩ := h.arc
  have nx : ∀ {b : Addr} {zs : List V}, H b = some (.lst zs) → b ≠ x := fun e z => by rw [z, h1] at e; cases e
  obtain ⟨cs, i, q, s', u, hd, hc, r⟩ := h.dice
  exact ⟨⟨⟨cs, i, q, s', u, s _ _ (nx hd) h.dp hd, s _ _ (nx hc) h.cp hc, r⟩, a, h.dp, h.cp⟩, s.ta h1 h4⟩
end
def sp_law_filled (K : PySem.W.Frag) (C CA : Addr) : Sp := fun vs H Q _ => ∃ n rv fv rs fs, vs = [.int n, rv, fv] ∧ Dp K H rv (rowsD rs) ∧ Dp K H fv (finD fs) ∧ 1 ≤ n ∧ n ≤ 12 ∧ GoodS n (rs, fs) ∧ ∀ H' x pa past, Same H H' → H pa = none → ArcAt K C CA H' x pa n past (rs, fs) → past.length = rs.length + fs.length → Q (.ref x) H'
set_option maxHeartbeats 4000000 in
theorem ok_law_filled (T : Txt K mg a) : FnOk P w K mg base CX0 13 a.f_law_filled a.d_law_filled ["_law_offices_here", "_law_rows_here", "_law_finds"] (sp_law_filled K a.c_Log a.c_Archive) := by
  refine T.F_law_filled.ok sc_law_filled (fun vs H Q E h => ?_) (fun cdv A outer s H vs Q E hr h => ?_)
  · obtain ⟨n, rv, fv, rs, fs, rfl, _⟩ := h
    rfl
  · obtain ⟨n, rv, fv, rs, fs, rfl, hrv, hfv, n1, n12, ⟨g1, g2, g3, g4⟩, q⟩ := h
    obtain ⟨rp, ys, rfl, hp, ha⟩ := of_tup hrv
    obtain ⟨fp, us, rfl, hu, hb⟩ := of_tup hfv
    have hl := DpAll.len ha
    have ul := DpAll.len hb
    rw [List.length_map] at hl ul
    simp only at g1 g2 g3 g4
    refine ⟨_, (pss_cons (ps_set (i := 3) sc_law_filled.nd rfl (.inl rfl) (pe_make T.mk_Archive (ok_Archive_init T) (hr.mono (by first | decide | omega)) (by rfl) T.gc_Archive T.b_Archive_init .nil pass0 (pa_cons (pv 0) pa_nil)))
  (pss_cons (ps_for PassesOwn.never rfl (kiTup K rfl (pv 1)) (pg_name (i := 4) sc_law_filled.nd rfl (.inl rfl))
  (pss_one (ps_expr (pe_meth (pv 3) T.cl_Archive T.m_Archive_put (ok_Archive_put T) (hr.mono (by first | decide | omega)) T.b_Archive_put .nil pass0 (pa_cons (pe_callB (kLen K rfl) (by rfl) T.z_len (by decide +kernel) (pa_cons (kpFld K rfl (pe_ix (kIxT K rfl) (pe_meth0 (pv 3) T.cl_Archive T.m_Archive_now (ok_Archive_now T) (hr.mono (by first | decide | omega)) T.b_Archive_now .nil pass0) pe_int (fun _ _ => rfl)) rfl) pa_nil)) (pa_cons (pv 4) pa_nil))))))
  (pss_cons (ps_for PassesOwn.never rfl (kiTup K rfl (pv 2)) (pg_name (i := 5) sc_law_filled.nd rfl (.inl rfl))
  (pss_one (ps_expr (pe_meth (pv 3) T.cl_Archive T.m_Archive_show (ok_Archive_show T) (hr.mono (by first | decide | omega)) T.b_Archive_show .nil pass0 (pa_cons (pv 5) pa_nil)))))
  (pss_one (ps_ret (pv 3)))))), ?_⟩
    walk_at "go"
    intro x dx nx ndx nxd
    have sx := (same_new (o := .own x) ndx).trans (same_new (o := .ins a.c_Archive dx []) (by rw [upd_ne nxd.symm]; exact nx))
    refine ⟨x, dx, n, rfl, upd_same, n1, n12, fun H3 pa f3 npa hA => ⟨rfl, ?_⟩⟩
    have s3 := log_made nx ndx f3
    have npa0 : H pa = none := sx.free npa
    have keep : ∀ {H1 H2 : Hp}, Same H H1 → Kx x pa H1 H2 → Same H H2 := fun s k b o e => k b o (fun z => by rw [z, nx] at e; cases e) (fun z => by rw [z, npa0] at e; cases e) (s b o e)
    walk_at "go"
    refine ⟨rp, rfl, ⟨_, (Tx.of s3).seq hp⟩, ?_⟩
    refine for_it (walk_tup (K := K) (a := rp) (xs := ys)) (fun i σ H' => ∃ (y4 y5 : Option V) (past : List St2), σ = [some (.int n), some (.ref rp), some (.ref fp), some (.ref x), y4, y5] ∧ Same H H' ∧ ArcAt K a.c_Log a.c_Archive H' x pa n past (rs.take i, []) ∧ past.length = i) ⟨_, _, [], rfl, s3, hA, rfl⟩ (fun i σ H' _ hP => ?_) (fun i z σ H4 H4' hi hP hy => ?_) (fun σ H4 hP => ?_)
    · obtain ⟨y4, y5, past, rfl, s4, _⟩ := hP
      exact (Tx.of s4).seq hp
    · obtain ⟨y4, y5, past, rfl, s4, hA4, lp⟩ := hP
      obtain ⟨rfl, hz⟩ := hy
      obtain ⟨dd, gd, rd⟩ := DpAll.get (Dp.sameAll s4 _ _ ha) hz
      obtain ⟨r, gr, rfl⟩ := map_at gd
      have hir : i < rs.length := (List.getElem?_eq_some_iff.mp gr).1
      obtain ⟨dx4, l0, f0, xs, hx, _⟩ := id hA4
      walk_at "go"
      refine g_meth ?_
      walk_at "go"
      refine ⟨x, dx4, _, rfl, hx, rfl, ?_⟩
      walk_at "go"
      refine g_meth ?_
      walk_at "go"
      refine ⟨x, dx4, _, rfl, hx, rfl, ?_⟩
      walk_at "go"
      refine ⟨x, pa, n, past, _, rfl, hA4, fun H5 t l f s5 ht hl5 hf5 => ?_⟩
      walk_at "go"
      refine g_ixT ht (v := l) rfl ?_
      obtain ⟨la, ldx, lp5, rfl, hla, hld⟩ := id hl5
      obtain ⟨_, zs, e, hlp, hlz⟩ := of_tup hld
      cases e
      have hzl := DpAll.len hlz
      rw [List.length_map] at hzl
      simp only [List.length_take] at hzl
      walk_at "go"
      refine ⟨_, _, _, _, _, rfl, hla, T.cl_Log, T.n_Log_rows, rfl, ?_⟩
      walk_at "go"
      refine ⟨_, _, rfl, .inr hlp, ?_⟩
      walk_at "go"
      refine ⟨x, pa, n, past, rs.take i, [], _, r, ((zs.length : Nat) : Int), rfl, hA4.same s5, ⟨n1, n12, by rw [List.length_take]; omega, fun z hz => g1 z (List.mem_of_mem_take hz)⟩, by rw [List.length_take]; omega, by omega, by rw [List.length_take]; omega, Dp.same s5 _ _ rd, g1 r (List.mem_of_getElem? gr), by decide, by omega, fun H6 kx hA6 => ?_⟩
      walk_at "go"
      refine ⟨_, _, past ++ [(rs.take i, [])], rfl, keep (s4.trans s5) kx, ?_, by rw [List.length_append, lp]; rfl⟩
      have ez : ((zs.length : Nat) : Int).toNat = (rs.take i).length := by rw [List.length_take]; omega
      rw [ez, List.take_length, List.drop_length, List.map_nil] at hA6
      rw [take_snoc gr]
      exact hA6
    · obtain ⟨y4, y5, past, rfl, s4, hA4, lp⟩ := hP
      rw [hl, List.take_length] at hA4
      walk_at "go"
      refine ⟨fp, rfl, ⟨_, (Tx.of s4).seq hu⟩, ?_⟩
      refine for_it (walk_tup (K := K) (a := fp) (xs := us)) (fun i σ H' => ∃ (y4 y5 : Option V) (past : List St2), σ = [some (.int n), some (.ref rp), some (.ref fp), some (.ref x), y4, y5] ∧ Same H H' ∧ ArcAt K a.c_Log a.c_Archive H' x pa n past (rs, fs.take i) ∧ past.length = rs.length + i) ⟨_, _, past, rfl, s4, hA4, by rw [lp, hl]; rfl⟩ (fun i σ H' _ hP => ?_) (fun i z σ H4 H4' hi hP hy => ?_) (fun σ H4 hP => ?_)
      · obtain ⟨y4, y5, past, rfl, s4, _⟩ := hP
        exact (Tx.of s4).seq hu
      · obtain ⟨y4, y5, past, rfl, s4, hA4, lp⟩ := hP
        obtain ⟨rfl, hz⟩ := hy
        obtain ⟨dd, gd, rd⟩ := DpAll.get (Dp.sameAll s4 _ _ hb) hz
        obtain ⟨f, gf, rfl⟩ := map_at gd
        have hif : i < fs.length := (List.getElem?_eq_some_iff.mp gf).1
        obtain ⟨b1, b2, b3⟩ := g3 f (List.mem_of_getElem? gf)
        obtain ⟨dx4, l0, f0, xs, hx, _⟩ := id hA4
        walk_at "go"
        refine g_meth ?_
        walk_at "go"
        refine ⟨x, dx4, _, rfl, hx, rfl, ?_⟩
        walk_at "go"
        refine ⟨x, pa, n, past, rs, fs.take i, _, f, rfl, hA4, by omega, rd, b1, b2, b3, by rw [List.length_take]; omega, by omega, fun H6 kx hA6 => ?_⟩
        walk_at "go"
        refine ⟨_, _, past ++ [(rs, fs.take i)], rfl, keep s4 kx, ?_, by rw [List.length_append, lp]; rfl⟩
        rw [take_snoc gf]
        exact hA6
      · obtain ⟨y4, y5, past, rfl, s4, hA4, lp⟩ := hP
        rw [ul, List.take_length] at hA4
        walk_at "go"
        exact q _ x pa past s4 npa0 hA4 (by rw [lp, ul])

end

section
variable {P : Program} {w : World} {K : PySem.W.Frag} {mg : Str → Option Value} {base : Heap} {a : Ad}
/-! ### a row put in, struck, taken back; the law -/
theorem shaped_fins (fs : List Fd) : SeqAt.shaped (finD fs) = true := by
  unfold SeqAt.shaped
  rw [Bool.and_eq_true]
  have c : ∀ fs : List Fd, PyData.canLayAll0 (fs.map findD) = true ∧ PyData.depthAll (fs.map findD) ≤ 1 := fun fs => by
    induction fs with
    | nil => exact ⟨rfl, by decide⟩
    | cons f r ih =>
      obtain ⟨h1, h2⟩ := ih
      refine ⟨?_, ?_⟩
      · show (PyData.canLay0 (findD f) && PyData.canLayAll0 (r.map findD)) = true
        rw [h1]
        rfl
      · show max (PyData.depth (findD f)) (PyData.depthAll (r.map findD)) ≤ 1
        have : PyData.depth (findD f) ≤ 1 := Nat.le_refl 1
        omega
  refine ⟨(c fs).1, decide_eq_true ?_⟩
  have := (c fs).2
  show PyData.depthAll (fs.map findD) + 1 ≤ 64
  omega
def sp_law_put_right (K : PySem.W.Frag) (C CA : Addr) : Sp := fun vs H Q _ => ∃ d c x pa n past rs fs rv fv v k u y dv ds, vs = [.ref x, .int n, rv, fv, .int k, v, dv] ∧ W84 K C CA d c x pa n past (rs, fs) H ∧ Dp K H rv (rowsD rs) ∧ Dp K H fv (finD fs) ∧ Dp K H v (rowD (u, y, false)) ∧ GoodRow n (u, y, false) ∧ Dp K H dv (flagsD ds) ∧ isDo rs ds = true ∧
  1 ≤ n ∧ n ≤ 12 ∧ GoodS n (rs, fs) ∧ rs.length < 50 ∧ 0 ≤ k ∧ k ≤ rs.length ∧ past.length ≤ 900 ∧ ∀ H', W84 K C CA d c x pa n past (rs, fs) H' → Ta CA H H' → Q (.bl true) H'
set_option maxHeartbeats 8000000 in
theorem ok_law_put_right (T : Txt K mg a) : FnOk P w K mg base CX0 13 a.f_law_put_right a.d_law_put_right ["_law_archive", "_law_offices_here", "_law_rows_here", "_law_finds", "_law_at", "_law_row_here", "_law_doing_here"] (sp_law_put_right K a.c_Log a.c_Archive) := by
  refine T.F_law_put_right.ok sc_law_put_right (fun vs H Q E h => ?_) (fun cdv A outer s H vs Q E hr h => ?_)
  · obtain ⟨d, c, x, pa, n, past, rs, fs, rv, fv, v, k, u, y, dv, ds, rfl, _⟩ := h
    rfl
  · obtain ⟨d, c, x, pa, n, past, rs, fs, rv, fv, v, k, u, y, dv, ds, rfl, hW, hrv, hfv, hv, hgr, hdv, hdo, n1, n12, ⟨g1, g2, g3, g4⟩, l50, k0, k1, lp, q⟩ := h
    obtain ⟨k', rfl⟩ : ∃ i : Nat, k = (i : Int) := ⟨k.toNat, by omega⟩
    simp only at g1 g2 g3 g4
    have hk : k' ≤ rs.length := by omega
    obtain ⟨rp, rfl, _⟩ : ∃ p, rv = .ref p ∧ True := let ⟨p, _, e, _⟩ := of_tup hrv; ⟨p, e, trivial⟩
    obtain ⟨fp, rfl, _⟩ : ∃ p, fv = .ref p ∧ True := let ⟨p, _, e, _⟩ := of_tup hfv; ⟨p, e, trivial⟩
    obtain ⟨dp, rfl, _⟩ : ∃ p, dv = .ref p ∧ True := let ⟨p, e, _⟩ := of_flags hdv; ⟨p, e, trivial⟩
    have hdl := isDo_len hdo
    have small : ∀ {x : Nat}, x ≤ 2000 → x ≤ sizeLine := fun h => Nat.le_trans h (by decide)
    have hAny : AnyLog n rs := ⟨n1, n12, by omega, g1⟩
    have hgr' : ∀ z ∈ rs.take k' ++ (u, y, false) :: rs.drop k', GoodRow n z := fun z hz => by
      rcases List.mem_append.mp hz with hz | hz
      · exact g1 z (List.mem_of_mem_take hz)
      · rcases List.mem_cons.mp hz with rfl | hz
        · exact hgr
        · exact g1 z (List.mem_of_mem_drop hz)
    have hl' : (rs.take k' ++ (u, y, false) :: rs.drop k').length = rs.length + 1 := by simp only [List.length_append, List.length_take, List.length_cons, List.length_drop]; omega
    have hAny' : AnyLog n (rs.take k' ++ (u, y, false) :: rs.drop k') := ⟨n1, n12, by omega, hgr'⟩
    obtain ⟨dx, l0, f0, xs, hx, _⟩ := id hW.arc
    refine ⟨_, (pss_cons (ps_expr (pe_meth (pv 0) T.cl_Archive T.m_Archive_put (ok_Archive_put T) (hr.mono (by first | decide | omega)) T.b_Archive_put .nil pass0 (pa_cons (pv 4) (pa_cons (pv 5) pa_nil))))
  (pss_cons (ps_asg (pe_meth0 (pv 0) T.cl_Archive T.m_Archive_now (ok_Archive_now T) (hr.mono (by first | decide | omega)) T.b_Archive_now .nil pass0) (kgTup K rfl rfl (pgs_cons (pg_name (i := 7) sc_law_put_right.nd rfl (.inl rfl)) (pgs_cons (pg_name (i := 8) sc_law_put_right.nd rfl (.inl rfl)) pgs_nil))))
  (pss_cons (ps_if (PW.pt (pw_or (pt_cmpR (kNeD K rfl hr.units) (pv 8) (pe_callTy (kTupOf K rfl) (by rfl) T.z_tuple (by decide +kernel) (pa_cons (pe_lc (own := [("_law_find_here", 12)]) (g := (gName 12)) rfl sc_law_put_right.nd (kiTup K rfl (pv 3)) (blkOk_by (own := [("_law_find_here", 12)]) (N := ["_law_archive", "_law_offices_here", "_law_rows_here", "_law_finds", "_law_at", "_law_row_here", "_law_doing_here", "_law_log", "_law_told", "_law_before", "_law_later", "_law_k", "_law_find_here"]) (sc := defScope s_law_put_right) (by decide +kernel)) (fun _ _ _ _ _ => (pg_name (i := 12) sc_law_put_right.nd rfl (.inl rfl))) (fun _ _ _ _ _ => pts_nil) (fun _ _ _ _ _ => (pe_call (ok_law_moved T) (hr.mono (by first | decide | omega)) (by rfl) T.g_law_moved T.F_law_moved.kp (T.b_law_moved) .nil pass0 (pa_cons (pv 12) (pa_cons (pe_op op_add (pv 4) pe_int) (pa_cons pe_int pa_nil)))))) pa_nil)) (nomark _)) (pw_or1 (pt_cmpR (kNeD K rfl hr.units) (kpFld K rfl (pv 7) rfl) (pe_op (kCatA K rfl) (pe_op (kCatA K rfl) (pe_slice (kSlA K rfl) (pv 2) po_none (po_some (pv 4))) (pe_tup (pa_cons (pv 5) pa_nil))) (pe_slice (kSlA K rfl) (pv 2) (po_some (pv 4)) po_none)) (nomark _)))))
  (pss_one (ps_ret pe_bl))
  pss_nil)
  (pss_cons (ps_set (i := 9) sc_law_put_right.nd rfl (.inl rfl) (pe_call (ok_all_sheets T) (hr.mono (by first | decide | omega)) (by rfl) T.g_all_sheets T.F_all_sheets.kp (T.b_all_sheets) .nil pass0 (pa_cons (pe_make T.mk_Log (ok_Log_init T) (hr.mono (by first | decide | omega)) (by rfl) T.gc_Log T.b_Log_init .nil pass0 (pa_cons (pv 1) (pa_cons (pv 2) pa_nil))) (pa_cons (pv 6) pa_nil))))
  (pss_cons (ps_set (i := 10) sc_law_put_right.nd rfl (.inl rfl) (pe_call (ok_all_sheets T) (hr.mono (by first | decide | omega)) (by rfl) T.g_all_sheets T.F_all_sheets.kp (T.b_all_sheets) .nil pass0 (pa_cons (pv 7) (pa_cons (pe_op (kCatA K rfl) (pe_op (kCatA K rfl) (pe_slice (kSlA K rfl) (pv 6) po_none (po_some (pv 4))) (pe_tup (pa_cons pe_bl pa_nil))) (pe_slice (kSlA K rfl) (pv 6) (po_some (pv 4)) po_none)) pa_nil))))
  (pss_cons (ps_for PassesOwn.never rfl (pi_range1 rfl T.z_range (pa_cons (pe_callB (kLen K rfl) (by rfl) T.z_len (by decide +kernel) (pa_cons (pv 3) pa_nil)) pa_nil)) (pg_name (i := 11) sc_law_put_right.nd rfl (.inl rfl))
  (pss_one (ps_if (PW.pt (pw_or (pt_cmpR (kNeD K rfl hr.units) (pe_ix (kIxL K rfl) (pv 9) (pe_ix (kIxT K rfl) (pe_ix (kIxT K rfl) (pv 3) (pv 11) (fun _ _ => rfl)) pe_int (fun _ _ => rfl)) (fun _ _ => rfl)) (pe_ix (kIxL K rfl) (pv 10) (pe_ix (kIxT K rfl) (pe_ix (kIxT K rfl) (pv 8) (pv 11) (fun _ _ => rfl)) pe_int (fun _ _ => rfl)) (fun _ _ => rfl)) (nomark _)) (pw_or1 (pt_cmpR op_ne (pe_cmpR op_le (pe_ix (kIxT K rfl) (pe_ix (kIxT K rfl) (pv 3) (pv 11) (fun _ _ => rfl)) pe_int (fun _ _ => rfl)) (pv 4) (nomark _)) (pe_cmpR op_le (pe_ix (kIxT K rfl) (pe_ix (kIxT K rfl) (pv 8) (pv 11) (fun _ _ => rfl)) pe_int (fun _ _ => rfl)) (pv 4) (nomark _)) (nomark _)))))
  (pss_one (ps_ret pe_bl))
  pss_nil)))
  (pss_cons (ps_expr (pe_meth (pv 0) T.cl_Archive T.m_Archive_strike (ok_Archive_strike T) (hr.mono (by first | decide | omega)) T.b_Archive_strike .nil pass0 (pa_cons (pv 4) pa_nil)))
  (pss_cons (ps_if (pt_cmpR (kPairNe ⟨rfl, rfl, rfl, rfl, rfl⟩ T (hr.mono (by first | decide | omega))) (pe_meth0 (pv 0) T.cl_Archive T.m_Archive_now (ok_Archive_now T) (hr.mono (by first | decide | omega)) T.b_Archive_now .nil pass0) (pe_tup (pa_cons (pe_make T.mk_Log (ok_Log_init T) (hr.mono (by first | decide | omega)) (by rfl) T.gc_Log T.b_Log_init .nil pass0 (pa_cons (pv 1) (pa_cons (pv 2) pa_nil))) (pa_cons (pv 3) pa_nil))) (nomark _))
  (pss_one (ps_ret pe_bl))
  pss_nil)
  (pss_cons (ps_expr (pe_meth0 (pv 0) T.cl_Archive T.m_Archive_back (ok_Archive_back T) (hr.mono (by first | decide | omega)) T.b_Archive_back .nil pass0))
  (pss_cons (ps_expr (pe_meth0 (pv 0) T.cl_Archive T.m_Archive_back (ok_Archive_back T) (hr.mono (by first | decide | omega)) T.b_Archive_back .nil pass0))
  (pss_one (ps_ret (pe_cmpR (kPairEq ⟨rfl, rfl, rfl, rfl, rfl⟩ T (hr.mono (by first | decide | omega))) (pe_meth0 (pv 0) T.cl_Archive T.m_Archive_now (ok_Archive_now T) (hr.mono (by first | decide | omega)) T.b_Archive_now .nil pass0) (pe_tup (pa_cons (pe_make T.mk_Log (ok_Log_init T) (hr.mono (by first | decide | omega)) (by rfl) T.gc_Log T.b_Log_init .nil pass0 (pa_cons (pv 1) (pa_cons (pv 2) pa_nil))) (pa_cons (pv 3) pa_nil))) (nomark _)))))))))))))), ?_⟩
    walk_at "go"
    refine g_meth ?_
    walk_at "go"
    refine ⟨x, dx, _, rfl, hx, rfl, ?_⟩
    walk_at "go"
    refine ⟨x, pa, n, past, rs, fs, v, (u, y, false), (k' : Int), rfl, hW.arc, hAny, by omega, by omega, by omega, hv, hgr, by omega, by omega, fun H1 kx1 hA1 => ?_⟩
    obtain ⟨hW1, ta1⟩ := hW.kx kx1 hA1
    rw [Int.toNat_natCast] at hW1
    obtain ⟨dx1, l1, f1, xs1, hx1, _⟩ := id hW1.arc
    walk_at "go"
    refine g_meth ?_
    walk_at "go"
    refine ⟨x, dx1, _, rfl, hx1, rfl, ?_⟩
    walk_at "go"
    refine ⟨x, pa, n, _, _, rfl, hW1.arc, fun H2 t l f s2 ht hl2 hf2 => ?_⟩
    have hW2 := hW1.same s2
    have ta2 := ta1.trans (Ta.of (Tx.of s2))
    obtain ⟨gp, gs, rfl, hgp, hgs⟩ := of_tup hf2
    have hgl := DpAll.len hgs
    rw [List.length_map, List.length_map] at hgl
    obtain ⟨la, ldx, lrp, rfl, hla, hlr⟩ := id hl2
    refine ⟨t, _, rfl, ht, rfl, _, _, rfl, _, _, rfl, rfl, ?_⟩
    have hfv2 := Dp.ta ta2 _ _ (im_finD _) hfv
    obtain ⟨_, us, e, hu, hb⟩ := of_tup hfv2
    cases e
    have ul := DpAll.len hb
    rw [List.length_map] at ul
    have hrv2 := Dp.ta ta2 _ _ (im_rowsD _) hrv
    obtain ⟨_, ys, e, hp, ha⟩ := of_tup hrv2
    cases e
    have yl := DpAll.len ha
    rw [List.length_map] at yl
    have hv2 := Dp.ta ta2 _ _ rfl hv
    have hdv2 := Dp.ta ta2 _ _ (im_flagsD _) hdv
    obtain ⟨_, e, hdp⟩ := of_flags hdv2
    cases e
    walk_at "go"
    refine ⟨fp, rfl, ⟨_, hu⟩, fun D nD => ?_⟩
    refine lc_data (K := K) (walk_tup (K := K) (a := fp) (xs := us)) (fun i => ((fs.take i).map (upF k')).map findD) (by rw [List.take_zero]; rfl) (fun i hi => ?_) (fun i _ => imAll_map (fun _ => rfl) _) nD (fun H' s => (Tx.of s).seq hu) (fun i x1 I1 I1' C Cn hi s hy hC hN => ?_) (fun H3 ps s3 hP3 hps => ?_)
    · rw [List.length_map, List.length_map, List.length_take]
      exact Nat.lt_of_le_of_lt (show _ ≤ 1000 by omega) (by decide)
    · obtain ⟨rfl, hz⟩ := hy
      obtain ⟨dd, gd, rd⟩ := DpAll.get (Dp.sameAll s _ _ hb) hz
      obtain ⟨f, gf, rfl⟩ := map_at gd
      refine ⟨rfl, ?_⟩
      walk_at "go"
      refine ⟨x1, (k' : Int) + 1, 1, f, upF k' f, rfl, rd, by decide, by decide, (up_eq k' f).1, (up_eq k' f).2, fun I2 t s' ht => ?_⟩
      exact hC _ _ _ s' ht (by rw [take_snoc gf, List.map_append, List.map_append]; rfl)
    rw [ul, List.take_length] at hps
    walk_at "go"
    refine ⟨D, ps, rfl, .inl ⟨SqL.at hP3, fun t4 n4 => ?_⟩⟩
    have s4 := same_new (o := .tup ps) n4
    have s34 := s3.trans s4
    refine ⟨finD (fs.map (upF k')), finD (fs.map (upF k')), .tup ((Tx.of s34).seq hgp) (Dp.sameAll s34 _ _ hgs), .tup SqT.new (Dp.sameAll s4 _ _ hps), shaped_fins _, shaped_fins _, ?_⟩
    rw [eqv_self (shaped_fins _)]
    walk_at "go"
    refine ⟨_, _, _, _, _, rfl, s34 _ _ hla, T.cl_Log, T.n_Log_rows, rfl, ?_⟩
    walk_at "go"
    refine g_slA ((Tx.of s34).seq hp) fun p5 H5 s5 h5 => ?_
    rw [cutV_take] at h5
    walk_at "go"
    refine ⟨by show 1 ≤ sizeLine; decide, fun t6 n6 => ?_⟩
    have s6 := same_new (o := .tup [v]) n6
    refine g_catA ((Tx.of s6).seq h5) SqT.new (small (by simp only [List.length_take, List.length_cons, List.length_nil]; omega)) fun p7 H7 s7 h7 => ?_
    have s57 := s5.trans (s6.trans s7)
    walk_at "go"
    refine g_slA ((Tx.of (s34.trans s57)).seq hp) fun p8 H8 s8 h8 => ?_
    rw [cutV_drop] at h8
    refine g_catA ((Tx.of s8).seq h7) h8 (small (by simp only [List.length_append, List.length_take, List.length_drop, List.length_cons, List.length_nil]; omega)) fun p9 H9 s9 h9 => ?_
    have s29 := s34.trans (s57.trans (s8.trans s9))
    have hall := Dp.sameAll s29 _ _ ha
    refine ⟨rowsD (rs.take k' ++ (u, y, false) :: rs.drop k'), rowsD (rs.take k' ++ (u, y, false) :: rs.drop k'), Dp.same s29 _ _ hlr, .tup h9 ?_, shaped_rowsD _, shaped_rowsD _, ?_⟩
    · rw [show rs.take k' ++ (u, y, false) :: rs.drop k' = rs.take k' ++ [(u, y, false)] ++ rs.drop k' from by simp, List.map_append, List.map_append, List.map_take, List.map_drop]
      exact DpAll.app (DpAll.app (DpAll.take _ hall) (.cons (Dp.same s29 _ _ hv2) .nil)) (DpAll.drop _ hall)
    rw [eqv_self (shaped_rowsD _)]
    have hW9 := hW2.same s29
    walk_at "go"
    intro z dz nz ndz nzd
    refine mk_log (Dp.same s29 _ _ hrv2) ⟨n1, n12, g2, g1⟩ nz ndz nzd fun H10 s10 hz => ?_
    have s210 := s29.trans s10
    walk_at "go"
    refine ⟨.ref z, .ref dp, n, rs, ds, rfl, hz, Dp.same s210 _ _ hdv2, hAny, hdo, fun H11 B bs s11 nB hB hbs => ?_⟩
    have s211 := s210.trans s11
    walk_at "go"
    refine g_slA ((Tx.of s211).seq hdp) fun p12 H12 s12 h12 => ?_
    rw [cutV_take] at h12
    walk_at "go"
    refine ⟨by show 1 ≤ sizeLine; decide, fun t13 n13 => ?_⟩
    have s13 := same_new (o := .tup [.bl false]) n13
    refine g_catA ((Tx.of s13).seq h12) SqT.new (small (by simp only [List.length_take, List.length_map, List.length_cons, List.length_nil]; omega)) fun p14 H14 s14 h14 => ?_
    have s1214 := s12.trans (s13.trans s14)
    walk_at "go"
    refine g_slA ((Tx.of (s211.trans s1214)).seq hdp) fun p15 H15 s15 h15 => ?_
    rw [cutV_drop] at h15
    refine g_catA ((Tx.of s15).seq h14) h15 (small (by simp only [List.length_append, List.length_take, List.length_map, List.length_drop, List.length_cons, List.length_nil]; omega)) fun p16 H16 s16 h16 => ?_
    have s1116 := s1214.trans (s15.trans s16)
    have s216 := s211.trans s1116
    have hd16 : Dp K H16 (.ref p16) (flagsD (ds.take k' ++ false :: ds.drop k')) := by
      rw [show (ds.map V.bl).take k' ++ [V.bl false] ++ (ds.map V.bl).drop k' = (ds.take k' ++ false :: ds.drop k').map V.bl from by simp [List.map_take, List.map_drop]] at h16
      exact dp_flags h16
    walk_at "go"
    refine ⟨.ref la, .ref p16, n, _, _, rfl, hl2.tx (Tx.of s216), hd16, hAny', isDo_ins hdo, fun H17 B2 bs2 s17 nB2 hB2 hbs2 => ?_⟩
    have s217 := s216.trans s17
    have hB17 := (s1116.trans s17) _ _ hB
    have hbs17 := Dp.sameAll (s1116.trans s17) _ _ hbs
    have hW17 := hW2.same s217
    have bl := DpAll.len hbs17
    have bl2 := DpAll.len hbs2
    unfold allSt at bl bl2
    rw [List.length_map, List.length_range] at bl bl2
    have bl2' : bs2.length = rs.length + 1 + 1 := by rw [bl2]; exact congrArg (· + 1) hl'
    walk_at "go"
    have hu17 := (Tx.of s217).seq hu
    have hg17 := (Tx.of s217).seq hgp
    refine ⟨_, _, rfl, .inr hu17, ?_⟩
    walk_at "go"
    refine ⟨_, rfl, by omega, by omega, ?_⟩
    refine for_it walk_rng0 (fun i σ H' => ∃ (y11 : Option V), σ = [some (.ref x), some (.int n), some (.ref rp), some (.ref fp), some (.int (k' : Nat)), some v, some (.ref dp), some (.ref la), some (.ref gp), some (.ref B), some (.ref B2), y11, none] ∧ H17 = H') ⟨_, rfl, rfl⟩ (fun _ _ _ _ _ => trivial) (fun i z σ H18 H18' hi hP hy => ?_) (fun σ H18 hP => ?_)
    · obtain ⟨rfl, rfl⟩ := hy
      obtain ⟨y11, rfl, rfl⟩ := hP
      have hif : i < fs.length := by omega
      have gf := List.getElem?_eq_getElem hif
      generalize fs[i] = f at gf
      have gu : (fs.map (upF k'))[i]? = some (upF k' f) := by rw [List.getElem?_map, gf]; rfl
      obtain ⟨b1, b2, b3⟩ := g3 f (List.mem_of_getElem? gf)
      have at_of : ∀ {xs : List V} {gs : List Fd} {g : Fd}, DpAll K H17 xs (gs.map findD) → gs[i]? = some g → ∃ q, xs[i]? = some (.ref q) ∧ SqT K H17 q [.int g.1, .int g.2.1, .int g.2.2] := fun {xs gs g} hx hg => by
        have hl := DpAll.len hx
        rw [List.length_map] at hl
        obtain ⟨w', gw⟩ : ∃ w', xs[i]? = some w' := ⟨_, List.getElem?_eq_getElem (by rw [hl]; exact (List.getElem?_eq_some_iff.mp hg).1)⟩
        obtain ⟨q, rfl, hq⟩ := of_find (DpAll.at hx gw (by rw [List.getElem?_map, hg]; rfl))
        exact ⟨q, gw, hq⟩
      obtain ⟨q1, e1, hq1⟩ := at_of (Dp.sameAll s217 _ _ hb) gf
      obtain ⟨q2, e2, hq2⟩ := at_of (Dp.sameAll s217 _ _ hgs) gu
      have ei : atI us ((i : Nat) : Int) = some (.ref q1) := atI_at (by omega) (show us[((i : Nat) : Int).toNat]? = some (.ref q1) from e1)
      have ei2 : atI gs ((i : Nat) : Int) = some (.ref q2) := atI_at (by omega) (show gs[((i : Nat) : Int).toNat]? = some (.ref q2) from e2)
      have b1' : f.1 ≤ rs.length := b1
      have hup : (upF k' f).1 ≤ rs.length + 1 := by show (if k' < f.1 then f.1 + 1 else f.1) ≤ _; split <;> omega
      have hupR : (upF k' f).1 < (rs.take k' ++ (u, y, false) :: rs.drop k').length + 1 := by rw [hl']; omega
      have est : stAt n (rs.take k' ++ (u, y, false) :: rs.drop k') (ds.take k' ++ false :: ds.drop k') (upF k' f).1 = stAt n rs ds f.1 := by
        show stAt n _ _ (if k' < f.1 then f.1 + 1 else f.1) = _
        by_cases h : k' < f.1
        · rw [if_pos h]
          exact (st_ins hk hdl).2 (by omega) b1
        · rw [if_neg h]
          exact (st_ins hk hdl).1 (by omega)
      obtain ⟨w1, gw1⟩ : ∃ w1, bs[f.1]? = some w1 := ⟨_, List.getElem?_eq_getElem (by omega)⟩
      obtain ⟨w2, gw2⟩ : ∃ w2, bs2[(upF k' f).1]? = some w2 := ⟨_, List.getElem?_eq_getElem (by omega)⟩
      have d1 : Dp K H17 w1 (tupI (stAt n rs ds f.1)) := DpAll.at hbs17 gw1 (by unfold allSt; rw [List.getElem?_map, List.getElem?_range (by omega)]; rfl)
      have d2 : Dp K H17 w2 (tupI (stAt n rs ds f.1)) := by
        rw [← est]
        exact DpAll.at hbs2 gw2 (by unfold allSt; rw [List.getElem?_map, List.getElem?_range hupR]; rfl)
      walk_at "go"
      refine g_ixT hu17 ei ?_
      walk_at "go"
      refine g_ixT hq1 (v := .int f.1) rfl ?_
      refine g_ixL (SqL.at hB17) (atI_at (by omega) (show bs[((f.1 : Nat) : Int).toNat]? = some w1 from gw1)) ?_
      walk_at "go"
      refine g_ixT hg17 ei2 ?_
      walk_at "go"
      refine g_ixT hq2 (v := .int (upF k' f).1) rfl ?_
      refine g_ixL (SqL.at hB2) (atI_at (by omega) (show bs2[(((upF k' f).1 : Nat) : Int).toNat]? = some w2 from gw2)) ?_
      refine ⟨_, _, d1, d2, shaped_tupI _, shaped_tupI _, ?_⟩
      rw [eqv_tupI, decide_eq_true rfl]
      walk_at "go"
      refine g_ixT hu17 ei ?_
      walk_at "go"
      refine g_ixT hq1 (v := .int f.1) rfl ?_
      walk_at "go"
      refine g_ixT hg17 ei2 ?_
      walk_at "go"
      refine g_ixT hq2 (v := .int (upF k' f).1) rfl ?_
      walk_at "go"
      rw [show decide (((upF k' f).1 : Int) ≤ (k' : Int)) = decide ((f.1 : Int) ≤ (k' : Int)) from by
        rw [Bool.eq_iff_iff, decide_eq_true_iff, decide_eq_true_iff]
        show ((if k' < f.1 then f.1 + 1 else f.1 : Nat) : Int) ≤ _ ↔ _
        split <;> omega]
      rw [show ∀ b : Bool, (!(b == b)) = false from fun b => by cases b <;> rfl]
      walk_at "go"
      exact ⟨_, rfl, rfl⟩
    · obtain ⟨y11, rfl, rfl⟩ := hP
      obtain ⟨dx3, l3, f3, xs3, hx3, _⟩ := id hW17.arc
      have ta17 := ta2.trans (Ta.of (Tx.of s217))
      walk_at "go"
      refine g_meth ?_
      walk_at "go"
      refine ⟨x, dx3, _, rfl, hx3, rfl, ?_⟩
      walk_at "go"
      refine ⟨x, pa, n, _, _, _, (k' : Int), rfl, hW17.arc, hAny', by omega, by omega, by rw [List.length_map]; omega, by rw [List.length_append]; show past.length + 1 ≤ 1000; omega, fun H19 kx19 hA19 => ?_⟩
      obtain ⟨hW19, ta19⟩ := hW17.kx kx19 hA19
      rw [Int.toNat_natCast, rows_back rs _ hk, List.map_map, show (downF k' ∘ upF k') = id from funext fun f => down_up k' f, List.map_id] at hW19
      have ta := ta17.trans ta19
      obtain ⟨dx4, l4, f4, xs4, hx4, _⟩ := id hW19.arc
      walk_at "go"
      refine g_meth ?_
      walk_at "go"
      refine ⟨x, dx4, _, rfl, hx4, rfl, ?_⟩
      walk_at "go"
      refine ⟨x, pa, n, _, _, rfl, hW19.arc, fun H20 t20 l20 f20 s20 ht20 hl20 hf20 => ?_⟩
      have ta20 := ta.trans (Ta.of (Tx.of s20))
      have hrv20 := Dp.ta ta20 _ _ (im_rowsD _) hrv
      have hfv20 := Dp.ta ta20 _ _ (im_finD _) hfv
      walk_at "go"
      intro z2 dz2 nz2 ndz2 nzd2
      refine mk_log hrv20 ⟨n1, n12, g2, g1⟩ nz2 ndz2 nzd2 fun H21 s21 hz2 => ?_
      walk_at "go"
      refine ⟨by show 2 ≤ sizeLine; decide, fun t22 n22 => ?_⟩
      have s22 := same_new (o := .tup [.ref z2, .ref fp]) n22
      have s2122 := s21.trans s22
      refine ⟨pair_eq ((Tx.of s2122).seq ht20) (hl20.tx (Tx.of s2122)) (Dp.same s2122 _ _ hf20) SqT.new (hz2.tx (Tx.of s22)) (Dp.same s2122 _ _ hfv20), fun H23 e23 => ?_⟩
      have s23 : Same H19 H23 := s20.trans (s2122.trans e23)
      have hW23 := hW19.same s23
      obtain ⟨dx5, l5, f5, xs5, hx5, _⟩ := id hW23.arc
      walk_at "go"
      refine g_meth ?_
      walk_at "go"
      refine ⟨x, dx5, _, rfl, hx5, rfl, ?_⟩
      walk_at "go"
      refine ⟨x, pa, n, _, _, _, rfl, hW23.arc, fun H24 kx24 hA24 => ?_⟩
      obtain ⟨hW24, ta24⟩ := hW23.kx kx24 hA24
      obtain ⟨dx6, l6, f6, xs6, hx6, _⟩ := id hW24.arc
      walk_at "go"
      refine g_meth ?_
      walk_at "go"
      refine ⟨x, dx6, _, rfl, hx6, rfl, ?_⟩
      walk_at "go"
      refine ⟨x, pa, n, _, _, _, rfl, hW24.arc, fun H25 kx25 hA25 => ?_⟩
      obtain ⟨hW25, ta25⟩ := hW24.kx kx25 hA25
      have taE := (ta.trans (Ta.of (Tx.of s23))).trans (ta24.trans ta25)
      obtain ⟨dx7, l7, f7, xs7, hx7, _⟩ := id hW25.arc
      walk_at "go"
      refine g_meth ?_
      walk_at "go"
      refine ⟨x, dx7, _, rfl, hx7, rfl, ?_⟩
      walk_at "go"
      refine ⟨x, pa, n, _, _, rfl, hW25.arc, fun H26 t26 l26 f26 s26 ht26 hl26 hf26 => ?_⟩
      have ta26 := taE.trans (Ta.of (Tx.of s26))
      have hrv26 := Dp.ta ta26 _ _ (im_rowsD _) hrv
      have hfv26 := Dp.ta ta26 _ _ (im_finD _) hfv
      walk_at "go"
      intro z3 dz3 nz3 ndz3 nzd3
      refine mk_log hrv26 ⟨n1, n12, g2, g1⟩ nz3 ndz3 nzd3 fun H27 s27 hz3 => ?_
      walk_at "go"
      refine ⟨by show 2 ≤ sizeLine; decide, fun t28 n28 => ?_⟩
      have s28 := same_new (o := .tup [.ref z3, .ref fp]) n28
      have s2728 := s27.trans s28
      refine ⟨pair_eq ((Tx.of s2728).seq ht26) (hl26.tx (Tx.of s2728)) (Dp.same s2728 _ _ hf26) SqT.new (hz3.tx (Tx.of s28)) (Dp.same s2728 _ _ hfv26), fun H29 e29 => ?_⟩
      have s29' : Same H25 H29 := s26.trans (s2728.trans e29)
      exact q _ (hW25.same s29') (taE.trans (Ta.of (Tx.of s29')))
def sp_law (K : PySem.W.Frag) : Sp := fun vs H Q _ => ∃ (a : Addr) (ns : List Int), vs = [.ref a] ∧ SqL K H a (ns.map V.int) ∧ ns.length ≤ 63 ∧ ∀ H', Q (.bl true) H'
set_option maxHeartbeats 8000000 in
theorem ok_law (T : Txt K mg a) : FnOk P w K mg base CX0 lawLevel a.f_law a.d_law ["_law_script"] (sp_law K) := by
  refine T.F_law.ok sc_law (fun vs H Q E h => ?_) (fun cdv A outer s H vs Q E hr h => ?_)
  · obtain ⟨s, ns, rfl, _⟩ := h
    rfl
  · obtain ⟨sa, cells, rfl, hS, hlen, q⟩ := h
    unfold lawLevel at hr
    refine ⟨_, (pss_cons (ps_set (i := 1) sc_law.nd rfl (.inr rfl) (pe_call (ok_law_dice T) (hr.mono (by first | decide | omega)) (by rfl) T.g_law_dice T.F_law_dice.kp (T.b_law_dice) .nil pass0 (pa_cons (pv 0) pa_nil)))
  (pss_cons (ps_set (i := 2) sc_law.nd rfl (.inr rfl) (pe_op op_add pe_int (pe_call (ok_law_draw T) (hr.mono (by first | decide | omega)) (by rfl) T.g_law_draw T.F_law_draw.kp (T.b_law_draw) .nil pass0 (pa_cons (pv 1) (pa_cons pe_int pa_nil)))))
  (pss_cons (ps_set (i := 3) sc_law.nd rfl (.inl rfl) (pe_call (ok_law_rows T) (hr.mono (by first | decide | omega)) (by rfl) T.g_law_rows T.F_law_rows.kp (T.b_law_rows) .nil pass0 (pa_cons (pv 1) (pa_cons (pv 2) (pa_cons (pe_call (ok_law_draw T) (hr.mono (by first | decide | omega)) (by rfl) T.g_law_draw T.F_law_draw.kp (T.b_law_draw) .nil pass0 (pa_cons (pv 1) (pa_cons pe_int pa_nil))) pa_nil)))))
  (pss_cons (ps_set (i := 4) sc_law.nd rfl (.inl rfl) (pe_call (ok_law_doing T) (hr.mono (by first | decide | omega)) (by rfl) T.g_law_doing T.F_law_doing.kp (T.b_law_doing) .nil pass0 (pa_cons (pv 1) (pa_cons (pv 3) pa_nil))))
  (pss_cons (ps_set (i := 5) sc_law.nd rfl (.inr rfl) (pe_call (ok_law_led T) (hr.mono (by first | decide | omega)) (by rfl) T.g_law_led T.F_law_led.kp (T.b_law_led) .nil pass0 (pa_cons (pv 2) (pa_cons (pv 3) (pa_cons (pv 4) pa_nil)))))
  (pss_cons (ps_set (i := 6) sc_law.nd rfl (.inl rfl) (pe_callTy (kTupOf K rfl) (by rfl) T.z_tuple (by decide +kernel) (pa_cons (pe_lc (own := [("_law_k", 14)]) (g := (gName 14)) rfl sc_law.nd (pi_range1 rfl T.z_range (pa_cons (pe_call (ok_law_draw T) (hr.mono (by first | decide | omega)) (by rfl) T.g_law_draw T.F_law_draw.kp (T.b_law_draw) .nil pass0 (pa_cons (pv 1) (pa_cons pe_int pa_nil))) pa_nil)) (blkOk_by (own := [("_law_k", 14)]) (N := ["_law_script", "_law_dice_here", "_law_offices_here", "_law_rows_here", "_law_doing_here", "_law_led_here", "_law_finds", "_law_archive", "_law_at", "_law_x", "_law_y", "_law_sure", "_law_log", "_law_told", "_law_k", "_law_find_here"]) (sc := defScope s_law) (by decide +kernel)) (fun _ _ _ _ _ => (pg_name (i := 14) sc_law.nd rfl (.inl rfl))) (fun _ _ _ _ _ => pts_nil) (fun _ _ _ _ _ => (pe_call (ok_law_find T) (hr.mono (by first | decide | omega)) (by rfl) T.g_law_find T.F_law_find.kp (T.b_law_find) .nil pass0 (pa_cons (pv 1) (pa_cons (pv 2) (pa_cons (pv 5) pa_nil)))))) pa_nil)))
  (pss_cons (ps_set (i := 7) sc_law.nd rfl (.inl rfl) (pe_call (ok_law_filled T) (hr.mono (by first | decide | omega)) (by rfl) T.g_law_filled T.F_law_filled.kp (T.b_law_filled) .nil pass0 (pa_cons (pv 2) (pa_cons (pv 3) (pa_cons (pv 6) pa_nil)))))
  (pss_cons (ps_if (pt_cmpR (kPairNe ⟨rfl, rfl, rfl, rfl, rfl⟩ T (hr.mono (by first | decide | omega))) (pe_meth0 (pv 7) T.cl_Archive T.m_Archive_now (ok_Archive_now T) (hr.mono (by first | decide | omega)) T.b_Archive_now .nil pass0) (pe_tup (pa_cons (pe_make T.mk_Log (ok_Log_init T) (hr.mono (by first | decide | omega)) (by rfl) T.gc_Log T.b_Log_init .nil pass0 (pa_cons (pv 2) (pa_cons (pv 3) pa_nil))) (pa_cons (pv 6) pa_nil))) (nomark _))
  (pss_one (ps_ret pe_bl))
  pss_nil)
  (pss_cons (ps_for PassesOwn.never rfl (pi_range1 rfl T.z_range (pa_cons (pe_op op_add (pe_callB (kLen K rfl) (by rfl) T.z_len (by decide +kernel) (pa_cons (pv 3) pa_nil)) pe_int) pa_nil)) (pg_name (i := 8) sc_law.nd rfl (.inr rfl))
  (pss_cons (ps_asg (pe_call (ok_law_row T) (hr.mono (by first | decide | omega)) (by rfl) T.g_law_row T.F_law_row.kp (T.b_law_row) .nil pass0 (pa_cons (pv 1) (pa_cons (pv 2) (pa_cons pe_int pa_nil)))) (kgTup K rfl rfl (pgs_cons (pg_name (i := 9) sc_law.nd rfl (.inl rfl)) (pgs_cons (pg_name (i := 10) sc_law.nd rfl (.inl rfl)) (pgs_cons (pg_name (i := 11) sc_law.nd rfl (.inl rfl)) pgs_nil)))))
  (pss_one (ps_if (pt_not (pt_val (pe_call (ok_law_put_right T) (hr.mono (by first | decide | omega)) (by rfl) T.g_law_put_right T.F_law_put_right.kp (T.b_law_put_right) .nil pass0 (pa_cons (pv 7) (pa_cons (pv 2) (pa_cons (pv 3) (pa_cons (pv 6) (pa_cons (pv 8) (pa_cons (pe_tup (pa_cons (pv 9) (pa_cons (pv 10) (pa_cons pe_bl pa_nil)))) (pa_cons (pv 4) pa_nil))))))))))
  (pss_one (ps_ret pe_bl))
  pss_nil))))
  (pss_cons (ps_for PassesOwn.never rfl (pi_range1 rfl T.z_range (pa_cons (pe_callB (kLen K rfl) (by rfl) T.z_len (by decide +kernel) (pa_cons (pv 3) pa_nil)) pa_nil)) (pg_name (i := 8) sc_law.nd rfl (.inr rfl))
  (pss_cons (ps_expr (pe_meth (pv 7) T.cl_Archive T.m_Archive_strike (ok_Archive_strike T) (hr.mono (by first | decide | omega)) T.b_Archive_strike .nil pass0 (pa_cons (pv 8) pa_nil)))
  (pss_cons (ps_asg (pe_meth0 (pv 7) T.cl_Archive T.m_Archive_now (ok_Archive_now T) (hr.mono (by first | decide | omega)) T.b_Archive_now .nil pass0) (kgTup K rfl rfl (pgs_cons (pg_name (i := 12) sc_law.nd rfl (.inl rfl)) (pgs_cons (pg_name (i := 13) sc_law.nd rfl (.inl rfl)) pgs_nil))))
  (pss_cons (ps_if (PW.pt (pw_or (pt_cmpR (kNeD K rfl hr.units) (kpFld K rfl (pv 12) rfl) (pe_op (kCatA K rfl) (pe_slice (kSlA K rfl) (pv 3) po_none (po_some (pv 8))) (pe_slice (kSlA K rfl) (pv 3) (po_some (pe_op op_add (pv 8) pe_int)) po_none)) (nomark _)) (pw_or1 (pt_cmpR (kNeD K rfl hr.units) (pv 13) (pe_callTy (kTupOf K rfl) (by rfl) T.z_tuple (by decide +kernel) (pa_cons (pe_lc (own := [("_law_find_here", 15)]) (g := (gName 15)) rfl sc_law.nd (kiTup K rfl (pv 6)) (blkOk_by (own := [("_law_find_here", 15)]) (N := ["_law_script", "_law_dice_here", "_law_offices_here", "_law_rows_here", "_law_doing_here", "_law_led_here", "_law_finds", "_law_archive", "_law_at", "_law_x", "_law_y", "_law_sure", "_law_log", "_law_told", "_law_k", "_law_find_here"]) (sc := defScope s_law) (by decide +kernel)) (fun _ _ _ _ _ => (pg_name (i := 15) sc_law.nd rfl (.inl rfl))) (fun _ _ _ _ _ => pts_nil) (fun _ _ _ _ _ => (pe_call (ok_law_moved T) (hr.mono (by first | decide | omega)) (by rfl) T.g_law_moved T.F_law_moved.kp (T.b_law_moved) .nil pass0 (pa_cons (pv 15) (pa_cons (pe_op op_add (pv 8) pe_int) (pa_cons (pe_un un_neg pe_int) pa_nil)))))) pa_nil)) (nomark _)))))
  (pss_one (ps_ret pe_bl))
  pss_nil)
  (pss_cons (ps_expr (pe_meth0 (pv 7) T.cl_Archive T.m_Archive_back (ok_Archive_back T) (hr.mono (by first | decide | omega)) T.b_Archive_back .nil pass0))
  (pss_one (ps_if (pt_cmpR (kPairNe ⟨rfl, rfl, rfl, rfl, rfl⟩ T (hr.mono (by first | decide | omega))) (pe_meth0 (pv 7) T.cl_Archive T.m_Archive_now (ok_Archive_now T) (hr.mono (by first | decide | omega)) T.b_Archive_now .nil pass0) (pe_tup (pa_cons (pe_make T.mk_Log (ok_Log_init T) (hr.mono (by first | decide | omega)) (by rfl) T.gc_Log T.b_Log_init .nil pass0 (pa_cons (pv 2) (pa_cons (pv 3) pa_nil))) (pa_cons (pv 6) pa_nil))) (nomark _))
  (pss_one (ps_ret pe_bl))
  pss_nil)))))))
  (pss_one (ps_ret (pe_cmpR op_eq (pe_meth0 (pv 7) T.cl_Archive T.m_Archive_steps (ok_Archive_steps T) (hr.mono (by first | decide | omega)) T.b_Archive_steps .nil pass0) (pe_op op_add (pe_callB (kLen K rfl) (by rfl) T.z_len (by decide +kernel) (pa_cons (pv 3) pa_nil)) (pe_callB (kLen K rfl) (by rfl) T.z_len (by decide +kernel) (pa_cons (pv 6) pa_nil))) (nomark _)))))))))))))), ?_⟩
    walk_at "go"
    refine ⟨sa, cells, rfl, hS, hlen, fun H1 d c s1 nd hD1 => ?_⟩
    walk_at "go"
    refine ⟨d, c, 6, rfl, hD1, by decide, by decide, fun H2 n0 f2 hD2 n0' n1' => ?_⟩
    obtain ⟨n, hn⟩ : ∃ n, n = 2 + n0 := ⟨_, rfl⟩
    have n2 : 2 ≤ n := by omega
    have n1 : 1 ≤ n := by omega
    have n12 : n ≤ 12 := by omega
    walk_at "go"
    rw [← hn]
    refine ⟨d, c, 9, rfl, hD2, by decide, by decide, fun H3 m f3 hD3 m0 m1 => ?_⟩
    refine ⟨d, c, n, m, rfl, hD3, n1, n12, m0, by omega, fun H4 rv rs f4 hD4 hrv hg hrl => ?_⟩
    walk_at "go"
    refine ⟨d, c, rv, rs, rfl, hD4, hrv, by omega, fun H5 dv ds f5 hD5 hdv hdo => ?_⟩
    have hrv5 := Dp.tx (hD4.tx f5) _ _ (im_rowsD _) hrv
    walk_at "go"
    refine ⟨n, rv, dv, rs, ds, rfl, hrv5, hdv, ⟨n1, n12, by omega, hg⟩, isDo_len hdo, fun H6 L xs s6 nL hL hxs => ?_⟩
    have hD6 := hD5.fr s6
    have nLd : L ≠ d := hD5.nd nL
    have hrv6 := Dp.same s6 _ _ hrv5
    have hdv6 := Dp.same s6 _ _ hdv
    have hdl := isDo_len hdo
    unfold allSt at hxs
    rw [show ((List.range (rs.length + 1)).map fun i => tupI (stAt n rs ds i)) = ((List.range (rs.length + 1)).map fun i => stAt n rs ds i).map tupI from by rw [List.map_map]; rfl] at hxs
    walk_at "go"
    refine ⟨d, c, 9, rfl, hD6, by decide, by decide, fun H7 mf f7 hD7 mf0 mf1 => ?_⟩
    have hL7 := f7 _ _ nLd hL
    have hxs7 := Dp.txAll (hD6.tx f7) _ _ (imAll_map (fun ns => im_ints ns) _) hxs
    walk_at "go"
    refine ⟨_, rfl, by omega, by omega, fun D nDD => ?_⟩
    refine lc_draw (K := K) (d := d) (c := c) walk_rng0 (fun e => ∃ f, e = findD f ∧ GoodF2 n rs.length f) (small1000 (by omega)) (fun e ⟨z, h, _⟩ => by rw [h]; rfl) nDD hD7 (fun _ _ => trivial) (fun j x H9 H9' C Cn hj f9 hD9 hy hC => ?_) (fun H9 ys fds f9 hD9 hDl hys hn9 hall => ?_)
    · obtain ⟨rfl, rfl⟩ := hy
      refine ⟨rfl, ?_⟩
      walk_at "go"
      refine ⟨d, c, L, n, xs, _, rfl, hD9, n1, n12, f9 _ _ nLd hL7, nLd, Dp.txAll (hD7.tx f9) _ _ (imAll_map (fun ns => im_ints ns) _) hxs7, fun z hz => ?_, by simp, by simp only [List.length_map, List.length_range]; omega, fun H10 v f f10 hD10 hv b1 b2 b3 => ?_⟩
      · obtain ⟨i, hi, rfl⟩ := List.mem_map.mp hz
        exact st_good (by omega) hg hdl i (by have := List.mem_range.mp hi; omega)
      · exact hC _ _ _ f10 hD10 hv ⟨f, rfl, by simp only [List.length_map, List.length_range] at b1; omega, b2, b3⟩
    obtain ⟨fs, rfl, hgf⟩ : ∃ fs : List Fd, fds = fs.map findD ∧ ∀ f ∈ fs, GoodF2 n rs.length f := by
      clear hys hn9
      induction fds with
      | nil => exact ⟨[], rfl, fun f h => by cases h⟩
      | cons e r ih =>
        obtain ⟨fs, e1, e2⟩ := ih fun z hz => hall z (List.mem_cons_of_mem _ hz)
        obtain ⟨f, rfl, g⟩ := hall e (List.mem_cons_self ..)
        refine ⟨f :: fs, by rw [e1]; rfl, fun z hz => ?_⟩
        rcases List.mem_cons.mp hz with rfl | hz
        · exact g
        · exact e2 z hz
    rw [List.length_map] at hn9
    walk_at "go"
    refine ⟨D, ys, rfl, .inl ⟨SqL.at hDl, fun t10 n10 => ?_⟩⟩
    have s10 := same_new (o := .tup ys) n10
    have tx610 := ((hD6.tx f7).trans (hD7.tx f9)).trans (Tx.of s10)
    have hrv10 := Dp.tx tx610 _ _ (im_rowsD _) hrv6
    have hdv10 := Dp.tx tx610 _ _ (im_flagsD _) hdv6
    have hfv10 : Dp K (upd H9 t10 (.tup ys)) (.ref t10) (finD fs) := .tup SqT.new (Dp.sameAll s10 _ _ hys)
    have hD10 := hD9.fr s10
    generalize upd H9 t10 (.tup ys) = H10 at hrv10 hdv10 hfv10 hD10 ⊢
    have hGS : GoodS n (rs, fs) := ⟨hg, by show rs.length ≤ 60; omega, hgf, by show fs.length ≤ 40; omega⟩
    walk_at "go"
    refine ⟨n, rv, .ref t10, rs, fs, rfl, hrv10, hfv10, n1, n12, hGS, fun H11 x pa past s11 npa hA hpl => ?_⟩
    have hW11 : W84 K a.c_Log a.c_Archive d c x pa n past (rs, fs) H11 := ⟨hD10.fr s11, hA, (hD10.nd npa).symm, (hD10.nc npa).symm⟩
    have hrv11 := Dp.same s11 _ _ hrv10
    have hdv11 := Dp.same s11 _ _ hdv10
    have hfv11 := Dp.same s11 _ _ hfv10
    have lp : past.length ≤ 900 := by omega
    obtain ⟨dx1, l1, f1, xs1, hx1, _⟩ := id hW11.arc
    walk_at "go"
    refine g_meth ?_
    walk_at "go"
    refine ⟨x, dx1, _, rfl, hx1, rfl, ?_⟩
    walk_at "go"
    refine ⟨x, pa, n, _, _, rfl, hW11.arc, fun H12 t12 l12 f12 s12 ht12 hl12 hf12 => ?_⟩
    obtain ⟨rp, rfl, _⟩ : ∃ p, rv = .ref p ∧ True := let ⟨p, _, e, _⟩ := of_tup hrv11; ⟨p, e, trivial⟩
    have hrv12 := Dp.same s12 _ _ hrv11
    have hfv12 := Dp.same s12 _ _ hfv11
    walk_at "go"
    intro z1 dz1 nz1 ndz1 nzd1
    refine mk_log hrv12 ⟨n1, n12, by omega, hg⟩ nz1 ndz1 nzd1 fun H13 s13 hz1 => ?_
    walk_at "go"
    refine ⟨by show 2 ≤ sizeLine; decide, fun t14 n14 => ?_⟩
    have s14 := same_new (o := .tup [.ref z1, .ref t10]) n14
    have s1314 := s13.trans s14
    refine ⟨pair_eq ((Tx.of s1314).seq ht12) (hl12.tx (Tx.of s1314)) (Dp.same s1314 _ _ hf12) SqT.new (hz1.tx (Tx.of s14)) (Dp.same s1314 _ _ hfv12), fun H15 e15 => ?_⟩
    have s15 : Same H11 H15 := s12.trans (s1314.trans e15)
    have hW15 := hW11.same s15
    have hrv15 := Dp.same s15 _ _ hrv11
    have hdv15 := Dp.same s15 _ _ hdv11
    have hfv15 := Dp.same s15 _ _ hfv11
    obtain ⟨_, ys15, e, hp15, ha15⟩ := of_tup hrv15
    cases e
    have yl15 := DpAll.len ha15
    rw [List.length_map] at yl15
    walk_at "go"
    refine ⟨_, _, rfl, .inr hp15, ?_⟩
    walk_at "go"
    refine ⟨_, rfl, by omega, by omega, ?_⟩
    refine for_it walk_rng0 (fun i σ H' => ∃ (y8 y9 y10 y11 : Option V), σ = [some (.ref sa), some (.ref d), some (.int n), some (.ref rp), some dv, some (.ref L), some (.ref t10), some (.ref x), y8, y9, y10, y11, none, none, none, none] ∧ W84 K a.c_Log a.c_Archive d c x pa n past (rs, fs) H' ∧ Dp K H' (.ref rp) (rowsD rs) ∧ Dp K H' dv (flagsD ds) ∧ Dp K H' (.ref t10) (finD fs)) ⟨_, _, _, _, rfl, hW15, hrv15, hdv15, hfv15⟩ (fun _ _ _ _ _ => trivial) (fun i z σ H16 H16' hi hP hy => ?_) (fun σ H16 hP => ?_)
    · obtain ⟨y8, y9, y10, y11, rfl, hW16, hrv16, hdv16, hfv16⟩ := hP
      obtain ⟨rfl, rfl⟩ := hy
      walk_at "go"
      refine ⟨d, c, n, 0, rfl, hW16.dice, n2, n12, fun H17 vr r f17 hD17 hvr hgr => ?_⟩
      obtain ⟨u, y, b⟩ := r
      obtain ⟨qr, rfl, hqr⟩ := of_row hvr
      have hW17 := hW16.fr f17 hD17
      have tx17 := hW16.dice.tx f17
      refine ⟨qr, _, rfl, hqr, rfl, _, _, rfl, _, _, rfl, _, _, rfl, rfl, ?_⟩
      walk_at "go"
      refine ⟨by show 3 ≤ sizeLine; decide, fun t18 n18 => ?_⟩
      have s18 := same_new (o := .tup [.int u, .int y, .bl false]) n18
      have tx18 := tx17.trans (Tx.of s18)
      walk_at "go"
      refine ⟨d, c, x, pa, n, past, rs, fs, .ref rp, .ref t10, .ref t18, (i : Int), u, y, dv, ds, rfl, hW17.same s18, Dp.tx tx18 _ _ (im_rowsD _) hrv16, Dp.tx tx18 _ _ (im_finD _) hfv16, dp_row (r := (u, y, false)) SqT.new, hgr, Dp.tx tx18 _ _ (im_flagsD _) hdv16, hdo, n1, n12, hGS, by omega, by omega, by omega, lp, fun H19 hW19 ta19 => ?_⟩
      have ta := (Ta.of (CA := a.c_Archive) tx18).trans ta19
      walk_at "go"
      exact ⟨_, _, _, _, rfl, hW19, Dp.ta ta _ _ (im_rowsD _) hrv16, Dp.ta ta _ _ (im_flagsD _) hdv16, Dp.ta ta _ _ (im_finD _) hfv16⟩
    · obtain ⟨y8, y9, y10, y11, rfl, hW16, hrv16, hdv16, hfv16⟩ := hP
      obtain ⟨_, ys16, e, hp16, ha16⟩ := of_tup hrv16
      cases e
      have yl16 := DpAll.len ha16
      rw [List.length_map] at yl16
      walk_at "go"
      refine ⟨_, _, rfl, .inr hp16, ?_⟩
      walk_at "go"
      refine ⟨_, rfl, by omega, by omega, ?_⟩
      refine for_it walk_rng0 (fun i σ H' => ∃ (y8 y9 y10 y11 y12 y13 : Option V), σ = [some (.ref sa), some (.ref d), some (.int n), some (.ref rp), some dv, some (.ref L), some (.ref t10), some (.ref x), y8, y9, y10, y11, y12, y13, none, none] ∧ W84 K a.c_Log a.c_Archive d c x pa n past (rs, fs) H' ∧ Dp K H' (.ref rp) (rowsD rs) ∧ Dp K H' (.ref t10) (finD fs)) ⟨_, _, _, _, _, _, rfl, hW16, hrv16, hfv16⟩ (fun _ _ _ _ _ => trivial) (fun i z σ H17 H17' hi hP hy => ?_) (fun σ H17 hP => ?_)
      · obtain ⟨rfl, rfl⟩ := hy
        obtain ⟨y8, y9, y10, y11, y12, y13, rfl, hW17, hrv17, hfv17⟩ := hP
        have hir : i < rs.length := by omega
        obtain ⟨dx2, l2, f2', xs2, hx2, _⟩ := id hW17.arc
        walk_at "go"
        refine g_meth ?_
        walk_at "go"
        refine ⟨x, dx2, _, rfl, hx2, rfl, ?_⟩
        walk_at "go"
        refine ⟨x, pa, n, past, rs, fs, (i : Int), rfl, hW17.arc, ⟨n1, n12, by omega, hg⟩, by omega, by omega, by omega, by omega, fun H18 kx18 hA18 => ?_⟩
        obtain ⟨hW18, ta18⟩ := hW17.kx kx18 hA18
        rw [Int.toNat_natCast] at hW18
        have hrv18 := Dp.ta ta18 _ _ (im_rowsD _) hrv17
        have hfv18 := Dp.ta ta18 _ _ (im_finD _) hfv17
        obtain ⟨dx3, l3, f3', xs3, hx3, _⟩ := id hW18.arc
        walk_at "go"
        refine g_meth ?_
        walk_at "go"
        refine ⟨x, dx3, _, rfl, hx3, rfl, ?_⟩
        walk_at "go"
        refine ⟨x, pa, n, _, _, rfl, hW18.arc, fun H19 t19 l19 f19 s19 ht19 hl19 hf19 => ?_⟩
        have small : ∀ {x : Nat}, x ≤ 2000 → x ≤ sizeLine := fun h => Nat.le_trans h (by decide)
        have hW19 := hW18.same s19
        have hrv19 := Dp.same s19 _ _ hrv18
        have hfv19 := Dp.same s19 _ _ hfv18
        obtain ⟨gp, gs, rfl, hgp, hgs⟩ := of_tup hf19
        obtain ⟨la, ldx, lrp, rfl, hla, hlr⟩ := id hl19
        obtain ⟨_, zs, e, hzp, hza⟩ := of_tup hrv19
        cases e
        have zl := DpAll.len hza
        rw [List.length_map] at zl
        obtain ⟨_, us, e, hu, hb⟩ := of_tup hfv19
        cases e
        have ul := DpAll.len hb
        rw [List.length_map] at ul
        refine ⟨t19, _, rfl, ht19, rfl, _, _, rfl, _, _, rfl, rfl, ?_⟩
        walk_at "go"
        refine ⟨_, _, _, _, _, rfl, hla, T.cl_Log, T.n_Log_rows, rfl, ?_⟩
        walk_at "go"
        refine g_slA hzp fun p20 H20 s20 h20 => ?_
        rw [cutV_take] at h20
        walk_at "go"
        refine g_slA ((Tx.of s20).seq hzp) fun p21 H21 s21 h21 => ?_
        rw [show ((i : Nat) : Int) + 1 = ((i + 1 : Nat) : Int) by omega, cutV_drop] at h21
        refine g_catA ((Tx.of s21).seq h20) h21 (small (by simp only [List.length_take, List.length_drop]; omega)) fun p22 H22 s22 h22 => ?_
        have s1922 := s20.trans (s21.trans s22)
        have hall := Dp.sameAll s1922 _ _ hza
        refine ⟨rowsD (rs.take i ++ rs.drop (i + 1)), rowsD (rs.take i ++ rs.drop (i + 1)), Dp.same s1922 _ _ hlr, .tup h22 (by rw [List.map_append, List.map_take, List.map_drop]; exact DpAll.app (DpAll.take _ hall) (DpAll.drop _ hall)), shaped_rowsD _, shaped_rowsD _, ?_⟩
        rw [eqv_self (shaped_rowsD _)]
        walk_at "go"
        refine ⟨t10, rfl, ⟨_, (Tx.of s1922).seq hu⟩, fun D23 nD23 => ?_⟩
        refine lc_data (K := K) (walk_tup (K := K) (a := t10) (xs := us)) (fun j => ((fs.take j).map (downF i)).map findD) (by rw [List.take_zero]; rfl) (fun j hj => ?_) (fun j _ => imAll_map (fun _ => rfl) _) nD23 (fun H' s => (Tx.of (s1922.trans s)).seq hu) (fun j x1 I1 I1' C Cn hj s hy hC hN => ?_) (fun H23 ps s23 hP23 hps => ?_)
        · rw [List.length_map, List.length_map, List.length_take]
          exact Nat.lt_of_le_of_lt (show _ ≤ 1000 by omega) (by decide)
        · obtain ⟨rfl, hz⟩ := hy
          obtain ⟨dd, gd, rd⟩ := DpAll.get (Dp.sameAll (s1922.trans s) _ _ hb) hz
          obtain ⟨f, gf, rfl⟩ := map_at gd
          refine ⟨rfl, ?_⟩
          walk_at "go"
          refine ⟨x1, (i : Int) + 1, -1, f, downF i f, rfl, rd, by decide, by decide, (down_eq i f).1, (down_eq i f).2, fun I2 t s' ht => ?_⟩
          exact hC _ _ _ s' ht (by rw [take_snoc gf, List.map_append, List.map_append]; rfl)
        rw [ul, List.take_length] at hps
        walk_at "go"
        refine ⟨D23, ps, rfl, .inl ⟨SqL.at hP23, fun t24 n24 => ?_⟩⟩
        have s24 := same_new (o := .tup ps) n24
        have s1924 := s1922.trans (s23.trans s24)
        refine ⟨finD (fs.map (downF i)), finD (fs.map (downF i)), .tup ((Tx.of s1924).seq hgp) (Dp.sameAll s1924 _ _ hgs), .tup SqT.new (Dp.sameAll s24 _ _ hps), shaped_fins _, shaped_fins _, ?_⟩
        rw [eqv_self (shaped_fins _)]
        have hW24 := hW19.same s1924
        obtain ⟨dx4, l4, f4', xs4, hx4, _⟩ := id hW24.arc
        walk_at "go"
        refine g_meth ?_
        walk_at "go"
        refine ⟨x, dx4, _, rfl, hx4, rfl, ?_⟩
        walk_at "go"
        refine ⟨x, pa, n, _, _, _, rfl, hW24.arc, fun H25 kx25 hA25 => ?_⟩
        obtain ⟨hW25, ta25⟩ := hW24.kx kx25 hA25
        have taE := (ta18.trans (Ta.of (Tx.of (s19.trans s1924)))).trans ta25
        obtain ⟨dx5, l5, f5', xs5, hx5, _⟩ := id hW25.arc
        walk_at "go"
        refine g_meth ?_
        walk_at "go"
        refine ⟨x, dx5, _, rfl, hx5, rfl, ?_⟩
        walk_at "go"
        refine ⟨x, pa, n, _, _, rfl, hW25.arc, fun H26 t26 l26 f26 s26 ht26 hl26 hf26 => ?_⟩
        have hrv26 := Dp.same s26 _ _ (Dp.ta taE _ _ (im_rowsD _) hrv17)
        have hfv26 := Dp.same s26 _ _ (Dp.ta taE _ _ (im_finD _) hfv17)
        walk_at "go"
        intro z3 dz3 nz3 ndz3 nzd3
        refine mk_log hrv26 ⟨n1, n12, by omega, hg⟩ nz3 ndz3 nzd3 fun H27 s27 hz3 => ?_
        walk_at "go"
        refine ⟨by show 2 ≤ sizeLine; decide, fun t28 n28 => ?_⟩
        have s28 := same_new (o := .tup [.ref z3, .ref t10]) n28
        have s2728 := s27.trans s28
        refine ⟨pair_eq ((Tx.of s2728).seq ht26) (hl26.tx (Tx.of s2728)) (Dp.same s2728 _ _ hf26) SqT.new (hz3.tx (Tx.of s28)) (Dp.same s2728 _ _ hfv26), fun H29 e29 => ?_⟩
        have s29' : Same H25 H29 := s26.trans (s2728.trans e29)
        walk_at "go"
        have e2629 : Same H26 H29 := s2728.trans e29
        exact ⟨_, _, _, _, _, _, rfl, hW25.same s29', Dp.same e2629 _ _ hrv26, Dp.same e2629 _ _ hfv26⟩
      · obtain ⟨y8, y9, y10, y11, y12, y13, rfl, hW17, hrv17, hfv17⟩ := hP
        obtain ⟨dx2, l2, f2', xs2, hx2, _⟩ := id hW17.arc
        walk_at "go"
        refine g_meth ?_
        walk_at "go"
        refine ⟨x, dx2, _, rfl, hx2, rfl, ?_⟩
        walk_at "go"
        refine ⟨x, pa, n, past, _, rfl, hW17.arc, ?_⟩
        obtain ⟨_, zs, e, hzp, hza⟩ := of_tup hrv17
        cases e
        have zl := DpAll.len hza
        rw [List.length_map] at zl
        obtain ⟨_, us, e, hu, hb⟩ := of_tup hfv17
        cases e
        have ul := DpAll.len hb
        rw [List.length_map] at ul
        walk_at "go"
        refine ⟨_, _, rfl, .inr hzp, ?_⟩
        walk_at "go"
        refine ⟨_, _, rfl, .inr hu, ?_⟩
        walk_at "go"
        rw [decide_eq_true (show ((past.length : Nat) : Int) = ((zs.length : Nat) : Int) + ((us.length : Nat) : Int) by omega)]
        exact q _

end

set_option maxHeartbeats 0 in
theorem all_mk {l : PySem.W.OpenLaw} {w : World} {K : PySem.W.Frag} {h : Heap} {mg : Str → Option Value} {fa : Addr} (X : K.In h) (G : h.Ns mainGlobals mg) (hfa : mg "law" = some (.ref fa))
    {f0 : Addr} {od0 an0 : Option Addr} {sl0 : Array (Option Value)} {oc0 kV0 dc0 pm0 cd0 ct0 : Value}
    (a0 : PySem.W.nsIn K mainGlobals "is_integer" = some (some (.ref f0))) (l0 : K.lookup f0 = some ⟨oc0, od0, .func (PySem.W.fnOf "is_integer" "is_integer" (defArgs s_is_integer) (defBody s_is_integer) (defScope s_is_integer) .none kV0 dc0 pm0 an0 cd0 ct0), sl0⟩) (c0 : PySem.W.codeIn K cd0 "is_integer" = true) (k0 : PySem.W.keepIn K (.ref f0) = true)
    {f1 : Addr} {od1 an1 : Option Addr} {sl1 : Array (Option Value)} {oc1 kV1 dc1 pm1 cd1 ct1 : Value}
    (a1 : PySem.W.nsIn K mainGlobals "is_between" = some (some (.ref f1))) (l1 : K.lookup f1 = some ⟨oc1, od1, .func (PySem.W.fnOf "is_between" "is_between" (defArgs s_is_between) (defBody s_is_between) (defScope s_is_between) .none kV1 dc1 pm1 an1 cd1 ct1), sl1⟩) (c1 : PySem.W.codeIn K cd1 "is_between" = true) (k1 : PySem.W.keepIn K (.ref f1) = true)
    {f2 : Addr} {od2 an2 : Option Addr} {sl2 : Array (Option Value)} {oc2 kV2 dc2 pm2 cd2 ct2 : Value}
    (a2 : PySem.W.nsIn K mainGlobals "is_number" = some (some (.ref f2))) (l2 : K.lookup f2 = some ⟨oc2, od2, .func (PySem.W.fnOf "is_number" "is_number" (defArgs s_is_number) (defBody s_is_number) (defScope s_is_number) .none kV2 dc2 pm2 an2 cd2 ct2), sl2⟩) (c2 : PySem.W.codeIn K cd2 "is_number" = true) (k2 : PySem.W.keepIn K (.ref f2) = true)
    {f3 : Addr} {od3 an3 : Option Addr} {sl3 : Array (Option Value)} {oc3 kV3 dc3 pm3 cd3 ct3 : Value}
    (a3 : PySem.W.nsIn K mainGlobals "is_tuple_of" = some (some (.ref f3))) (l3 : K.lookup f3 = some ⟨oc3, od3, .func (PySem.W.fnOf "is_tuple_of" "is_tuple_of" (defArgs s_is_tuple_of) (defBody s_is_tuple_of) (defScope s_is_tuple_of) .none kV3 dc3 pm3 an3 cd3 ct3), sl3⟩) (c3 : PySem.W.codeIn K cd3 "is_tuple_of" = true) (k3 : PySem.W.keepIn K (.ref f3) = true)
    {f4 : Addr} {od4 an4 : Option Addr} {sl4 : Array (Option Value)} {oc4 kV4 dc4 pm4 cd4 ct4 : Value}
    (a4 : PySem.W.nsIn K mainGlobals "are_numbers" = some (some (.ref f4))) (l4 : K.lookup f4 = some ⟨oc4, od4, .func (PySem.W.fnOf "are_numbers" "are_numbers" (defArgs s_are_numbers) (defBody s_are_numbers) (defScope s_are_numbers) .none kV4 dc4 pm4 an4 cd4 ct4), sl4⟩) (c4 : PySem.W.codeIn K cd4 "are_numbers" = true) (k4 : PySem.W.keepIn K (.ref f4) = true)
    {f5 : Addr} {od5 an5 : Option Addr} {sl5 : Array (Option Value)} {oc5 kV5 dc5 pm5 cd5 ct5 : Value}
    (a5 : PySem.W.nsIn K mainGlobals "is_find" = some (some (.ref f5))) (l5 : K.lookup f5 = some ⟨oc5, od5, .func (PySem.W.fnOf "is_find" "is_find" (defArgs s_is_find) (defBody s_is_find) (defScope s_is_find) .none kV5 dc5 pm5 an5 cd5 ct5), sl5⟩) (c5 : PySem.W.codeIn K cd5 "is_find" = true) (k5 : PySem.W.keepIn K (.ref f5) = true)
    {f6 : Addr} {od6 an6 : Option Addr} {sl6 : Array (Option Value)} {oc6 kV6 dc6 pm6 cd6 ct6 : Value}
    (a6 : PySem.W.nsIn K mainGlobals "is_copying" = some (some (.ref f6))) (l6 : K.lookup f6 = some ⟨oc6, od6, .func (PySem.W.fnOf "is_copying" "is_copying" (defArgs s_is_copying) (defBody s_is_copying) (defScope s_is_copying) .none kV6 dc6 pm6 an6 cd6 ct6), sl6⟩) (c6 : PySem.W.codeIn K cd6 "is_copying" = true) (k6 : PySem.W.keepIn K (.ref f6) = true)
    {f7 : Addr} {od7 an7 : Option Addr} {sl7 : Array (Option Value)} {oc7 kV7 dc7 pm7 cd7 ct7 : Value}
    (a7 : PySem.W.nsIn K mainGlobals "is_row" = some (some (.ref f7))) (l7 : K.lookup f7 = some ⟨oc7, od7, .func (PySem.W.fnOf "is_row" "is_row" (defArgs s_is_row) (defBody s_is_row) (defScope s_is_row) .none kV7 dc7 pm7 an7 cd7 ct7), sl7⟩) (c7 : PySem.W.codeIn K cd7 "is_row" = true) (k7 : PySem.W.keepIn K (.ref f7) = true)
    {f8 : Addr} {od8 an8 : Option Addr} {sl8 : Array (Option Value)} {oc8 kV8 dc8 pm8 cd8 ct8 : Value}
    (a8 : PySem.W.nsIn K mainGlobals "wrong_part" = some (some (.ref f8))) (l8 : K.lookup f8 = some ⟨oc8, od8, .func (PySem.W.fnOf "wrong_part" "wrong_part" (defArgs s_wrong_part) (defBody s_wrong_part) (defScope s_wrong_part) .none kV8 dc8 pm8 an8 cd8 ct8), sl8⟩) (c8 : PySem.W.codeIn K cd8 "wrong_part" = true) (k8 : PySem.W.keepIn K (.ref f8) = true)
    {f9 : Addr} {od9 an9 : Option Addr} {sl9 : Array (Option Value)} {oc9 kV9 dc9 pm9 cd9 ct9 : Value}
    (a9 : PySem.W.nsIn K mainGlobals "check_find" = some (some (.ref f9))) (l9 : K.lookup f9 = some ⟨oc9, od9, .func (PySem.W.fnOf "check_find" "check_find" (defArgs s_check_find) (defBody s_check_find) (defScope s_check_find) .none kV9 dc9 pm9 an9 cd9 ct9), sl9⟩) (c9 : PySem.W.codeIn K cd9 "check_find" = true) (k9 : PySem.W.keepIn K (.ref f9) = true)
    {f10 : Addr} {od10 an10 : Option Addr} {sl10 : Array (Option Value)} {oc10 kV10 dc10 pm10 cd10 ct10 : Value}
    (a10 : PySem.W.nsIn K mainGlobals "check_row" = some (some (.ref f10))) (l10 : K.lookup f10 = some ⟨oc10, od10, .func (PySem.W.fnOf "check_row" "check_row" (defArgs s_check_row) (defBody s_check_row) (defScope s_check_row) .none kV10 dc10 pm10 an10 cd10 ct10), sl10⟩) (c10 : PySem.W.codeIn K cd10 "check_row" = true) (k10 : PySem.W.keepIn K (.ref f10) = true)
    {f11 : Addr} {od11 an11 : Option Addr} {sl11 : Array (Option Value)} {oc11 kV11 dc11 pm11 cd11 ct11 : Value}
    {C_Log : Addr}
    (a11 : PySem.W.findIn K (.ref C_Log) "__init__" = some (some (.ref f11))) (i11 : PySem.W.isFn K (.ref f11) = true) (l11 : K.lookup f11 = some ⟨oc11, od11, .func (PySem.W.fnOf "__init__" "Log.__init__" (defArgs s_Log_init) (defBody s_Log_init) (defScope s_Log_init) .none kV11 dc11 pm11 an11 cd11 ct11), sl11⟩) (c11 : PySem.W.codeIn K cd11 "Log.__init__" = true) (k11 : PySem.W.keepIn K (.ref f11) = true)
    {f12 : Addr} {od12 an12 : Option Addr} {sl12 : Array (Option Value)} {oc12 kV12 dc12 pm12 cd12 ct12 : Value}

    (a12 : PySem.W.findIn K (.ref C_Log) "__eq__" = some (some (.ref f12))) (i12 : PySem.W.isFn K (.ref f12) = true) (l12 : K.lookup f12 = some ⟨oc12, od12, .func (PySem.W.fnOf "__eq__" "Log.__eq__" (defArgs s_Log___eq) (defBody s_Log___eq) (defScope s_Log___eq) .none kV12 dc12 pm12 an12 cd12 ct12), sl12⟩) (c12 : PySem.W.codeIn K cd12 "Log.__eq__" = true) (k12 : PySem.W.keepIn K (.ref f12) = true)
    {f13 : Addr} {od13 an13 : Option Addr} {sl13 : Array (Option Value)} {oc13 kV13 dc13 pm13 cd13 ct13 : Value}
    (a13 : PySem.W.nsIn K mainGlobals "log_of_any_size" = some (some (.ref f13))) (l13 : K.lookup f13 = some ⟨oc13, od13, .func (PySem.W.fnOf "log_of_any_size" "log_of_any_size" (defArgs s_log_of_any_size) (defBody s_log_of_any_size) (defScope s_log_of_any_size) .none kV13 dc13 pm13 an13 cd13 ct13), sl13⟩) (c13 : PySem.W.codeIn K cd13 "log_of_any_size" = true) (k13 : PySem.W.keepIn K (.ref f13) = true)
    {f14 : Addr} {od14 an14 : Option Addr} {sl14 : Array (Option Value)} {oc14 kV14 dc14 pm14 cd14 ct14 : Value}
    (a14 : PySem.W.nsIn K mainGlobals "without" = some (some (.ref f14))) (l14 : K.lookup f14 = some ⟨oc14, od14, .func (PySem.W.fnOf "without" "without" (defArgs s_without) (defBody s_without) (defScope s_without) .none kV14 dc14 pm14 an14 cd14 ct14), sl14⟩) (c14 : PySem.W.codeIn K cd14 "without" = true) (k14 : PySem.W.keepIn K (.ref f14) = true)
    {f15 : Addr} {od15 an15 : Option Addr} {sl15 : Array (Option Value)} {oc15 kV15 dc15 pm15 cd15 ct15 : Value}
    (a15 : PySem.W.nsIn K mainGlobals "with_row" = some (some (.ref f15))) (l15 : K.lookup f15 = some ⟨oc15, od15, .func (PySem.W.fnOf "with_row" "with_row" (defArgs s_with_row) (defBody s_with_row) (defScope s_with_row) .none kV15 dc15 pm15 an15 cd15 ct15), sl15⟩) (c15 : PySem.W.codeIn K cd15 "with_row" = true) (k15 : PySem.W.keepIn K (.ref f15) = true)
    {f16 : Addr} {od16 an16 : Option Addr} {sl16 : Array (Option Value)} {oc16 kV16 dc16 pm16 cd16 ct16 : Value}
    {C_Archive : Addr}
    (a16 : PySem.W.findIn K (.ref C_Archive) "__init__" = some (some (.ref f16))) (i16 : PySem.W.isFn K (.ref f16) = true) (l16 : K.lookup f16 = some ⟨oc16, od16, .func (PySem.W.fnOf "__init__" "Archive.__init__" (defArgs s_Archive_init) (defBody s_Archive_init) (defScope s_Archive_init) .none kV16 dc16 pm16 an16 cd16 ct16), sl16⟩) (c16 : PySem.W.codeIn K cd16 "Archive.__init__" = true) (k16 : PySem.W.keepIn K (.ref f16) = true)
    {f17 : Addr} {od17 an17 : Option Addr} {sl17 : Array (Option Value)} {oc17 kV17 dc17 pm17 cd17 ct17 : Value}

    (a17 : PySem.W.findIn K (.ref C_Archive) "change" = some (some (.ref f17))) (i17 : PySem.W.isFn K (.ref f17) = true) (l17 : K.lookup f17 = some ⟨oc17, od17, .func (PySem.W.fnOf "change" "Archive.change" (defArgs s_Archive_change) (defBody s_Archive_change) (defScope s_Archive_change) .none kV17 dc17 pm17 an17 cd17 ct17), sl17⟩) (c17 : PySem.W.codeIn K cd17 "Archive.change" = true) (k17 : PySem.W.keepIn K (.ref f17) = true)
    {f18 : Addr} {od18 an18 : Option Addr} {sl18 : Array (Option Value)} {oc18 kV18 dc18 pm18 cd18 ct18 : Value}

    (a18 : PySem.W.findIn K (.ref C_Archive) "put" = some (some (.ref f18))) (i18 : PySem.W.isFn K (.ref f18) = true) (l18 : K.lookup f18 = some ⟨oc18, od18, .func (PySem.W.fnOf "put" "Archive.put" (defArgs s_Archive_put) (defBody s_Archive_put) (defScope s_Archive_put) .none kV18 dc18 pm18 an18 cd18 ct18), sl18⟩) (c18 : PySem.W.codeIn K cd18 "Archive.put" = true) (k18 : PySem.W.keepIn K (.ref f18) = true)
    {f19 : Addr} {od19 an19 : Option Addr} {sl19 : Array (Option Value)} {oc19 kV19 dc19 pm19 cd19 ct19 : Value}

    (a19 : PySem.W.findIn K (.ref C_Archive) "strike" = some (some (.ref f19))) (i19 : PySem.W.isFn K (.ref f19) = true) (l19 : K.lookup f19 = some ⟨oc19, od19, .func (PySem.W.fnOf "strike" "Archive.strike" (defArgs s_Archive_strike) (defBody s_Archive_strike) (defScope s_Archive_strike) .none kV19 dc19 pm19 an19 cd19 ct19), sl19⟩) (c19 : PySem.W.codeIn K cd19 "Archive.strike" = true) (k19 : PySem.W.keepIn K (.ref f19) = true)
    {f20 : Addr} {od20 an20 : Option Addr} {sl20 : Array (Option Value)} {oc20 kV20 dc20 pm20 cd20 ct20 : Value}

    (a20 : PySem.W.findIn K (.ref C_Archive) "show" = some (some (.ref f20))) (i20 : PySem.W.isFn K (.ref f20) = true) (l20 : K.lookup f20 = some ⟨oc20, od20, .func (PySem.W.fnOf "show" "Archive.show" (defArgs s_Archive_show) (defBody s_Archive_show) (defScope s_Archive_show) .none kV20 dc20 pm20 an20 cd20 ct20), sl20⟩) (c20 : PySem.W.codeIn K cd20 "Archive.show" = true) (k20 : PySem.W.keepIn K (.ref f20) = true)
    {f21 : Addr} {od21 an21 : Option Addr} {sl21 : Array (Option Value)} {oc21 kV21 dc21 pm21 cd21 ct21 : Value}

    (a21 : PySem.W.findIn K (.ref C_Archive) "now" = some (some (.ref f21))) (i21 : PySem.W.isFn K (.ref f21) = true) (l21 : K.lookup f21 = some ⟨oc21, od21, .func (PySem.W.fnOf "now" "Archive.now" (defArgs s_Archive_now) (defBody s_Archive_now) (defScope s_Archive_now) .none kV21 dc21 pm21 an21 cd21 ct21), sl21⟩) (c21 : PySem.W.codeIn K cd21 "Archive.now" = true) (k21 : PySem.W.keepIn K (.ref f21) = true)
    {f22 : Addr} {od22 an22 : Option Addr} {sl22 : Array (Option Value)} {oc22 kV22 dc22 pm22 cd22 ct22 : Value}

    (a22 : PySem.W.findIn K (.ref C_Archive) "back" = some (some (.ref f22))) (i22 : PySem.W.isFn K (.ref f22) = true) (l22 : K.lookup f22 = some ⟨oc22, od22, .func (PySem.W.fnOf "back" "Archive.back" (defArgs s_Archive_back) (defBody s_Archive_back) (defScope s_Archive_back) .none kV22 dc22 pm22 an22 cd22 ct22), sl22⟩) (c22 : PySem.W.codeIn K cd22 "Archive.back" = true) (k22 : PySem.W.keepIn K (.ref f22) = true)
    {f23 : Addr} {od23 an23 : Option Addr} {sl23 : Array (Option Value)} {oc23 kV23 dc23 pm23 cd23 ct23 : Value}

    (a23 : PySem.W.findIn K (.ref C_Archive) "steps" = some (some (.ref f23))) (i23 : PySem.W.isFn K (.ref f23) = true) (l23 : K.lookup f23 = some ⟨oc23, od23, .func (PySem.W.fnOf "steps" "Archive.steps" (defArgs s_Archive_steps) (defBody s_Archive_steps) (defScope s_Archive_steps) .none kV23 dc23 pm23 an23 cd23 ct23), sl23⟩) (c23 : PySem.W.codeIn K cd23 "Archive.steps" = true) (k23 : PySem.W.keepIn K (.ref f23) = true)
    {f24 : Addr} {od24 an24 : Option Addr} {sl24 : Array (Option Value)} {oc24 kV24 dc24 pm24 cd24 ct24 : Value}
    (a24 : PySem.W.nsIn K mainGlobals "is_doing" = some (some (.ref f24))) (l24 : K.lookup f24 = some ⟨oc24, od24, .func (PySem.W.fnOf "is_doing" "is_doing" (defArgs s_is_doing) (defBody s_is_doing) (defScope s_is_doing) .none kV24 dc24 pm24 an24 cd24 ct24), sl24⟩) (c24 : PySem.W.codeIn K cd24 "is_doing" = true) (k24 : PySem.W.keepIn K (.ref f24) = true)
    {f25 : Addr} {od25 an25 : Option Addr} {sl25 : Array (Option Value)} {oc25 kV25 dc25 pm25 cd25 ct25 : Value}
    (a25 : PySem.W.nsIn K mainGlobals "check_doing" = some (some (.ref f25))) (l25 : K.lookup f25 = some ⟨oc25, od25, .func (PySem.W.fnOf "check_doing" "check_doing" (defArgs s_check_doing) (defBody s_check_doing) (defScope s_check_doing) .none kV25 dc25 pm25 an25 cd25 ct25), sl25⟩) (c25 : PySem.W.codeIn K cd25 "check_doing" = true) (k25 : PySem.W.keepIn K (.ref f25) = true)
    {f26 : Addr} {od26 an26 : Option Addr} {sl26 : Array (Option Value)} {oc26 kV26 dc26 pm26 cd26 ct26 : Value}
    (a26 : PySem.W.nsIn K mainGlobals "all_sheets" = some (some (.ref f26))) (l26 : K.lookup f26 = some ⟨oc26, od26, .func (PySem.W.fnOf "all_sheets" "all_sheets" (defArgs s_all_sheets) (defBody s_all_sheets) (defScope s_all_sheets) .none kV26 dc26 pm26 an26 cd26 ct26), sl26⟩) (c26 : PySem.W.codeIn K cd26 "all_sheets" = true) (k26 : PySem.W.keepIn K (.ref f26) = true)
    {f27 : Addr} {od27 an27 : Option Addr} {sl27 : Array (Option Value)} {oc27 kV27 dc27 pm27 cd27 ct27 : Value}
    (a27 : PySem.W.nsIn K mainGlobals "_law_dice" = some (some (.ref f27))) (l27 : K.lookup f27 = some ⟨oc27, od27, .func (PySem.W.fnOf "_law_dice" "_law_dice" (defArgs s_law_dice) (defBody s_law_dice) (defScope s_law_dice) .none kV27 dc27 pm27 an27 cd27 ct27), sl27⟩) (c27 : PySem.W.codeIn K cd27 "_law_dice" = true) (k27 : PySem.W.keepIn K (.ref f27) = true)
    {f28 : Addr} {od28 an28 : Option Addr} {sl28 : Array (Option Value)} {oc28 kV28 dc28 pm28 cd28 ct28 : Value}
    (a28 : PySem.W.nsIn K mainGlobals "_law_draw" = some (some (.ref f28))) (l28 : K.lookup f28 = some ⟨oc28, od28, .func (PySem.W.fnOf "_law_draw" "_law_draw" (defArgs s_law_draw) (defBody s_law_draw) (defScope s_law_draw) .none kV28 dc28 pm28 an28 cd28 ct28), sl28⟩) (c28 : PySem.W.codeIn K cd28 "_law_draw" = true) (k28 : PySem.W.keepIn K (.ref f28) = true)
    {f29 : Addr} {od29 an29 : Option Addr} {sl29 : Array (Option Value)} {oc29 kV29 dc29 pm29 cd29 ct29 : Value}
    (a29 : PySem.W.nsIn K mainGlobals "_law_row" = some (some (.ref f29))) (l29 : K.lookup f29 = some ⟨oc29, od29, .func (PySem.W.fnOf "_law_row" "_law_row" (defArgs s_law_row) (defBody s_law_row) (defScope s_law_row) .none kV29 dc29 pm29 an29 cd29 ct29), sl29⟩) (c29 : PySem.W.codeIn K cd29 "_law_row" = true) (k29 : PySem.W.keepIn K (.ref f29) = true)
    {f30 : Addr} {od30 an30 : Option Addr} {sl30 : Array (Option Value)} {oc30 kV30 dc30 pm30 cd30 ct30 : Value}
    (a30 : PySem.W.nsIn K mainGlobals "_law_rows" = some (some (.ref f30))) (l30 : K.lookup f30 = some ⟨oc30, od30, .func (PySem.W.fnOf "_law_rows" "_law_rows" (defArgs s_law_rows) (defBody s_law_rows) (defScope s_law_rows) .none kV30 dc30 pm30 an30 cd30 ct30), sl30⟩) (c30 : PySem.W.codeIn K cd30 "_law_rows" = true) (k30 : PySem.W.keepIn K (.ref f30) = true)
    {f31 : Addr} {od31 an31 : Option Addr} {sl31 : Array (Option Value)} {oc31 kV31 dc31 pm31 cd31 ct31 : Value}
    (a31 : PySem.W.nsIn K mainGlobals "_law_doing" = some (some (.ref f31))) (l31 : K.lookup f31 = some ⟨oc31, od31, .func (PySem.W.fnOf "_law_doing" "_law_doing" (defArgs s_law_doing) (defBody s_law_doing) (defScope s_law_doing) .none kV31 dc31 pm31 an31 cd31 ct31), sl31⟩) (c31 : PySem.W.codeIn K cd31 "_law_doing" = true) (k31 : PySem.W.keepIn K (.ref f31) = true)
    {f32 : Addr} {od32 an32 : Option Addr} {sl32 : Array (Option Value)} {oc32 kV32 dc32 pm32 cd32 ct32 : Value}
    (a32 : PySem.W.nsIn K mainGlobals "_law_led" = some (some (.ref f32))) (l32 : K.lookup f32 = some ⟨oc32, od32, .func (PySem.W.fnOf "_law_led" "_law_led" (defArgs s_law_led) (defBody s_law_led) (defScope s_law_led) .none kV32 dc32 pm32 an32 cd32 ct32), sl32⟩) (c32 : PySem.W.codeIn K cd32 "_law_led" = true) (k32 : PySem.W.keepIn K (.ref f32) = true)
    {f33 : Addr} {od33 an33 : Option Addr} {sl33 : Array (Option Value)} {oc33 kV33 dc33 pm33 cd33 ct33 : Value}
    (a33 : PySem.W.nsIn K mainGlobals "_law_find" = some (some (.ref f33))) (l33 : K.lookup f33 = some ⟨oc33, od33, .func (PySem.W.fnOf "_law_find" "_law_find" (defArgs s_law_find) (defBody s_law_find) (defScope s_law_find) .none kV33 dc33 pm33 an33 cd33 ct33), sl33⟩) (c33 : PySem.W.codeIn K cd33 "_law_find" = true) (k33 : PySem.W.keepIn K (.ref f33) = true)
    {f34 : Addr} {od34 an34 : Option Addr} {sl34 : Array (Option Value)} {oc34 kV34 dc34 pm34 cd34 ct34 : Value}
    (a34 : PySem.W.nsIn K mainGlobals "_law_moved" = some (some (.ref f34))) (l34 : K.lookup f34 = some ⟨oc34, od34, .func (PySem.W.fnOf "_law_moved" "_law_moved" (defArgs s_law_moved) (defBody s_law_moved) (defScope s_law_moved) .none kV34 dc34 pm34 an34 cd34 ct34), sl34⟩) (c34 : PySem.W.codeIn K cd34 "_law_moved" = true) (k34 : PySem.W.keepIn K (.ref f34) = true)
    {f35 : Addr} {od35 an35 : Option Addr} {sl35 : Array (Option Value)} {oc35 kV35 dc35 pm35 cd35 ct35 : Value}
    (a35 : PySem.W.nsIn K mainGlobals "_law_filled" = some (some (.ref f35))) (l35 : K.lookup f35 = some ⟨oc35, od35, .func (PySem.W.fnOf "_law_filled" "_law_filled" (defArgs s_law_filled) (defBody s_law_filled) (defScope s_law_filled) .none kV35 dc35 pm35 an35 cd35 ct35), sl35⟩) (c35 : PySem.W.codeIn K cd35 "_law_filled" = true) (k35 : PySem.W.keepIn K (.ref f35) = true)
    {f36 : Addr} {od36 an36 : Option Addr} {sl36 : Array (Option Value)} {oc36 kV36 dc36 pm36 cd36 ct36 : Value}
    (a36 : PySem.W.nsIn K mainGlobals "_law_put_right" = some (some (.ref f36))) (l36 : K.lookup f36 = some ⟨oc36, od36, .func (PySem.W.fnOf "_law_put_right" "_law_put_right" (defArgs s_law_put_right) (defBody s_law_put_right) (defScope s_law_put_right) .none kV36 dc36 pm36 an36 cd36 ct36), sl36⟩) (c36 : PySem.W.codeIn K cd36 "_law_put_right" = true) (k36 : PySem.W.keepIn K (.ref f36) = true)
    {f37 : Addr} {od37 an37 : Option Addr} {sl37 : Array (Option Value)} {oc37 kV37 dc37 pm37 cd37 ct37 : Value}
    (a37 : PySem.W.nsIn K mainGlobals "law" = some (some (.ref f37))) (l37 : K.lookup f37 = some ⟨oc37, od37, .func (PySem.W.fnOf "law" "law" (defArgs s_law) (defBody s_law) (defScope s_law) .none kV37 dc37 pm37 an37 cd37 ct37), sl37⟩) (c37 : PySem.W.codeIn K cd37 "law" = true) (k37 : PySem.W.keepIn K (.ref f37) = true)
    (gc_Log : PySem.W.nsIn K mainGlobals "Log" = some (some (.ref C_Log)))
    (pg_Log : PySem.W.plainGet K C_Log Str.empty = true) (hd_Log : PySem.W.hasDictIn K C_Log = true) (po_Log : PySem.W.plainOver K C_Log = true) (sa_Log : PySem.W.findIn K (.ref C_Log) "__setattr__" = some (some (.builtin "object.__setattr__"))) (mk_Log : PySem.W.makesIn K C_Log = true) (kc_Log : PySem.W.keepIn K (.ref C_Log) = true)
    (na_Log_offices : PySem.W.findIn K (.ref C_Log) "offices" = some none)
    (na_Log_rows : PySem.W.findIn K (.ref C_Log) "rows" = some none)
    (ia_Log : PySem.W.findIn K (.ref C_Log) "__class__" = some (some (.builtin "object.__class__"))) (ib_Log : PySem.W.specialIn K (.builtin "object.__class__") "__get__" = some (some (.builtin "getset_descriptor.__get__"))) (ic_Log : PySem.W.takesIn K (.builtin "object.__class__") = some true) (id_Log : PySem.W.mroIn K C_Log (.type "object") = some true)
    (gc_Archive : PySem.W.nsIn K mainGlobals "Archive" = some (some (.ref C_Archive)))
    (pg_Archive : PySem.W.plainGet K C_Archive Str.empty = true) (hd_Archive : PySem.W.hasDictIn K C_Archive = true) (po_Archive : PySem.W.plainOver K C_Archive = true) (sa_Archive : PySem.W.findIn K (.ref C_Archive) "__setattr__" = some (some (.builtin "object.__setattr__"))) (mk_Archive : PySem.W.makesIn K C_Archive = true) (kc_Archive : PySem.W.keepIn K (.ref C_Archive) = true)
    (na_Archive_log : PySem.W.findIn K (.ref C_Archive) "log" = some none)
    (na_Archive_finds : PySem.W.findIn K (.ref C_Archive) "finds" = some none)
    (na_Archive_past : PySem.W.findIn K (.ref C_Archive) "past" = some none)
    (ne_Log : PySem.W.findIn K (.ref C_Log) "__ne__" = some (some (.builtin "object.__ne__")))
    (nq : C_Log ≠ C_Archive)
    {t_MOST_OFFICES : Tok} (v_MOST_OFFICES : PySem.W.nsIn K mainGlobals "MOST_OFFICES" = some (some (.int 12 t_MOST_OFFICES)))
    {t_MOST_ROWS : Tok} (v_MOST_ROWS : PySem.W.nsIn K mainGlobals "MOST_ROWS" = some (some (.int 60 t_MOST_ROWS)))
    {t_MOST_FINDS : Tok} (v_MOST_FINDS : PySem.W.nsIn K mainGlobals "MOST_FINDS" = some (some (.int 40 t_MOST_FINDS)))
    (z0 : PySem.W.nsIn K mainGlobals "isinstance" = some none)
    (z1 : PySem.W.nsIn K mainGlobals "int" = some none)
    (z2 : PySem.W.nsIn K mainGlobals "bool" = some none)
    (z3 : PySem.W.nsIn K mainGlobals "tuple" = some none)
    (z4 : PySem.W.nsIn K mainGlobals "list" = some none)
    (z5 : PySem.W.nsIn K mainGlobals "len" = some none)
    (z6 : PySem.W.nsIn K mainGlobals "abs" = some none)
    (z7 : PySem.W.nsIn K mainGlobals "all" = some none)
    (z8 : PySem.W.nsIn K mainGlobals "zip" = some none)
    (z9 : PySem.W.nsIn K mainGlobals "range" = some none)
    (z10 : PySem.W.nsIn K mainGlobals "enumerate" = some none)
    : ∃ fd : FuncData, (∀ (s : Shared) (v : Value), BindsTo s fd ⟨[v], []⟩ [("_law_script", v)]) ∧ ∀ base : Heap, K.In base → base.Ns mainGlobals mg → FnOk l.prog w K mg base CX0 lawLevel fa fd ["_law_script"] (sp_law K) := by
  have e := hfa.symm.trans (PySem.W.mg_of X G a37)
  cases e
  have F0 := fun_mk (st := s_is_integer) l0 c0 k0
  have b0 := F0.binds (ps := ["thing"]) fun _ _ _ _ _ _ us hl => match us, hl with | [_], _ => rfl
  have F1 := fun_mk (st := s_is_between) l1 c1 k1
  have b1 := F1.binds (ps := ["thing", "least", "most"]) fun _ _ _ _ _ _ us hl => match us, hl with | [_, _, _], _ => rfl
  have F2 := fun_mk (st := s_is_number) l2 c2 k2
  have b2 := F2.binds (ps := ["thing", "many"]) fun _ _ _ _ _ _ us hl => match us, hl with | [_, _], _ => rfl
  have F3 := fun_mk (st := s_is_tuple_of) l3 c3 k3
  have b3 := F3.binds (ps := ["thing", "many"]) fun _ _ _ _ _ _ us hl => match us, hl with | [_, _], _ => rfl
  have F4 := fun_mk (st := s_are_numbers) l4 c4 k4
  have b4 := F4.binds (ps := ["things", "many"]) fun _ _ _ _ _ _ us hl => match us, hl with | [_, _], _ => rfl
  have F5 := fun_mk (st := s_is_find) l5 c5 k5
  have b5 := F5.binds (ps := ["log", "thing"]) fun _ _ _ _ _ _ us hl => match us, hl with | [_, _], _ => rfl
  have F6 := fun_mk (st := s_is_copying) l6 c6 k6
  have b6 := F6.binds (ps := ["offices", "thing"]) fun _ _ _ _ _ _ us hl => match us, hl with | [_, _], _ => rfl
  have F7 := fun_mk (st := s_is_row) l7 c7 k7
  have b7 := F7.binds (ps := ["offices", "thing"]) fun _ _ _ _ _ _ us hl => match us, hl with | [_, _], _ => rfl
  have F8 := fun_mk (st := s_wrong_part) l8 c8 k8
  have b8 := F8.binds (ps := ["offices", "rows", "is_right"]) fun _ _ _ _ _ _ us hl => match us, hl with | [_, _, _], _ => rfl
  have F9 := fun_mk (st := s_check_find) l9 c9 k9
  have b9 := F9.binds (ps := ["log", "find"]) fun _ _ _ _ _ _ us hl => match us, hl with | [_, _], _ => rfl
  have F10 := fun_mk (st := s_check_row) l10 c10 k10
  have b10 := F10.binds (ps := ["log", "row"]) fun _ _ _ _ _ _ us hl => match us, hl with | [_, _], _ => rfl
  have F11 := fun_mk (st := s_Log_init) l11 c11 k11
  have b11 := F11.binds (ps := ["self", "offices", "rows"]) fun _ _ _ _ _ _ us hl => match us, hl with | [_, _, _], _ => rfl
  have F12 := fun_mk (st := s_Log___eq) l12 c12 k12
  have b12 := F12.binds (ps := ["self", "other"]) fun _ _ _ _ _ _ us hl => match us, hl with | [_, _], _ => rfl
  have F13 := fun_mk (st := s_log_of_any_size) l13 c13 k13
  have b13 := F13.binds (ps := ["offices", "rows"]) fun _ _ _ _ _ _ us hl => match us, hl with | [_, _], _ => rfl
  have F14 := fun_mk (st := s_without) l14 c14 k14
  have b14 := F14.binds (ps := ["log", "row"]) fun _ _ _ _ _ _ us hl => match us, hl with | [_, _], _ => rfl
  have F15 := fun_mk (st := s_with_row) l15 c15 k15
  have b15 := F15.binds (ps := ["log", "at", "row"]) fun _ _ _ _ _ _ us hl => match us, hl with | [_, _, _], _ => rfl
  have F16 := fun_mk (st := s_Archive_init) l16 c16 k16
  have b16 := F16.binds (ps := ["self", "offices"]) fun _ _ _ _ _ _ us hl => match us, hl with | [_, _], _ => rfl
  have F17 := fun_mk (st := s_Archive_change) l17 c17 k17
  have b17 := F17.binds (ps := ["self", "log", "finds"]) fun _ _ _ _ _ _ us hl => match us, hl with | [_, _, _], _ => rfl
  have F18 := fun_mk (st := s_Archive_put) l18 c18 k18
  have b18 := F18.binds (ps := ["self", "at", "row"]) fun _ _ _ _ _ _ us hl => match us, hl with | [_, _, _], _ => rfl
  have F19 := fun_mk (st := s_Archive_strike) l19 c19 k19
  have b19 := F19.binds (ps := ["self", "number"]) fun _ _ _ _ _ _ us hl => match us, hl with | [_, _], _ => rfl
  have F20 := fun_mk (st := s_Archive_show) l20 c20 k20
  have b20 := F20.binds (ps := ["self", "find"]) fun _ _ _ _ _ _ us hl => match us, hl with | [_, _], _ => rfl
  have F21 := fun_mk (st := s_Archive_now) l21 c21 k21
  have b21 := F21.binds (ps := ["self"]) fun _ _ _ _ _ _ us hl => match us, hl with | [_], _ => rfl
  have F22 := fun_mk (st := s_Archive_back) l22 c22 k22
  have b22 := F22.binds (ps := ["self"]) fun _ _ _ _ _ _ us hl => match us, hl with | [_], _ => rfl
  have F23 := fun_mk (st := s_Archive_steps) l23 c23 k23
  have b23 := F23.binds (ps := ["self"]) fun _ _ _ _ _ _ us hl => match us, hl with | [_], _ => rfl
  have F24 := fun_mk (st := s_is_doing) l24 c24 k24
  have b24 := F24.binds (ps := ["log", "thing"]) fun _ _ _ _ _ _ us hl => match us, hl with | [_, _], _ => rfl
  have F25 := fun_mk (st := s_check_doing) l25 c25 k25
  have b25 := F25.binds (ps := ["log", "doing"]) fun _ _ _ _ _ _ us hl => match us, hl with | [_, _], _ => rfl
  have F26 := fun_mk (st := s_all_sheets) l26 c26 k26
  have b26 := F26.binds (ps := ["log", "doing"]) fun _ _ _ _ _ _ us hl => match us, hl with | [_, _], _ => rfl
  have F27 := fun_mk (st := s_law_dice) l27 c27 k27
  have b27 := F27.binds (ps := ["_law_script"]) fun _ _ _ _ _ _ us hl => match us, hl with | [_], _ => rfl
  have F28 := fun_mk (st := s_law_draw) l28 c28 k28
  have b28 := F28.binds (ps := ["_law_dice_here", "_law_sides"]) fun _ _ _ _ _ _ us hl => match us, hl with | [_, _], _ => rfl
  have F29 := fun_mk (st := s_law_row) l29 c29 k29
  have b29 := F29.binds (ps := ["_law_dice_here", "_law_offices_here", "_law_share"]) fun _ _ _ _ _ _ us hl => match us, hl with | [_, _, _], _ => rfl
  have F30 := fun_mk (st := s_law_rows) l30 c30 k30
  have b30 := F30.binds (ps := ["_law_dice_here", "_law_offices_here", "_law_many"]) fun _ _ _ _ _ _ us hl => match us, hl with | [_, _, _], _ => rfl
  have F31 := fun_mk (st := s_law_doing) l31 c31 k31
  have b31 := F31.binds (ps := ["_law_dice_here", "_law_rows_here"]) fun _ _ _ _ _ _ us hl => match us, hl with | [_, _], _ => rfl
  have F32 := fun_mk (st := s_law_led) l32 c32 k32
  have b32 := F32.binds (ps := ["_law_offices_here", "_law_rows_here", "_law_doing_here"]) fun _ _ _ _ _ _ us hl => match us, hl with | [_, _, _], _ => rfl
  have F33 := fun_mk (st := s_law_find) l33 c33 k33
  have b33 := F33.binds (ps := ["_law_dice_here", "_law_offices_here", "_law_led_here"]) fun _ _ _ _ _ _ us hl => match us, hl with | [_, _, _], _ => rfl
  have F34 := fun_mk (st := s_law_moved) l34 c34 k34
  have b34 := F34.binds (ps := ["_law_find_here", "_law_least", "_law_by"]) fun _ _ _ _ _ _ us hl => match us, hl with | [_, _, _], _ => rfl
  have F35 := fun_mk (st := s_law_filled) l35 c35 k35
  have b35 := F35.binds (ps := ["_law_offices_here", "_law_rows_here", "_law_finds"]) fun _ _ _ _ _ _ us hl => match us, hl with | [_, _, _], _ => rfl
  have F36 := fun_mk (st := s_law_put_right) l36 c36 k36
  have b36 := F36.binds (ps := ["_law_archive", "_law_offices_here", "_law_rows_here", "_law_finds", "_law_at", "_law_row_here", "_law_doing_here"]) fun _ _ _ _ _ _ us hl => match us, hl with | [_, _, _, _, _, _, _], _ => rfl
  have F37 := fun_mk (st := s_law) l37 c37 k37
  have b37 := F37.binds (ps := ["_law_script"]) fun _ _ _ _ _ _ us hl => match us, hl with | [_], _ => rfl
  have T : Txt K mg ⟨f0, _, f1, _, f2, _, f3, _, f4, _, f5, _, f6, _, f7, _, f8, _, f9, _, f10, _, f11, _, f12, _, f13, _, f14, _, f15, _, f16, _, f17, _, f18, _, f19, _, f20, _, f21, _, f22, _, f23, _, f24, _, f25, _, f26, _, f27, _, f28, _, f29, _, f30, _, f31, _, f32, _, f33, _, f34, _, f35, _, f36, _, _, _, C_Log, C_Archive⟩ := ⟨F0, PySem.W.mg_of X G a0, b0, F1, PySem.W.mg_of X G a1, b1, F2, PySem.W.mg_of X G a2, b2, F3, PySem.W.mg_of X G a3, b3, F4, PySem.W.mg_of X G a4, b4, F5, PySem.W.mg_of X G a5, b5, F6, PySem.W.mg_of X G a6, b6, F7, PySem.W.mg_of X G a7, b7, F8, PySem.W.mg_of X G a8, b8, F9, PySem.W.mg_of X G a9, b9, F10, PySem.W.mg_of X G a10, b10, F11, b11, F12, b12, ⟨a12, i12, k12⟩, F13, PySem.W.mg_of X G a13, b13, F14, PySem.W.mg_of X G a14, b14, F15, PySem.W.mg_of X G a15, b15, F16, b16, F17, b17, ⟨a17, i17, k17⟩, F18, b18, ⟨a18, i18, k18⟩, F19, b19, ⟨a19, i19, k19⟩, F20, b20, ⟨a20, i20, k20⟩, F21, b21, ⟨a21, i21, k21⟩, F22, b22, ⟨a22, i22, k22⟩, F23, b23, ⟨a23, i23, k23⟩, F24, PySem.W.mg_of X G a24, b24, F25, PySem.W.mg_of X G a25, b25, F26, PySem.W.mg_of X G a26, b26, F27, PySem.W.mg_of X G a27, b27, F28, PySem.W.mg_of X G a28, b28, F29, PySem.W.mg_of X G a29, b29, F30, PySem.W.mg_of X G a30, b30, F31, PySem.W.mg_of X G a31, b31, F32, PySem.W.mg_of X G a32, b32, F33, PySem.W.mg_of X G a33, b33, F34, PySem.W.mg_of X G a34, b34, F35, PySem.W.mg_of X G a35, b35, F36, PySem.W.mg_of X G a36, b36, F37, PySem.W.mg_of X G a37, b37, PySem.W.mg_of X G gc_Log, ⟨pg_Log, hd_Log, po_Log, sa_Log⟩, na_Log_offices, na_Log_rows, ⟨mk_Log, a11, i11, kc_Log⟩, ⟨⟨pg_Log, hd_Log, po_Log, sa_Log⟩, ia_Log, ib_Log, ic_Log, id_Log, kit_self⟩, PySem.W.mg_of X G gc_Archive, ⟨pg_Archive, hd_Archive, po_Archive, sa_Archive⟩, na_Archive_log, na_Archive_finds, na_Archive_past, ⟨mk_Archive, a16, i16, kc_Archive⟩, ne_Log, nq, ⟨_, PySem.W.mg_of X G v_MOST_OFFICES⟩, ⟨_, PySem.W.mg_of X G v_MOST_ROWS⟩, ⟨_, PySem.W.mg_of X G v_MOST_FINDS⟩, PySem.W.mg_none_of X G z0, PySem.W.mg_none_of X G z1, PySem.W.mg_none_of X G z2, PySem.W.mg_none_of X G z3, PySem.W.mg_none_of X G z4, PySem.W.mg_none_of X G z5, PySem.W.mg_none_of X G z6, PySem.W.mg_none_of X G z7, PySem.W.mg_none_of X G z8, PySem.W.mg_none_of X G z9, PySem.W.mg_none_of X G z10⟩
  exact ⟨_, fun s v => .of_eq rfl, fun base _ _ => ok_law T⟩
end Pf
open PySem PySem.W PyProof.Rows
set_option maxHeartbeats 0 in
theorem PySem.Challenge.cw_takenover_k84_whole_moments_that_are_shi_holds : PySem.Challenge.rw_takenover_k84_whole_moments_that_are_shi.Holds := by
  w_on; o_law; k_head; (case hw => w_witness2)
  k_fill
  refine L2.walk_of (l := PySem.Challenge.rw_takenover_k84_whole_moments_that_are_shi) (n := 63) (k := Pf.lawLevel) (x := "_law_script") (CX := fun _ => L2.CX0) (sp := fun w => Pf.sp_law _) rfl (by decide) rfl ⟨rfl, by decide, by decide⟩ (fun w h Y => PySem.W.kIn_of Y) ?F (fun _ _ a ns hl _ hS => ⟨a, ns, rfl, hS, hl, fun _ => rfl⟩) (fun _ _ _ _ _ h => h)
  case F =>
    intro w mg fa h KX G hmg
    refine' Pf.all_mk KX G hmg ?a0 ?l0 ?c0 ?k0 ?a1 ?l1 ?c1 ?k1 ?a2 ?l2 ?c2 ?k2 ?a3 ?l3 ?c3 ?k3 ?a4 ?l4 ?c4 ?k4 ?a5 ?l5 ?c5 ?k5 ?a6 ?l6 ?c6 ?k6 ?a7 ?l7 ?c7 ?k7 ?a8 ?l8 ?c8 ?k8 ?a9 ?l9 ?c9 ?k9 ?a10 ?l10 ?c10 ?k10 ?a11 ?i11 ?l11 ?c11 ?k11 ?a12 ?i12 ?l12 ?c12 ?k12 ?a13 ?l13 ?c13 ?k13 ?a14 ?l14 ?c14 ?k14 ?a15 ?l15 ?c15 ?k15 ?a16 ?i16 ?l16 ?c16 ?k16 ?a17 ?i17 ?l17 ?c17 ?k17 ?a18 ?i18 ?l18 ?c18 ?k18 ?a19 ?i19 ?l19 ?c19 ?k19 ?a20 ?i20 ?l20 ?c20 ?k20 ?a21 ?i21 ?l21 ?c21 ?k21 ?a22 ?i22 ?l22 ?c22 ?k22 ?a23 ?i23 ?l23 ?c23 ?k23 ?a24 ?l24 ?c24 ?k24 ?a25 ?l25 ?c25 ?k25 ?a26 ?l26 ?c26 ?k26 ?a27 ?l27 ?c27 ?k27 ?a28 ?l28 ?c28 ?k28 ?a29 ?l29 ?c29 ?k29 ?a30 ?l30 ?c30 ?k30 ?a31 ?l31 ?c31 ?k31 ?a32 ?l32 ?c32 ?k32 ?a33 ?l33 ?c33 ?k33 ?a34 ?l34 ?c34 ?k34 ?a35 ?l35 ?c35 ?k35 ?a36 ?l36 ?c36 ?k36 ?a37 ?l37 ?c37 ?k37 ?gc_Log ?pg_Log ?hd_Log ?po_Log ?sa_Log ?mk_Log ?kc_Log ?na_Log_offices ?na_Log_rows ?ia_Log ?ib_Log ?ic_Log ?id_Log ?gc_Archive ?pg_Archive ?hd_Archive ?po_Archive ?sa_Archive ?mk_Archive ?kc_Archive ?na_Archive_log ?na_Archive_finds ?na_Archive_past ?ne_Log ?nq ?v_MOST_OFFICES ?v_MOST_ROWS ?v_MOST_FINDS ?z0 ?z1 ?z2 ?z3 ?z4 ?z5 ?z6 ?z7 ?z8 ?z9 ?z10
    (case gc_Log => k_is); (case gc_Archive => k_is); (case a0 => k_is); (case l0 => k_is); (case c0 => k_is); (case k0 => k_is); (case a1 => k_is); (case l1 => k_is); (case c1 => k_is); (case k1 => k_is); (case a2 => k_is); (case l2 => k_is); (case c2 => k_is); (case k2 => k_is); (case a3 => k_is); (case l3 => k_is); (case c3 => k_is); (case k3 => k_is); (case a4 => k_is); (case l4 => k_is); (case c4 => k_is); (case k4 => k_is); (case a5 => k_is); (case l5 => k_is); (case c5 => k_is); (case k5 => k_is); (case a6 => k_is); (case l6 => k_is); (case c6 => k_is); (case k6 => k_is); (case a7 => k_is); (case l7 => k_is); (case c7 => k_is); (case k7 => k_is); (case a8 => k_is); (case l8 => k_is); (case c8 => k_is); (case k8 => k_is); (case a9 => k_is); (case l9 => k_is); (case c9 => k_is); (case k9 => k_is); (case a10 => k_is); (case l10 => k_is); (case c10 => k_is); (case k10 => k_is); (case a11 => k_is); (case i11 => k_is); (case l11 => k_is); (case c11 => k_is); (case k11 => k_is); (case a12 => k_is); (case i12 => k_is); (case l12 => k_is); (case c12 => k_is); (case k12 => k_is); (case a13 => k_is); (case l13 => k_is); (case c13 => k_is); (case k13 => k_is); (case a14 => k_is); (case l14 => k_is); (case c14 => k_is); (case k14 => k_is); (case a15 => k_is); (case l15 => k_is); (case c15 => k_is); (case k15 => k_is); (case a16 => k_is); (case i16 => k_is); (case l16 => k_is); (case c16 => k_is); (case k16 => k_is); (case a17 => k_is); (case i17 => k_is); (case l17 => k_is); (case c17 => k_is); (case k17 => k_is); (case a18 => k_is); (case i18 => k_is); (case l18 => k_is); (case c18 => k_is); (case k18 => k_is); (case a19 => k_is); (case i19 => k_is); (case l19 => k_is); (case c19 => k_is); (case k19 => k_is); (case a20 => k_is); (case i20 => k_is); (case l20 => k_is); (case c20 => k_is); (case k20 => k_is); (case a21 => k_is); (case i21 => k_is); (case l21 => k_is); (case c21 => k_is); (case k21 => k_is); (case a22 => k_is); (case i22 => k_is); (case l22 => k_is); (case c22 => k_is); (case k22 => k_is); (case a23 => k_is); (case i23 => k_is); (case l23 => k_is); (case c23 => k_is); (case k23 => k_is); (case a24 => k_is); (case l24 => k_is); (case c24 => k_is); (case k24 => k_is); (case a25 => k_is); (case l25 => k_is); (case c25 => k_is); (case k25 => k_is); (case a26 => k_is); (case l26 => k_is); (case c26 => k_is); (case k26 => k_is); (case a27 => k_is); (case l27 => k_is); (case c27 => k_is); (case k27 => k_is); (case a28 => k_is); (case l28 => k_is); (case c28 => k_is); (case k28 => k_is); (case a29 => k_is); (case l29 => k_is); (case c29 => k_is); (case k29 => k_is); (case a30 => k_is); (case l30 => k_is); (case c30 => k_is); (case k30 => k_is); (case a31 => k_is); (case l31 => k_is); (case c31 => k_is); (case k31 => k_is); (case a32 => k_is); (case l32 => k_is); (case c32 => k_is); (case k32 => k_is); (case a33 => k_is); (case l33 => k_is); (case c33 => k_is); (case k33 => k_is); (case a34 => k_is); (case l34 => k_is); (case c34 => k_is); (case k34 => k_is); (case a35 => k_is); (case l35 => k_is); (case c35 => k_is); (case k35 => k_is); (case a36 => k_is); (case l36 => k_is); (case c36 => k_is); (case k36 => k_is); (case a37 => k_is); (case l37 => k_is); (case c37 => k_is); (case k37 => k_is); (case pg_Log => k_is); (case hd_Log => k_is); (case po_Log => k_is); (case sa_Log => k_is); (case mk_Log => k_is); (case kc_Log => k_is); (case na_Log_offices => k_is); (case na_Log_rows => k_is); (case ia_Log => k_is); (case ib_Log => k_is); (case ic_Log => k_is); (case id_Log => k_is); (case pg_Archive => k_is); (case hd_Archive => k_is); (case po_Archive => k_is); (case sa_Archive => k_is); (case mk_Archive => k_is); (case kc_Archive => k_is); (case na_Archive_log => k_is); (case na_Archive_finds => k_is); (case na_Archive_past => k_is); (case ne_Log => k_is); (case nq => decide); (case v_MOST_OFFICES => k_is); (case v_MOST_ROWS => k_is); (case v_MOST_FINDS => k_is); (case z0 => k_is); (case z1 => k_is); (case z2 => k_is); (case z3 => k_is); (case z4 => k_is); (case z5 => k_is); (case z6 => k_is); (case z7 => k_is); (case z8 => k_is); (case z9 => k_is); (case z10 => k_is)
