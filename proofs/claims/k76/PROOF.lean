import PyProof.Rows.All
import Wide.All
import OpenK.AllK
import Wide.FinOn
import HandS.ForMost
import HandS.IsInst
import HandS.Wide
import HandS.TupAny
import HandS.Zip
import HandS.Walk
import HandS.Conv
import HandS.CallLocal
import KE.GoesEnum
import KE.GoesMore
import PyProof.EnumMake
import PyProof.EnumFor
import HandS.OwnEq
import HandS.Codes
import HandS.TupMul
import HandS.Deep
import HandS.Style
import HandS.Iter
import PyProof.ListMulRoad
import PyProof.FactsAll.tuple_2
import HandS.SetFor
import HandS.Strs
import HandS.ForExc
import HandS.ExcInit
import HandS.Dict
import HandS.ExcIs
import HandS.ExcField
import HandS.FStr
import HandS.Text
import HandS.Hot
import HandS.HotCalls
import PyProof.EqKinds
import PyProof.FactsAll.dict
import PySem.Challenge.RW_takenover_k76_webs_judged
set_option Elab.async false
set_option linter.all false
set_option maxRecDepth 100000
namespace Pf
open PySem PySem.Spec PyProof.Rows L2
/-! ### frames -/
/-- all but the one list at d stays -/
def Fr (d : Addr) (H H' : Hp) : Prop := ∀ b o, b ≠ d → H b = some o → H' b = some o
/-- all that is no list stays -/
def Tx (H H' : Hp) : Prop := ∀ b o, H b = some o → (∀ z, o ≠ .lst z) → H' b = some o
theorem Fr.refl (d : Addr) (H : Hp) : Fr d H H := fun _ _ _ h => h
theorem Fr.trans {d : Addr} {H H1 H2 : Hp} (x : Fr d H H1) (y : Fr d H1 H2) : Fr d H H2 := fun b o n h => y b o n (x b o n h)
theorem Fr.of {d : Addr} {H H' : Hp} (x : Same H H') : Fr d H H' := fun b o _ h => x b o h
theorem Fr.upd {d : Addr} {H : Hp} {o : HO} : Fr d H (upd H d o) := fun b x n h => by rw [upd_ne n]; exact h
theorem Fr.new {d p : Addr} {H : Hp} {o : HO} (n : H p = none) : Fr d H (L2.upd H p o) := fun b x _ h => by
  rw [upd_ne (ne_of_none h n)]; exact h
theorem same_new {H : Hp} {p : Addr} {o : HO} (h : H p = none) : Same H (upd H p o) := fun b x e => by
  rw [upd_ne (ne_of_none e h)]; exact e
/-- behind a change of what was not there at H -/
theorem Same.put {H H1 : Hp} {p : Addr} {o : HO} (s : Same H H1) (h : H p = none) : Same H (upd H1 p o) := fun b x e => by
  rw [upd_ne (ne_of_none e h)]; exact s b x e
theorem Fr.put {d : Addr} {H H1 : Hp} {p : Addr} {o : HO} (s : Fr d H H1) (h : H p = none) : Fr d H (L2.upd H1 p o) := fun b x n e => by
  rw [upd_ne (ne_of_none e h)]; exact s b x n e
theorem Tx.refl (H : Hp) : Tx H H := fun _ _ h _ => h
theorem Tx.trans {H H1 H2 : Hp} (x : Tx H H1) (y : Tx H1 H2) : Tx H H2 := fun b o h n => y b o (x b o h n) n
theorem Tx.of {H H' : Hp} (x : Same H H') : Tx H H' := fun b o h _ => x b o h
theorem Tx.new {H : Hp} {p : Addr} {o : HO} (h : H p = none) : Tx H (L2.upd H p o) := Tx.of (same_new h)
theorem Tx.lst {H : Hp} {p : Addr} {z : List V} {o : HO} (h : H p = some (.lst z)) : Tx H (L2.upd H p o) := fun b x e n => by
  by_cases hb : b = p
  · subst hb
    rw [h] at e
    exact absurd (Option.some.inj e).symm (n z)
  · rw [upd_ne hb]; exact e
theorem Fr.tx {d : Addr} {H H' : Hp} {z : List V} (f : Fr d H H') (h : H d = some (.lst z)) : Tx H H' := fun b x e n => by
  by_cases hb : b = d
  · subst hb
    rw [h] at e
    exact absurd (Option.some.inj e).symm (n z)
  · exact f b x hb e
theorem Tx.seq {K : PySem.W.Frag} {H H' : Hp} {b : Addr} {xs : List V} (t : Tx H H') (h : SqT K H b xs) : SqT K H' b xs := by
  rcases h with (h | ⟨o, h⟩) | h
  · exact .inl (.inl (t _ _ h (fun z e => by cases e)))
  · exact .inl (.inr ⟨o, t _ _ h (fun z e => by cases e)⟩)
  · exact .inr h
theorem Fr.seqL {K : PySem.W.Frag} {d : Addr} {H H' : Hp} {b : Addr} {xs : List V} (t : Fr d H H') (n : b ≠ d) (h : SqL K H b xs) : SqL K H' b xs := by
  rcases h with (h | ⟨o, h⟩) | h
  · exact .inl (.inl (t _ _ n h))
  · exact .inl (.inr ⟨o, t _ _ n h⟩)
  · exact .inr h
theorem SqL.new {K : PySem.W.Frag} {H : Hp} {p : Addr} {xs : List V} : SqL K (L2.upd H p (.lst xs)) p xs := .inl (.inl upd_same)
theorem SqT.new {K : PySem.W.Frag} {H : Hp} {p : Addr} {xs : List V} : SqT K (L2.upd H p (.tup xs)) p xs := .inl (.inl upd_same)
theorem SqL.at {K : PySem.W.Frag} {H : Hp} {p : Addr} {xs : List V} (h : H p = some (.lst xs)) : SqL K H p xs := .inl (.inl h)
theorem SqT.at {K : PySem.W.Frag} {H : Hp} {p : Addr} {xs : List V} (h : H p = some (.tup xs)) : SqT K H p xs := .inl (.inl h)

/-! ### data without lists: it stays where all that is no list stays -/
mutual
def im : PyData → Bool
  | .tuple ds => imAll ds
  | .list _ => false
  | .dict _ => false
  | _ => true
def imAll : List PyData → Bool
  | [] => true
  | d :: ds => im d && imAll ds
end
theorem imAll_iff : ∀ ds : List PyData, imAll ds = true ↔ ∀ d ∈ ds, im d = true
  | [] => by unfold imAll; simp
  | d :: ds => by unfold imAll; rw [Bool.and_eq_true, imAll_iff ds]; simp
mutual
theorem Dp.tx {K : PySem.W.Frag} {H H' : Hp} (t : Tx H H') : ∀ (d : PyData) (v : V), im d = true → Dp K H v d → Dp K H' v d
  | .none, _, _, h => by cases h; exact .non
  | .bool b, _, _, h => by cases h; exact .bl b
  | .int i, _, _, h => by cases h; exact .int i
  | .str x, _, _, h => by cases h; exact .str x
  | .tuple ds, v, m, h => by
    unfold im at m
    cases h with
    | tup q r => exact .tup (t.seq q) (Dp.txAll t ds _ m r)
theorem Dp.txAll {K : PySem.W.Frag} {H H' : Hp} (t : Tx H H') : ∀ (ds : List PyData) (vs : List V), imAll ds = true → DpAll K H vs ds → DpAll K H' vs ds
  | [], _, _, h => by cases h; exact .nil
  | d :: ds, vs, m, h => by
    unfold imAll at m
    rw [Bool.and_eq_true] at m
    cases h with
    | cons p q => exact .cons (Dp.tx t d _ m.1 p) (Dp.txAll t ds _ m.2 q)
end
mutual
theorem Dp.same {K : PySem.W.Frag} {H H' : Hp} (t : Same H H') : ∀ (d : PyData) (v : V), Dp K H v d → Dp K H' v d
  | .none, _, h => by cases h; exact .non
  | .bool b, _, h => by cases h; exact .bl b
  | .int i, _, h => by cases h; exact .int i
  | .str x, _, h => by cases h; exact .str x
  | .tuple ds, v, h => by
    cases h with
    | tup q r => exact .tup ((Tx.of t).seq q) (Dp.sameAll t ds _ r)
  | .list ds, v, h => by
    cases h with
    | lst q r => exact .lst (t.seq q) (Dp.sameAll t ds _ r)
theorem Dp.sameAll {K : PySem.W.Frag} {H H' : Hp} (t : Same H H') : ∀ (ds : List PyData) (vs : List V), DpAll K H vs ds → DpAll K H' vs ds
  | [], _, h => by cases h; exact .nil
  | d :: ds, vs, h => by
    cases h with
    | cons p q => exact .cons (Dp.same t d _ p) (Dp.sameAll t ds _ q)
end
theorem DpAll.len {K : PySem.W.Frag} {H : Hp} : ∀ {vs : List V} {ds : List PyData}, DpAll K H vs ds → vs.length = ds.length
  | _, _, .nil => rfl
  | _, _, .cons _ q => by rw [List.length_cons, List.length_cons, DpAll.len q]
theorem DpAll.at {K : PySem.W.Frag} {H : Hp} : ∀ {vs : List V} {ds : List PyData} {i : Nat} {v : V} {d : PyData}, DpAll K H vs ds → vs[i]? = some v → ds[i]? = some d → Dp K H v d
  | _, _, 0, _, _, .cons p _, h, k => by cases h; cases k; exact p
  | _, _, i + 1, _, _, .cons _ q, h, k => DpAll.at (i := i) q (by simpa using h) (by simpa using k)
theorem DpAll.snoc {K : PySem.W.Frag} {H : Hp} : ∀ {vs : List V} {ds : List PyData} {v : V} {d : PyData}, DpAll K H vs ds → Dp K H v d → DpAll K H (vs ++ [v]) (ds ++ [d])
  | _, _, _, _, .nil, p => .cons p .nil
  | _, _, _, _, .cons x q, p => .cons x (DpAll.snoc q p)
theorem DpAll.app {K : PySem.W.Frag} {H : Hp} : ∀ {vs us : List V} {ds es : List PyData}, DpAll K H vs ds → DpAll K H us es → DpAll K H (vs ++ us) (ds ++ es)
  | _, _, _, _, .nil, p => p
  | _, _, _, _, .cons x q, p => .cons x (DpAll.app q p)
/-- tuples of whole numbers -/
abbrev tupI (ns : List Int) : PyData := .tuple (ns.map PyData.int)
theorem dpAll_ints {K : PySem.W.Frag} {H : Hp} : ∀ (ns : List Int), DpAll K H (ns.map V.int) (ns.map PyData.int)
  | [] => .nil
  | n :: ns => .cons (.int n) (dpAll_ints ns)
theorem dpAll_ints_eq {K : PySem.W.Frag} {H : Hp} : ∀ {ns : List Int} {vs : List V}, DpAll K H vs (ns.map PyData.int) → vs = ns.map V.int
  | [], _, .nil => rfl
  | n :: ns, _, .cons p q => by
    cases p
    rw [dpAll_ints_eq q]
    rfl
theorem dp_ints {K : PySem.W.Frag} {H : Hp} {p : Addr} {ns : List Int} (h : SqT K H p (ns.map V.int)) : Dp K H (.ref p) (tupI ns) := .tup h (dpAll_ints ns)
theorem of_ints {K : PySem.W.Frag} {H : Hp} {v : V} {ns : List Int} (h : Dp K H v (tupI ns)) : ∃ p, v = .ref p ∧ SqT K H p (ns.map V.int) := by
  cases h with
  | tup q r => rw [dpAll_ints_eq r] at q; exact ⟨_, rfl, q⟩
theorem imAll_ints : ∀ (ns : List Int), imAll (ns.map PyData.int) = true
  | [] => rfl
  | _ :: ns => by
    show (im (.int _) && imAll (ns.map PyData.int)) = true
    rw [imAll_ints ns]; rfl
theorem im_ints (ns : List Int) : im (tupI ns) = true := imAll_ints ns
/-- the class of a value of data -/
def tyD : PyData → String
  | .none => "NoneType"
  | .bool _ => "bool"
  | .int _ => "int"
  | .str _ => "str"
  | .list _ => "list"
  | .tuple _ => "tuple"
  | .dict _ => "dict"
theorem Dp.ty {K : PySem.W.Frag} {H : Hp} {v : V} {d : PyData} (h : Dp K H v d) : TyX K H v (.type (tyD d)) := by
  cases h with
  | non => exact .base .non
  | bl b => exact .base (.bl b)
  | int i => exact .base (.int i)
  | str x => exact .base (.str x)
  | lst q r =>
    rcases q with (q | ⟨o, q⟩) | ⟨o, its, n, e, c, _⟩
    · exact .base (.lst q)
    · exact .base (.frz q)
    · exact .kList e c
  | tup q r =>
    rcases q with (q | ⟨o, q⟩) | ⟨o, its, n, e, c, _⟩
    · exact .base (.tup q)
    · exact .fTuple q
    · exact .kTuple e c
theorem atI_int {cs : List Int} {i : Int} (h0 : 0 ≤ i) (h : i < (cs.map V.int).length) : ∃ z, z ∈ cs ∧ cs[i.toNat]? = some z ∧ atI (cs.map V.int) i = some (.int z) := by
  have hl : i.toNat < cs.length := by rw [List.length_map] at h; omega
  obtain ⟨z, ez⟩ : ∃ z, cs[i.toNat]? = some z := ⟨_, List.getElem?_eq_getElem hl⟩
  refine ⟨z, List.mem_of_getElem? ez, ez, ?_⟩
  have e : i = ((i.toNat : Nat) : Int) := by omega
  rw [e]
  refine atI_nat ?_
  rw [List.getElem?_map, ez]
  rfl
/-! ### walks: zip of two tuples -/
theorem walk_zipT {K : PySem.W.Frag} {a b : Addr} {xs ys : List V} {n : Nat} (hn : n = min xs.length ys.length) : Walk (RZ.ItzT K a b) n (fun H => SqT K H a xs ∧ SqT K H b ys) (YPair (fun i => xs[i]?) (fun i => ys[i]?)) where
  goes := fun i H hi ⟨p, q⟩ => ⟨xs, ys, xs[i]'(by omega), ys[i]'(by omega), p, q, List.getElem?_eq_getElem (by omega), List.getElem?_eq_getElem (by omega)⟩
  stops := fun H ⟨p, q⟩ => ⟨xs, ys, p, q, by omega⟩
  yields := fun i H x H' hi ⟨p, q⟩ ⟨T, x1, x2, e, nT, e2, f1, f2⟩ => ⟨T, x1, x2, e, nT, e2, f1 xs p, f2 ys q⟩

/-! ### readings, step by step -/
section
variable {σ : L2.St} {H : Hp} {Q : VK} {QT : Bool → Hp → Prop} {QA : List V → Hp → Prop} {D : Ends} {ta tb tc te : TE} {t u : TT} {tr : TA} {s1 s2 : TS} {r r' : R2} {v : V} {K : PySem.W.Frag}
theorem g_var {i : Nat} (e : σ[i]? = some (some v)) (q : Q v H) : tVar i σ H Q := ⟨v, e, q⟩
theorem g_c (q : Q v H) : tC v σ H Q := q
theorem g_op (q : ta σ H fun x H1 => tb σ H1 fun y H2 => r x y H2 Q) : tOp r ta tb σ H Q := q
theorem g_rI0 {g : Int → Int → V} {i j : Int} (q : Q (g i j) H) : rI0 g (.int i) (.int j) H Q := ⟨i, j, rfl, rfl, q⟩
theorem g_rI {C : Int → Int → Prop} {g : Int → Int → V} {i j : Int} (c : C i j) (q : Q (g i j) H) : rI C g (.int i) (.int j) H Q := ⟨i, j, rfl, rfl, c, q⟩
theorem g_eqI {i j : Int} (q : Q (.bl (decide (i = j))) H) : rEq (.int i) (.int j) H Q := ⟨rfl, by
  rw [show decide (V.int i = V.int j) = decide (i = j) from by simp only [V.int.injEq]]; exact q⟩
theorem g_neI {i j : Int} (q : Q (.bl (!decide (i = j))) H) : rNe (.int i) (.int j) H Q := ⟨rfl, by
  rw [show decide (V.int i = V.int j) = decide (i = j) from by simp only [V.int.injEq]]; exact q⟩
theorem dec_bl {i j : Bool} : decide (V.bl i = V.bl j) = (i == j) := by cases i <;> cases j <;> rfl
theorem g_eqB {i j : Bool} (q : Q (.bl (i == j)) H) : rEq (.bl i) (.bl j) H Q := ⟨rfl, by rw [dec_bl]; exact q⟩
theorem g_neB {i j : Bool} (q : Q (.bl (!(i == j))) H) : rNe (.bl i) (.bl j) H Q := ⟨rfl, by rw [dec_bl]; exact q⟩
theorem g_test (q : ta σ H fun x H' => ∃ k, x = .bl k ∧ QT k H') : tTest ta σ H QT := q
theorem g_tB (q : ta σ H fun x H' => ∃ k, x = .bl k ∧ QT k H') : tB ta σ H QT := q
theorem g_bl {b : Bool} {P : Bool → Prop} (q : P b) : ∃ k, V.bl b = .bl k ∧ P k := ⟨b, rfl, q⟩
theorem g_and (q : t σ H fun c H1 => if c = true then u σ H1 QT else QT false H1) : tAnd t u σ H QT := q
theorem g_or (q : t σ H fun c H1 => if c = true then QT true H1 else u σ H1 QT) : tOr t u σ H QT := q
theorem g_not (q : t σ H fun c H1 => QT (!c) H1) : tNot t σ H QT := q
theorem g_andV (q : ta σ H fun x H1 => ∃ c, x = .bl c ∧ if c = true then tb σ H1 Q else Q (.bl false) H1) : tAndV ta tb σ H Q := q
theorem g_orV (q : ta σ H fun x H1 => ∃ c, x = .bl c ∧ if c = true then Q (.bl true) H1 else tb σ H1 Q) : tOrV ta tb σ H Q := q
theorem g_notV (q : ta σ H fun x H1 => ∃ c, x = .bl c ∧ Q (.bl (!c)) H1) : tNotV ta σ H Q := q
theorem g_if (q : t σ H fun c H1 => if c = true then ta σ H1 Q else tb σ H1 Q) : tIf t ta tb σ H Q := q
theorem g_un {r : V → Hp → VK → Prop} (q : ta σ H fun x H1 => r x H1 Q) : tUn r ta σ H Q := q
theorem g_rU {g : Int → V} {i : Int} (q : Q (g i) H) : rU g (.int i) H Q := ⟨i, rfl, q⟩
theorem g_chain (q : ta σ H fun x H1 => tb σ H1 fun y H2 => r x y H2 fun z H3 => ∃ k, z = .bl k ∧ (if k = true then tc σ H3 fun w' H4 => r' y w' H4 Q else Q (.bl false) H3)) : tChain r r' ta tb tc σ H Q := q
theorem g_seq (q : s1 { D with nx := s2 D } σ H) : tSeq s1 s2 D σ H := q
theorem g_ifS (q : t σ H fun b H1 => if b = true then s1 D σ H1 else s2 D σ H1) : tIfS t s1 s2 D σ H := q
theorem g_next (q : D.nx σ H) : tNext D σ H := q
theorem g_asg {g : TG} (q : ta σ H fun x H1 => g x σ H1 D.nx) : tAsg ta g D σ H := q
theorem g_name {i : Nat} {P : L2.St → Hp → Prop} (q : P (σ.set i (some v)) H) : gName i v σ H P := q
theorem g_sub {ts : TSet} {P : L2.St → Hp → Prop} (q : ta σ H fun o H1 => tb σ H1 fun i H2 => ts o i v H2 fun H3 => P σ H3) : gSub ta tb ts v σ H P := q
theorem g_setL {p : Addr} {xs : List V} {k : Int} {j : Nat} {P : Hp → Prop} (h : H p = some (.lst xs)) (e : ixN xs.length k = some j) (q : P (upd H p (.lst (xs.set j v)))) : rSetL (.ref p) (.int k) v H P := ⟨p, xs, k, j, rfl, rfl, h, e, q⟩
theorem g_ret (q : ta σ H D.rt) : tRet ta D σ H := q
theorem g_drop (q : ta σ H fun _ H1 => D.nx σ H1) : tDrop ta D σ H := q
theorem g_cons (q : ta σ H fun x H1 => tr σ H1 fun xs H2 => QA (x :: xs) H2) : tCons ta tr σ H QA := q
theorem g_nil (q : QA [] H) : tNil σ H QA := q
theorem g_cb {r : List V → Hp → VK → Prop} (q : tr σ H fun vs H1 => r vs H1 Q) : tCB r tr σ H Q := q
theorem g_tup (q : tr σ H fun xs H1 => xs.length ≤ sizeLine ∧ ∀ p, H1 p = none → Q (.ref p) (upd H1 p (.tup xs))) : tTup tr σ H Q := q
theorem g_lst (q : tr σ H fun xs H1 => xs.length ≤ sizeLine ∧ ∀ p, H1 p = none → Q (.ref p) (upd H1 p (.lst xs))) : tLst tr σ H Q := q
theorem g_sl {r : V → Option Int → Option Int → Hp → VK → Prop} {tl th : TO} (q : ta σ H fun x H1 => tl σ H1 fun l H2 => th σ H2 fun u H3 => r x l u H3 Q) : tSl r ta tl th σ H Q := q
theorem g_nopart {P : Option Int → Hp → Prop} (q : P none H) : tNoPart σ H P := q
theorem g_part {P : Option Int → Hp → Prop} (q : ta σ H fun x H1 => ∃ i, x = .int i ∧ P (some i) H1) : tPart ta σ H P := q
theorem g_part2 {i : Int} {P : Int → Prop} (q : P i) : ∃ k, V.int i = .int k ∧ P k := ⟨i, rfl, q⟩
theorem g_ixL {p : Addr} {xs : List V} {i : Int} (h : SqL K H p xs) (e : atI xs i = some v) (q : Q v H) : rIxL K (.ref p) (.int i) H Q := ⟨p, xs, i, v, rfl, rfl, h, e, q⟩
theorem g_ixT {p : Addr} {xs : List V} {i : Int} (h : SqT K H p xs) (e : atI xs i = some v) (q : Q v H) : rIxT K (.ref p) (.int i) H Q := ⟨p, xs, i, v, rfl, rfl, h, e, q⟩
theorem g_call {sp : Sp} {dvs : List V} {E : XK} (q : tr σ H fun vs H1 => sp (vs ++ dvs) H1 Q E) : tCall sp dvs E tr σ H Q := q
theorem g_int {i : Int} (q : Q (.int i) H) : (∃ k, [V.int i] = [.int k] ∧ Q (.int k) H) ∨ ∃ k : Bool, [V.int i] = [.bl k] ∧ Q (.int (if k = true then 1 else 0)) H := .inl ⟨i, rfl, q⟩
theorem g_list {i : Nat} {P : Addr → Prop} {p : Addr} (q : P p) : ∃ k, V.ref p = .ref k ∧ P k := ⟨p, rfl, q⟩
theorem g_iList {R : It → Hp → Prop} {p : Addr} {xs : List V} (h : SqL K H p xs) (q : R (Itl K p) H) : ∃ a, V.ref p = .ref a ∧ (∃ xs, SqL K H a xs) ∧ R (Itl K a) H := ⟨p, rfl, ⟨xs, h⟩, q⟩
theorem g_iTup {R : It → Hp → Prop} {p : Addr} {xs : List V} (h : SqT K H p xs) (q : R (Itt K p) H) : ∃ a, V.ref p = .ref a ∧ (∃ xs, SqT K H a xs) ∧ R (Itt K a) H := ⟨p, rfl, ⟨xs, h⟩, q⟩
theorem g_lenL {p : Addr} {xs : List V} (h : SqL K H p xs) (q : Q (.int xs.length) H) : ∃ p' ys, [V.ref p] = [.ref p'] ∧ (SqL K H p' ys ∨ SqT K H p' ys) ∧ Q (.int ys.length) H := ⟨p, xs, rfl, .inl h, q⟩
theorem g_lenT {p : Addr} {xs : List V} (h : SqT K H p xs) (q : Q (.int xs.length) H) : ∃ p' ys, [V.ref p] = [.ref p'] ∧ (SqL K H p' ys ∨ SqT K H p' ys) ∧ Q (.int ys.length) H := ⟨p, xs, rfl, .inr h, q⟩
theorem g_ite {c A B : Prop} [Decidable c] (h1 : c → A) (h2 : ¬ c → B) : if decide c = true then A else B := by
  by_cases h : c
  · rw [decide_eq_true h, if_pos rfl]; exact h1 h
  · rw [decide_eq_false h, if_neg Bool.false_ne_true]; exact h2 h
theorem g_iteN {c A B : Prop} [Decidable c] (h1 : ¬ c → A) (h2 : c → B) : if (!decide c) = true then A else B := by
  by_cases h : c
  · rw [decide_eq_true h]; exact (if_neg Bool.false_ne_true) ▸ h2 h
  · rw [decide_eq_false h]; exact (if_pos rfl) ▸ h1 h
theorem g_lc {wi : TI} {g : TG} {tt : TT} {vs : List Nat} (q : wi σ H fun J H1 => ∀ D, H1 D = none → ∃ W : Nat → Nat → Hp → Prop, (∃ m, W 0 m (L2.upd H1 D (.lst []))) ∧ ∀ i m H, W i m H →
  (J.stop i H ∧ Q (.ref D) H) ∨ (J.go i H ∧ ∃ Nx : Hp → Prop, (∀ H', Nx H' → ∃ m', m' < m ∧ W (i + 1) m' H') ∧ ∀ x H', J.yld i H x H' → g x (wipe σ vs) H' fun σ2 H2 => wipe σ2 vs = wipe σ vs ∧ tt σ2 H2 fun b H3 =>
    if b = true then te σ2 H3 fun y H4 => ∃ acc, H4 D = some (.lst acc) ∧ acc.length < sizeLine ∧ Nx (L2.upd H4 D (.lst (acc ++ [y]))) else Nx H3)) : tLc wi g tt te vs σ H Q := q
theorem g_for {wi : TI} {g : TG} {tb : TS} (q : wi σ H fun J H1 => ∃ W : Nat → Nat → L2.St → Hp → Prop, (∃ m, W 0 m σ H1) ∧ ∀ i m σ H, W i m σ H →
  (J.stop i H ∧ D.nx σ H) ∨ (J.go i H ∧ ∃ N : L2.St → Hp → Prop, (∀ σ' H', N σ' H' → ∃ m', m' < m ∧ W (i + 1) m' σ' H') ∧ ∀ x H', J.yld i H x H' → g x σ H' fun σ2 H2 => tb { D with nx := N, ct := N, bk := D.nx } σ2 H2)) : tFor wi g tb D σ H := q
theorem g_iL {R : It → Hp → Prop} (q : ta σ H fun x H1 => ∃ a, x = .ref a ∧ (∃ xs, SqL K H1 a xs) ∧ R (Itl K a) H1) : iList K ta σ H R := q
theorem g_iT {R : It → Hp → Prop} (q : ta σ H fun x H1 => ∃ a, x = .ref a ∧ (∃ xs, SqT K H1 a xs) ∧ R (Itt K a) H1) : iTup K ta σ H R := q
theorem g_iR1 {R : It → Hp → Prop} (q : tr σ H fun vs H1 => ∃ j : Int, vs = [.int j] ∧ -(2 ^ 62) ≤ j ∧ j < 2 ^ 62 ∧ R (Itr 0 j.toNat) H1) : iRng1 tr σ H R := q
theorem g_iR2 {R : It → Hp → Prop} (q : tr σ H fun vs H1 => ∃ i j : Int, vs = [.int i, .int j] ∧ (-(2 ^ 62) ≤ i ∧ i < 2 ^ 62 ∧ -(2 ^ 62) ≤ j ∧ j < 2 ^ 62) ∧ R (Itr i (j - i).toNat) H1) : iRng2 tr σ H R := q
theorem g_iZA {R : It → Hp → Prop} (q : tr σ H fun vs H1 => ∃ a b xs ys, vs = [.ref a, .ref b] ∧ ((SqL K H1 a xs ∧ SqL K H1 b ys ∧ R (Itz K a b) H1) ∨ (SqT K H1 a xs ∧ SqT K H1 b ys ∧ R (RZ.ItzT K a b) H1))) : RZ.iZipA K tr σ H R := q
theorem g_bm {T : String} {rm : V → List V → Hp → VK → Prop} (q : ta σ H fun x H1 => tyV K T x H1 ∧ tr σ H1 fun xs H2 => rm x xs H2 Q) : tBM K T rm ta tr σ H Q := q
theorem g_nT {A B : Prop} (h : B) : if (!true) = true then A else B := h
theorem g_nF {A B : Prop} (h : A) : if (!false) = true then A else B := h
theorem g_oFF {A B : Prop} (h : B) : if (false || false) = true then A else B := h
theorem g_oTx {b : Bool} {A B : Prop} (h : A) : if (true || b) = true then A else B := h
theorem g_oFT {A B : Prop} (h : A) : if (false || true) = true then A else B := h
theorem g_noTx {b : Bool} {A B : Prop} (h : B) : if (!(true || b)) = true then A else B := h
theorem g_noFT {A B : Prop} (h : B) : if (!(false || true)) = true then A else B := h
theorem g_noFF {A B : Prop} (h : A) : if (!(false || false)) = true then A else B := h
theorem g_yes (q : QT true H) : tYes σ H QT := q
/-- one word for what follows a statement -/
theorem seq_cut (R : L2.St → Hp → Prop) (h2 : ∀ σ' H', R σ' H' → s2 D σ' H') (h1 : ∀ N : L2.St → Hp → Prop, (∀ σ' H', R σ' H' → N σ' H') → s1 { D with nx := N } σ H) : tSeq s1 s2 D σ H := h1 (s2 D) h2
end

/-! ### the drawn numbers: the list at d, its cells at c -/
def Dice (d c : Addr) (H : Hp) : Prop := ∃ (cs : List Int) (i q s t : Int), H d = some (.lst [.ref c, .int i, .int q, .int s, .int t]) ∧ H c = some (.lst (cs.map V.int)) ∧ c ≠ d ∧ (∀ x ∈ cs, 0 ≤ x) ∧ 0 ≤ i ∧ 0 ≤ q ∧ 0 ≤ s ∧ s < 2147483648 ∧ 0 ≤ t
theorem Dice.fr {H H' : Hp} {d c : Addr} (D : Dice d c H) (f : Same H H') : Dice d c H' := by
  obtain ⟨cs, i, q, s, t, h1, h2, r⟩ := D
  exact ⟨cs, i, q, s, t, f _ _ h1, f _ _ h2, r⟩
theorem Dice.nd {H : Hp} {d c p : Addr} (D : Dice d c H) (n : H p = none) : p ≠ d := by
  obtain ⟨cs, i, q, s, t, h1, r⟩ := D
  exact (ne_of_none h1 n).symm
theorem Dice.nc {H : Hp} {d c p : Addr} (D : Dice d c H) (n : H p = none) : p ≠ c := by
  obtain ⟨cs, i, q, s, t, h1, h2, r⟩ := D
  exact (ne_of_none h2 n).symm
theorem Dice.tx {H H' : Hp} {d c : Addr} (D : Dice d c H) (f : Fr d H H') : Tx H H' := by
  obtain ⟨cs, i, q, s, t, h1, r⟩ := D
  exact f.tx h1
theorem Dice.new {H : Hp} {d c p : Addr} {o : HO} (D : Dice d c H) (n : H p = none) : Dice d c (L2.upd H p o) := D.fr (same_new n)
theorem Dice.put {H : Hp} {d c p : Addr} {o : HO} (D : Dice d c H) (n : p ≠ d) (n2 : p ≠ c) : Dice d c (L2.upd H p o) := by
  obtain ⟨cs, i, q, s, t, h1, h2, r⟩ := D
  exact ⟨cs, i, q, s, t, by rw [upd_ne n.symm]; exact h1, by rw [upd_ne n2.symm]; exact h2, r⟩
theorem mem_cutV {xs : List V} {lo hi : Option Int} {x : V} (h : x ∈ cutV xs lo hi) : x ∈ xs := List.mem_of_mem_drop (List.mem_of_mem_take h)
theorem cutV_int {ns : List Int} {lo hi : Option Int} {i : Nat} {x : V} (h : (cutV (ns.map V.int) lo hi)[i]? = some x) : ∃ z, x = .int z := by
  have := mem_cutV (List.mem_of_getElem? h)
  obtain ⟨z, _, e⟩ := List.mem_map.mp this
  exact ⟨z, e.symm⟩
theorem take_snoc {α : Type} {xs : List α} {i : Nat} {x : α} (h : xs[i]? = some x) : xs.take (i + 1) = xs.take i ++ [x] := by
  rw [List.take_add_one, h]; rfl
/-! ### list comprehensions -/
section
variable {J : It} {n : Nat} {G : Hp → Prop} {Y : Nat → Hp → V → Hp → Prop} {g : TG} {tt : TT} {te : TE} {vs : List Nat} {σ : L2.St} {H1 : Hp} {D : Addr} {Qd : Hp → Prop}
theorem lc_cps (w : Walk J n G Y) (R : Nat → Hp → List V → Prop) (h0 : R 0 (L2.upd H1 D (.lst [])) []) (hG : ∀ i H acc, i ≤ n → R i H acc → H D = some (.lst acc) → G H)
    (hs : ∀ i x H H' acc (C : V → Hp → Prop) (Cn : Hp → Prop), i < n → R i H acc → H D = some (.lst acc) → Y i H x H' →
      (∀ y H4, H4 D = some (.lst acc) → acc.length < sizeLine → R (i + 1) (L2.upd H4 D (.lst (acc ++ [y]))) (acc ++ [y]) → C y H4) → (∀ H3, H3 D = some (.lst acc) → R (i + 1) H3 acc → Cn H3) →
      g x (wipe σ vs) H' fun σ2 H2 => wipe σ2 vs = wipe σ vs ∧ tt σ2 H2 fun b H3 => if b = true then te σ2 H3 C else Cn H3)
    (hd : ∀ H acc, R n H acc → H D = some (.lst acc) → Qd H) :
    ∃ W : Nat → Nat → Hp → Prop, (∃ m, W 0 m (L2.upd H1 D (.lst []))) ∧ ∀ i m H, W i m H →
      (J.stop i H ∧ Qd H) ∨ (J.go i H ∧ ∃ Nx : Hp → Prop, (∀ H', Nx H' → ∃ m', m' < m ∧ W (i + 1) m' H') ∧ ∀ x H', J.yld i H x H' → g x (wipe σ vs) H' fun σ2 H2 => wipe σ2 vs = wipe σ vs ∧ tt σ2 H2 fun b H3 =>
        if b = true then te σ2 H3 fun y H4 => ∃ acc, H4 D = some (.lst acc) ∧ acc.length < sizeLine ∧ Nx (L2.upd H4 D (.lst (acc ++ [y]))) else Nx H3) :=
  lc_it w (fun i H => ∃ acc, H D = some (.lst acc) ∧ R i H acc) ⟨[], upd_same, h0⟩ (fun i H hi ⟨acc, e, r⟩ => hG i H acc hi r e)
    (fun i x H H' hi ⟨acc, e, r⟩ hy => hs i x H H' acc _ _ hi r e hy (fun y H4 e4 l r4 => ⟨acc, e4, l, _, upd_same, r4⟩) (fun H3 e3 r3 => ⟨acc, e3, r3⟩)) (fun H ⟨acc, e, r⟩ => hd H acc r e)
/-- nothing that stood is changed; what is made is told by the turn -/
theorem lc_same {H0 : Hp} (w : Walk J n G Y) (A : Nat → List V) (a0 : A 0 = []) (hl : ∀ i, i ≤ n → (A i).length < sizeLine) (hH : Same H0 H1) (nD : H0 D = none) (nD1 : H1 D = none) (hG : ∀ H, Same H1 H → G H)
    (hs : ∀ i x H H' (C : V → Hp → Prop) (Cn : Hp → Prop), i < n → Same H1 H → Y i H x H' → (∀ y H4, Same H H4 → A (i + 1) = A i ++ [y] → C y H4) → (∀ H3, Same H H3 → A (i + 1) = A i → Cn H3) →
      g x (wipe σ vs) H' fun σ2 H2 => wipe σ2 vs = wipe σ vs ∧ tt σ2 H2 fun b H3 => if b = true then te σ2 H3 C else Cn H3)
    (hd : ∀ H, Same H0 H → H D = some (.lst (A n)) → Qd H) :
    ∃ W : Nat → Nat → Hp → Prop, (∃ m, W 0 m (L2.upd H1 D (.lst []))) ∧ ∀ i m H, W i m H →
      (J.stop i H ∧ Qd H) ∨ (J.go i H ∧ ∃ Nx : Hp → Prop, (∀ H', Nx H' → ∃ m', m' < m ∧ W (i + 1) m' H') ∧ ∀ x H', J.yld i H x H' → g x (wipe σ vs) H' fun σ2 H2 => wipe σ2 vs = wipe σ vs ∧ tt σ2 H2 fun b H3 =>
        if b = true then te σ2 H3 fun y H4 => ∃ acc, H4 D = some (.lst acc) ∧ acc.length < sizeLine ∧ Nx (L2.upd H4 D (.lst (acc ++ [y]))) else Nx H3) := by
  refine lc_cps w (fun i H acc => Same H1 H ∧ acc = A i) ⟨same_new nD1, a0.symm⟩ (fun i H acc hi r e => hG H r.1) (fun i x H H' acc C Cn hi r e hy hC hN => ?_) (fun H acc r e => hd H (hH.trans r.1) (by rw [e, r.2]))
  obtain ⟨r1, rfl⟩ := r
  exact hs i x H H' C Cn hi r1 hy (fun y H4 s4 e4 => hC y H4 (s4 _ _ e) (hl i (by omega)) ⟨Same.put (r1.trans s4) nD1, e4.symm⟩) (fun H3 s3 e3 => hN H3 (s3 _ _ e) ⟨r1.trans s3, e3.symm⟩)
/-- data made at each turn, told by the turn -/
theorem lc_data {K : PySem.W.Frag} (w : Walk J n G Y) (A : Nat → List PyData) (a0 : A 0 = []) (hl : ∀ i, i ≤ n → (A i).length < sizeLine) (hi' : ∀ i, i ≤ n → imAll (A i) = true) (nD1 : H1 D = none) (hG : ∀ H, Same H1 H → G H)
    (hs : ∀ i x H H' (C : V → Hp → Prop) (Cn : Hp → Prop), i < n → Same H1 H → Y i H x H' → (∀ y e H4, Same H H4 → Dp K H4 y e → A (i + 1) = A i ++ [e] → C y H4) → (∀ H3, Same H H3 → A (i + 1) = A i → Cn H3) →
      g x (wipe σ vs) H' fun σ2 H2 => wipe σ2 vs = wipe σ vs ∧ tt σ2 H2 fun b H3 => if b = true then te σ2 H3 C else Cn H3)
    (hd : ∀ H xs, Same H1 H → H D = some (.lst xs) → DpAll K H xs (A n) → Qd H) :
    ∃ W : Nat → Nat → Hp → Prop, (∃ m, W 0 m (L2.upd H1 D (.lst []))) ∧ ∀ i m H, W i m H →
      (J.stop i H ∧ Qd H) ∨ (J.go i H ∧ ∃ Nx : Hp → Prop, (∀ H', Nx H' → ∃ m', m' < m ∧ W (i + 1) m' H') ∧ ∀ x H', J.yld i H x H' → g x (wipe σ vs) H' fun σ2 H2 => wipe σ2 vs = wipe σ vs ∧ tt σ2 H2 fun b H3 =>
        if b = true then te σ2 H3 fun y H4 => ∃ acc, H4 D = some (.lst acc) ∧ acc.length < sizeLine ∧ Nx (L2.upd H4 D (.lst (acc ++ [y]))) else Nx H3) := by
  refine lc_cps w (fun i H acc => Same H1 H ∧ DpAll K H acc (A i)) ⟨same_new nD1, by rw [a0]; exact .nil⟩ (fun i H acc hi r e => hG H r.1) (fun i x H H' acc C Cn hi r e hy hC hN => ?_) (fun H acc r e => hd H acc r.1 e r.2)
  obtain ⟨r1, r2⟩ := r
  refine hs i x H H' C Cn hi r1 hy (fun y ee H4 s4 dy e4 => hC y H4 (s4 _ _ e) (by rw [DpAll.len r2]; exact hl i (by omega)) ⟨Same.put (r1.trans s4) nD1, ?_⟩) (fun H3 s3 e3 => hN H3 (s3 _ _ e) ⟨r1.trans s3, by rw [e3]; exact Dp.sameAll s3 _ _ r2⟩)
  rw [e4]
  have im1 := hi' (i + 1) hi
  rw [e4] at im1
  exact Dp.txAll (Tx.lst (s4 _ _ e)) _ _ im1 (DpAll.snoc (Dp.sameAll s4 _ _ r2) dy)
/-- data drawn at each turn, all of one kind -/
theorem lc_draw {K : PySem.W.Frag} {d c : Addr} (w : Walk J n G Y) (PD : PyData → Prop) (hn : n < sizeLine) (him : ∀ e, PD e → im e = true) (nD1 : H1 D = none) (hD : Dice d c H1) (hG : ∀ H, Fr d H1 H → G H)
    (hs : ∀ i x H H' (C : V → Hp → Prop) (Cn : Hp → Prop), i < n → Fr d H1 H → Dice d c H → Y i H x H' → (∀ y e H4, Fr d H H4 → Dice d c H4 → Dp K H4 y e → PD e → C y H4) →
      g x (wipe σ vs) H' fun σ2 H2 => wipe σ2 vs = wipe σ vs ∧ tt σ2 H2 fun b H3 => if b = true then te σ2 H3 C else Cn H3)
    (hd : ∀ H xs ds, Fr d H1 H → Dice d c H → H D = some (.lst xs) → DpAll K H xs ds → ds.length = n → (∀ e ∈ ds, PD e) → Qd H) :
    ∃ W : Nat → Nat → Hp → Prop, (∃ m, W 0 m (L2.upd H1 D (.lst []))) ∧ ∀ i m H, W i m H →
      (J.stop i H ∧ Qd H) ∨ (J.go i H ∧ ∃ Nx : Hp → Prop, (∀ H', Nx H' → ∃ m', m' < m ∧ W (i + 1) m' H') ∧ ∀ x H', J.yld i H x H' → g x (wipe σ vs) H' fun σ2 H2 => wipe σ2 vs = wipe σ vs ∧ tt σ2 H2 fun b H3 =>
        if b = true then te σ2 H3 fun y H4 => ∃ acc, H4 D = some (.lst acc) ∧ acc.length < sizeLine ∧ Nx (L2.upd H4 D (.lst (acc ++ [y]))) else Nx H3) := by
  refine lc_cps w (fun i H acc => Fr d H1 H ∧ Dice d c H ∧ ∃ ds, DpAll K H acc ds ∧ ds.length = i ∧ ∀ e ∈ ds, PD e) ⟨Fr.new nD1, hD.new nD1, [], .nil, rfl, fun e h => by cases h⟩ (fun i H acc hi r e => hG H r.1) (fun i x H H' acc C Cn hi r e hy hC hN => ?_)
    (fun H acc ⟨r1, r2, ds, r3, r4, r5⟩ e => hd H acc ds r1 r2 e r3 r4 r5)
  obtain ⟨r1, r2, ds, r3, r4, r5⟩ := r
  refine hs i x H H' C Cn hi r1 r2 hy (fun y ee H4 f4 d4 dy pe => ?_)
  have e4 : H4 D = some (.lst acc) := f4 _ _ (hD.nd nD1) e
  refine hC y H4 e4 (by rw [DpAll.len r3]; omega) ⟨Fr.put (r1.trans f4) nD1, d4.put (hD.nd nD1) (hD.nc nD1), ds ++ [ee], ?_, by rw [List.length_append, r4]; rfl, fun e he => ?_⟩
  · have im1 : imAll (ds ++ [ee]) = true := (imAll_iff _).mpr fun z hz => by
      rcases List.mem_append.mp hz with hz | hz
      · exact him z (r5 z hz)
      · rw [List.mem_singleton.mp hz]; exact him _ pe
    have im0 : imAll ds = true := (imAll_iff _).mpr fun z hz => him z (r5 z hz)
    exact Dp.txAll (Tx.lst e4) _ _ im1 (DpAll.snoc (Dp.txAll (r2.tx f4) _ _ im0 r3) dy)
  · rcases List.mem_append.mp he with he | he
    · exact r5 e he
    · rw [List.mem_singleton.mp he]; exact pe
end

/-! ### whole numbers among all things -/
def IntK (K : PySem.W.Frag) (H : Hp) (v : V) (b : Bool) : Prop := ∃ (t : Value) (b1 b2 : Bool), TyX K H v t ∧ PySem.W.kitOne K t (.type "int") = some b1 ∧ PySem.W.kitOne K t (.type "bool") = some b2 ∧ b = (b1 && !b2)
theorem IntK.int {K : PySem.W.Frag} {H : Hp} (i : Int) : IntK K H (.int i) true := ⟨.type "int", true, false, .base (.int i), kit_ty (by decide +kernel), kit_ty (by decide +kernel), rfl⟩
/-- an integer i, or none -/
def Itm (K : PySem.W.Frag) (H : Hp) (v : V) : Option Int → Prop
  | some i => v = .int i
  | none => IntK K H v false
theorem g_isi {K : PySem.W.Frag} {H : Hp} {Q : VK} {x : V} {n : String} {t : Value} {b : Bool} (ty : TyX K H x t) (k : PySem.W.kitOne K t (.type n) = some b) (q : Q (.bl b) H) : rIsi K [x, .ty n] H Q := ⟨x, .ty n, t, .type n, b, rfl, .ty n, ty, k, q⟩
theorem kitAny2 {K : PySem.W.Frag} {t c c2 : Value} {b b2 : Bool} (h : PySem.W.kitOne K t c = some b) (h2 : PySem.W.kitOne K t c2 = some b2) : PySem.W.kitAny K t [c, c2] = some (b || b2) := by
  unfold PySem.W.kitAny
  rw [h]
  cases b with
  | true => rfl
  | false =>
    unfold PySem.W.kitAny
    rw [h2]
    cases b2 <;> rfl

theorem g_slA {K : PySem.W.Frag} {H : Hp} {Q : VK} {p : Addr} {xs : List V} {lo hi : Option Int} (h : SqT K H p xs) (q : ∀ p' H', Same H H' → SqT K H' p' (cutV xs lo hi) → Q (.ref p') H') : rSlA K (.ref p) lo hi H Q := by
  refine ⟨p, xs, rfl, h, fun hw => ?_, fun _ p' n' => q p' _ (same_new n') SqT.new⟩
  refine q p H (Same.refl H) ?_
  unfold cutV
  rw [hw.1, hw.2]
  simpa using h
theorem cutV1 (xs : List V) : cutV xs (some 1) none = xs.drop 1 := by
  unfold cutV
  rw [show HT.sIx xs.length 0 (some 1) = min 1 xs.length from HT.sIx_nat xs.length 0 1, HT.sIx_none]
  cases xs with
  | nil => rfl
  | cons x r =>
    rw [show min 1 (x :: r).length = 1 by
      rw [List.length_cons]
      omega]
    show (List.take ((x :: r).length - 1) r) = r
    rw [List.length_cons, Nat.add_sub_cancel]
    exact List.take_length
/-- rising along -/
def risesB : List Int → Bool
  | x :: y :: r => decide (x ≤ y) && risesB (y :: r)
  | _ => true
def zipUp (ns : List Int) : List Bool := (ns.zip (ns.drop 1)).map fun p => decide (p.1 ≤ p.2)
theorem risesB_zip : ∀ ns : List Int, risesB ns = (zipUp ns).all id
  | [] => rfl
  | [_] => rfl
  | x :: y :: r => by
    unfold risesB
    rw [risesB_zip (y :: r)]
    unfold zipUp
    simp
theorem risesB_of : ∀ {ns : List Int}, ns.Pairwise (· ≤ ·) → risesB ns = true
  | [], _ => rfl
  | [_], _ => rfl
  | x :: y :: r, h => by
    unfold risesB
    rw [List.pairwise_cons] at h
    rw [risesB_of h.2, decide_eq_true (h.1 y (by simp))]
    rfl
theorem zipUp_len (ns : List Int) : (zipUp ns).length = min ns.length (ns.drop 1).length := by
  unfold zipUp
  rw [List.length_map, List.length_zip]
theorem zipUp_at {ns : List Int} {i : Nat} {x y : Int} (h : ns[i]? = some x) (k : (ns.drop 1)[i]? = some y) : (zipUp ns)[i]? = some (decide (x ≤ y)) := by
  unfold zipUp
  rw [List.getElem?_map, (List.getElem?_zip_eq_some (z := (x, y))).mpr ⟨h, k⟩]
  rfl
theorem map_at {α β : Type} {f : α → β} {xs : List α} {i : Nat} {y : β} (h : (xs.map f)[i]? = some y) : ∃ x, xs[i]? = some x ∧ y = f x := by
  rw [List.getElem?_map] at h
  cases hz : xs[i]? with
  | none => rw [hz] at h; cases h
  | some z =>
    rw [hz] at h
    cases h
    exact ⟨z, rfl, rfl⟩

/-! ### the written part by its letter -/
def rLenS (K : PySem.W.Frag) : List V → Hp → VK → Prop := fun xs H Q => ∃ p ys, xs = [.ref p] ∧ (SqL K H p ys ∨ SqT K H p ys) ∧ Q (.int ys.length) H
def rTupOf (K : PySem.W.Frag) : List V → Hp → VK → Prop := fun xs H Q => ∃ p ys, xs = [.ref p] ∧ ((SqL K H p ys ∧ ∀ l, H l = none → Q (.ref l) (L2.upd H l (.tup ys))) ∨ (SqT K H p ys ∧ Q (.ref p) H))
def rLstOf (K : PySem.W.Frag) : List V → Hp → VK → Prop := fun xs H Q => ∃ p ys, xs = [.ref p] ∧ (SqL K H p ys ∨ SqT K H p ys) ∧ ∀ l, H l = none → Q (.ref l) (L2.upd H l (.lst ys))
section
variable {X : Cx} (K : PySem.W.Frag)
theorem kC {f : Value} {r : PySem.W.Frag → List V → Hp → VK → Prop} (h : X.K = K) (c : CallR X f (r X.K)) : CallR X f (r K) := h ▸ c
theorem kM {id : String} {r : PySem.W.Frag → V → List V → Hp → VK → Prop} (h : X.K = K) (c : MtR X id (r X.K)) : MtR X id (r K) := h ▸ c
theorem kO {f : Value → Value → Sem Value} {r : PySem.W.Frag → R2} (h : X.K = K) (c : OpR X f (r X.K)) : OpR X f (r K) := h ▸ c
theorem kI {r : PySem.W.Frag → R2} (h : X.K = K) (c : IxR X (r X.K)) : IxR X (r K) := h ▸ c
theorem kS {r : PySem.W.Frag → V → Option Int → Option Int → Hp → VK → Prop} (h : X.K = K) (c : SlR X (r X.K)) : SlR X (r K) := h ▸ c
theorem kLen (h : X.K = K) : CallR X (.builtin "len") (rLenS K) := kC K (r := rLenS) h call_len_seq
theorem kTupOf (h : X.K = K) : CallR X (.type "tuple") (rTupOf K) := kC K (r := rTupOf) h call_tuple_of
theorem kLstOf (h : X.K = K) : CallR X (.type "list") (rLstOf K) := kC K (r := rLstOf) h call_list_of
theorem kIsi (h : X.K = K) : CallR X (.builtin "isinstance") (rIsi K) := kC K (r := rIsi) h call_isi
theorem kIsiT (h : X.K = K) : CallR X (.builtin "isinstance") (rIsiT K) := kC K (r := rIsiT) h call_isiT
theorem kAll (hc : X.calm = true) (h : X.K = K) : CallR X (.builtin "all") (rAll K) := kC K (r := rAll) h (cr_all hc)
theorem kSorted (h : X.K = K) : CallR X (.builtin "sorted") (rSorted K) := kC K (r := rSorted) h cr_sorted
theorem kIxL (h : X.K = K) : IxR X (rIxL K) := kI K (r := rIxL) h ix_list
theorem kIxT (h : X.K = K) : IxR X (rIxT K) := kI K (r := rIxT) h ix_tup
theorem kSlL (h : X.K = K) : SlR X (rSlL K) := kS K (r := rSlL) h sl_list
theorem kSlA (h : X.K = K) : SlR X (rSlA K) := kS K (r := rSlA) h sl_tupA
theorem kCatA (h : X.K = K) : OpR X (binaryOp .Add) (rCatA K) := kO K (r := rCatA) h op_catA
theorem kEqD (h : X.K = K) (hu : X.A.units + 64 < cLine) : OpR X (compareOp .Eq) (rEqD K) := kO K (r := rEqD) h (op_eqD hu)
theorem kNeD (h : X.K = K) (hu : X.A.units + 64 < cLine) : OpR X (compareOp .NotEq) (rNeD K) := kO K (r := rNeD) h (op_neD hu)
theorem kIn (h : X.K = K) : OpR X (compareOp .In) (rIn K false) := kO K (r := fun K => rIn K false) h op_in_seq
theorem kNotIn (h : X.K = K) : OpR X (compareOp .NotIn) (rIn K true) := kO K (r := fun K => rIn K true) h op_notIn_seq
theorem kiList {tg l : Expr} {tl : TE} (h : X.K = K) (hl : PE X l tl) : PI X tg l (iList K tl) := h ▸ pi_list hl
theorem kiTup {tg l : Expr} {tl : TE} (h : X.K = K) (hl : PE X l tl) : PI X tg l (iTup K tl) := h ▸ pi_tup hl
theorem kpFld {e : Expr} {f : Str} {ta : TE} {pos : Pos} (h : X.K = K) (he : PE X e ta) (hb : attributeBase e f X.env (eval e X.env) = eval e X.env) : PE X (.Attribute e f pos) (tFld K ta f) := h ▸ pe_fld he hb
theorem kiZip {e e2 : Expr} {ta : TA} {p pos tpos : Pos} {elts : List Expr} {kk : Nat} (h : X.K = K) (hg : Gl X "zip") (hm : X.mg "zip" = none) (ha : PA X [e, e2] ta)
    (hs : starEach [e, e2] X.env = (false, eval e X.env) :: starEach [e2] X.env := by rfl) (hpl : (backTo pos (starEach [e2] X.env)).any (·.1) = false := by rfl) :
    PI X (.Tuple elts kk tpos) (.Call (.Name "zip" p) [e, e2] [] pos) (RZ.iZipA K ta) := h ▸ RZ.pi_zipA hg hm ha hs hpl
theorem kiEnum {e : Expr} {ta : TA} {p pos tpos : Pos} {elts : List Expr} {kk : Nat} (h : X.K = K) (hg : Gl X "enumerate") (hm : X.mg "enumerate" = none) (ha : PA X [e] ta) (hs : starEach [e] X.env = [(false, eval e X.env)] := by rfl) :
    PI X (.Tuple elts kk tpos) (.Call (.Name "enumerate" p) [e] [] pos) (iEnum K ta) := h ▸ pi_enum hg hm ha hs
theorem kgTup {es : List Expr} {k : Nat} {t : TGs} {n : Nat} {pos : Pos} (h : X.K = K) (hc : X.calm = true) (ht : PGs X es t)
    (hn : (assignEach es X.env).length = n := by rfl) (hst : (assignEach es X.env).findIdx? (·.1) = none := by rfl) : PG X (.Tuple es k pos) (gTup K n t) := h ▸ pg_tup hc ht hn hst
end
theorem filt1 {α : Type} {p : α → Bool} {z : α} (h : p z = true) : [z].filter p = [z] := by simp [h]
theorem filt0 {α : Type} {p : α → Bool} {z : α} (h : ¬ p z = true) : [z].filter p = [] := by simp [h]
end Pf
namespace Pf
open PySem PySem.Spec PyProof.Rows L2
theorem canLay_ints : ∀ ns : List Int, PyData.canLayAll0 (ns.map PyData.int) = true
  | [] => rfl
  | _ :: r => by
    show (PyData.canLay0 (.int _) && PyData.canLayAll0 (r.map PyData.int)) = true
    rw [canLay_ints r]
    rfl
theorem depth_ints : ∀ ns : List Int, PyData.depthAll (ns.map PyData.int) = 0
  | [] => rfl
  | _ :: r => by
    show max (PyData.depth (.int _)) (PyData.depthAll (r.map PyData.int)) = 0
    rw [depth_ints r]
    rfl
theorem shaped_tupI (ns : List Int) : SeqAt.shaped (tupI ns) = true := by
  unfold SeqAt.shaped
  rw [Bool.and_eq_true]
  refine ⟨canLay_ints ns, decide_eq_true ?_⟩
  show PyData.depthAll (ns.map PyData.int) + 1 ≤ 64
  rw [depth_ints]
  decide
theorem eqv_ints : ∀ ns ms : List Int, PyData.eqvAll (ns.map PyData.int) (ms.map PyData.int) = decide (ns = ms)
  | [], [] => rfl
  | [], _ :: _ => rfl
  | _ :: _, [] => rfl
  | x :: r, y :: q => by
    show ((x == y) && PyData.eqvAll (r.map PyData.int) (q.map PyData.int)) = _
    rw [eqv_ints r q, Bool.eq_iff_iff]
    simp
theorem eqv_tupI (ns ms : List Int) : PyData.eqv (tupI ns) (tupI ms) = decide (ns = ms) := eqv_ints ns ms
theorem atI_snoc {cs : List Int} {z : Int} (h : cs.getLast? = some z) : atI (cs.map V.int) (-1) = some (.int z) := by
  have hl : cs ≠ [] := fun e => by rw [e] at h; cases h
  have e : cs = cs.dropLast ++ [cs.getLast hl] := (List.dropLast_concat_getLast hl).symm
  have ez : cs.getLast hl = z := by
    rw [List.getLast?_eq_getLast hl] at h
    exact Option.some.inj h
  rw [e, ez, List.map_append]
  exact atI_last _ _
theorem g_catA {K : PySem.W.Frag} {H : Hp} {Q : VK} {a b : Addr} {xs ys : List V} (ha : SqT K H a xs) (hb : SqT K H b ys) (hl : xs.length + ys.length ≤ sizeLine) (q : ∀ p H', Same H H' → SqT K H' p (xs ++ ys) → Q (.ref p) H') : rCatA K (.ref a) (.ref b) H Q :=
  ⟨a, b, xs, ys, rfl, rfl, ha, hb, hl, fun e => by subst e; exact q b H (Same.refl H) hb, fun _ e => by subst e; exact q a H (Same.refl H) (by simpa using ha), fun _ _ p np => q p _ (same_new np) SqT.new⟩
theorem dec_ite {c : Prop} [Decidable c] {A B : Prop} {b : Bool} (e : b = decide c) (h1 : c → A) (h2 : ¬ c → B) : if b = true then A else B := by
  subst e
  exact g_ite h1 h2
theorem walk_rng0 {n : Nat} : Walk (Itr 0 n) n (fun _ => True) (fun i H x H' => H' = H ∧ x = .int ((i : Nat) : Int)) :=
  walk_range.mono (fun _ h => h) fun i H x H' _ _ h => ⟨h.1, by rw [h.2]; show V.int (0 + (i : Int)) = _; rw [Int.zero_add]⟩
end Pf
namespace Pf
open PySem PySem.Spec PyProof.Rows L2
theorem ksFld {X : Cx} (K : PySem.W.Frag) {o value : Expr} {f : Str} {ta tv : TE} {pos pos' : Pos} (h : X.K = K) (ha : PE X o ta) (hv : PE X value tv) (hs : swapsWith value (some (.Attribute o f pos')) pos.line X.env = pure false) : PS X (.Assign [.Attribute o f pos'] value pos) (sFld K ta tv f) := h ▸ ps_fld ha hv hs
end Pf

namespace Pf
open PySem PySem.Spec PyProof.Rows L2
theorem g_sfld {K : PySem.W.Frag} {σ : L2.St} {H : Hp} {D : Ends} {ta tv : TE} {f : Str} (q : tv σ H fun y H1 => ta σ H1 fun x H2 => ∃ a C dx fs, x = .ref a ∧ H2 a = some (.ins C dx fs) ∧ Cls K C ∧ NoAttr K C f ∧ fs.length < 1000 ∧ D.nx σ (L2.upd H2 a (.ins C dx (putF f y fs)))) : sFld K ta tv f D σ H := q
theorem g_fld {K : PySem.W.Frag} {σ : L2.St} {H : Hp} {Q : VK} {ta : TE} {f : Str} (q : ta σ H fun x H1 => ∃ a C dx fs v, x = .ref a ∧ H1 a = some (.ins C dx fs) ∧ Cls K C ∧ NoAttr K C f ∧ fs.lookup f = some v ∧ Q v H1) : tFld K ta f σ H Q := q
theorem g_make {C : Addr} {sp : Sp} {dvs : List V} {E : XK} {t : TA} {σ : L2.St} {H : Hp} {Q : VK} (q : t σ H fun vs H1 => ∀ x dx, H1 x = none → H1 dx = none → dx ≠ x →
  sp (.ref x :: (vs ++ dvs)) (L2.upd (L2.upd H1 dx (.own x)) x (.ins C dx [])) (fun v H2 => v = .non ∧ Q (.ref x) H2) E) : tMake C sp dvs E t σ H Q := q
theorem g_lstRg {te : L2.St → Hp → (Int → Int → Hp → Prop) → Prop} {σ : L2.St} {H : Hp} {Q : VK} (q : te σ H fun a b H1 => RgOk a b ∧ ∀ q, H1 q = none → Q (.ref q) (L2.upd H1 q (.lst (rgV a b)))) : tLstRg te σ H Q := q
theorem g_tupRg {te : L2.St → Hp → (Int → Int → Hp → Prop) → Prop} {σ : L2.St} {H : Hp} {Q : VK} (q : te σ H fun a b H1 => RgOk a b ∧ ∀ q, H1 q = none → Q (.ref q) (L2.upd H1 q (.tup (rgV a b)))) : tTupRg te σ H Q := q
theorem g_rg1 {ta : TE} {σ : L2.St} {H : Hp} {Q : Int → Int → Hp → Prop} (q : ta σ H fun x H1 => ∃ n, x = .int n ∧ Q 0 n H1) : tRg1 ta σ H Q := q
end Pf

--BODY
namespace Pf
open PySem PySem.Spec PyProof.Rows L2
/-! ### enumerate of a tuple -/
/-- the iterator's cell of a tuple -/
abbrev tupIt (p : Addr) : Obj := { cls := .type "tuple_iterator", data := .fields #[.ref p, .int 0 0] }
/-- the cell of an enumerate over the iterator at i -/
abbrev enumO (i : Addr) : Obj := { cls := .type "enumerate", data := .fields #[.none, .bool false, .ref i, rawInt 0, .none, .none] }
theorem newEnumT (p : Addr) (xs : Array Value) :
    Meets (Builtin.«enumerate.__new__» ⟨[.type "enumerate", .ref p], []⟩)
      (fun _ R s => s.heap.IsTuple p xs ∧
        R (.ok (.ret (.ref (s.heap.push (tupIt p)).objs.size)))
          { s with heap := (s.heap.push (tupIt p)).push (enumO s.heap.objs.size) }) :=
  .of_wp fun pr wo AA R s0 hh => by
    obtain ⟨hp, gg, dd, tt, oo⟩ := s0
    obtain ⟨ht, hR⟩ := hh
    have hsu := sub_enumerate
    have it1 : ∀ {A' : Around} {E : Value → Shared → Prop} {Q : Value → Shared → Prop},
        Q (.ref hp.objs.size) ⟨hp.push (tupIt p), gg, dd, tt, oo⟩ → wpAny (model pr wo) A' (pyIter (.ref p)) Q E ⟨hp, gg, dd, tt, oo⟩ :=
      fun q => (begins_tuple p xs).iter pr wo _ _ ⟨hp, gg, dd, tt, oo⟩ _ ht q
    wp_walk using it1
    refine wpAny_stack_any fun _ => wpAny_pure ?_
    split
    · rename_i cc _ _ _ _ _
      cases (cc == Value.type "enumerate")
      · wp_walk using it1
        exact ⟨_, rfl, hR⟩
      · wp_walk using it1
        exact ⟨_, rfl, hR⟩
    · wp_walk using it1
      exact ⟨_, rfl, hR⟩
theorem callEnumT {pr : Program} {wo : World} {AA : Around} {E : Value → Shared → Prop} {s : Shared} {p : Addr} {xs : Array Value} {Q : Value → Shared → Prop} (ht : s.heap.IsTuple p xs)
    (h : ∀ h', IsEnum h' (s.heap.objs.size + 1) s.heap.objs.size 0 .none → h'.IsTupleIter s.heap.objs.size p 0 → h'.objs.size = s.heap.objs.size + 2 →
      (∀ b o, s.heap.get? b = some o → h'.get? b = some o) → Q (.ref (s.heap.objs.size + 1)) { s with heap := h' }) :
    wpAny (model pr wo) AA (call (.type "enumerate") [.ref p]) Q E s := by
  refine callType_new F.called_enumerate (by decide) (F.typeCall_enumerate_1 _) (F.newCall_enumerate_1 _)
    (fun ob => F.args_object_init_2 ob _) F.entry_enumerate_new (newEnumT p xs) ⟨ht, ?_⟩
  have hz : (s.heap.push (tupIt p)).objs.size = s.heap.objs.size + 1 := Heap.size_push ..
  show _ ∧ _
  rw [hz]
  have he : IsEnum ((s.heap.push (tupIt p)).push (enumO s.heap.objs.size)) (s.heap.objs.size + 1) s.heap.objs.size 0 .none := by
    have e1 := Heap.get?_push_size (s.heap.push (tupIt p)) (o := enumO s.heap.objs.size) rfl
    rw [hz] at e1
    exact e1
  exact ⟨⟨_, he, rfl⟩, h _ he ⟨_, Heap.get?_push_of_some _ (Heap.get?_push_size _ rfl), rfl, rfl⟩ (by rw [Heap.size_push, hz])
    fun b o z => Heap.get?_push_of_some _ (Heap.get?_push_of_some _ z)⟩
/-- the tuple at p as it stands at each turn, each item in a new pair -/
def IteT (K : PySem.W.Frag) (p : Addr) : It where
  go := fun i H => ∃ (xs : List V) (x : V), SqT K H p xs ∧ xs[i]? = some x
  yld := fun i H v H' => ∃ T x, v = .ref T ∧ H T = none ∧ H' = L2.upd H T (.tup [.int (i : Nat), x]) ∧ ∀ xs, SqT K H p xs → xs[i]? = some x
  stop := fun i H => ∃ xs : List V, SqT K H p xs ∧ xs.length = i
end Pf
namespace Pf
open PySem PySem.Spec PyProof.Rows L2
theorem turnEnumT {P : Program} {w : World} {K : PySem.W.Frag} {es : List Expr} {kk : Nat} {tp : Pos} (p e it : Addr) (hp : p ≠ it) (hpe : p ≠ e) :
    Turn P w K (.Tuple es kk tp) (IteT K p) [e, it] e
      (fun i h => (∃ old, IsEnum h e it ((i : Nat) : Int) old) ∧ h.IsTupleIter it p i ∧ e ≠ it) where
  mem := List.mem_cons_self ..
  obj := fun i h st b hb => by
    obtain ⟨⟨old, e1⟩, ⟨o, e2, _, e3⟩, _⟩ := st
    rcases List.mem_cons.mp hb with rfl | hb
    · exact ⟨_, e1, fun v z => nomatch z⟩
    · rw [List.mem_singleton.mp hb]
      exact ⟨o, e2, fun v z => by rw [e3] at z; cases z⟩
  keep := fun i h h' st k =>
    let ⟨⟨old, e1⟩, e2, n⟩ := st
    ⟨⟨old, k e (List.mem_cons_self ..) _ e1⟩, e2.at fun o z => k it (by simp) o z, n⟩
  item := by
    intro X hP hw hK hc i pins s σ H E I hf st hg
    subst hP hw hK
    obtain ⟨⟨old, e1⟩, e2, ne⟩ := st
    obtain ⟨xs, x, hq, hx⟩ := hg
    obtain ⟨its, rv, pt, _⟩ := I.tuple hq
    obtain ⟨u, hu, ru⟩ := rv.get hx
    have l1 : e < s.heap.objs.size := Heap.lt_size e1
    have l2 : it < s.heap.objs.size := by
      obtain ⟨_, z, _⟩ := e2
      exact Heap.lt_size z
    have hn : e ∉ [it, p] := fun z => by
      rcases List.mem_cons.mp z with z | z
      · exact ne z
      · exact hpe (List.mem_singleton.mp z).symm
    have hu2 : its.toArray[i]? = some u := by simpa using hu
    have li : i < its.toArray.size := (Array.getElem?_eq_some_iff.mp hu2).1
    refine wpAny_pyNext_enum_itemD (Draws.tuple (show X.A.in1.handled = none from I.ok.hd hc) it p hp its.toArray) e1 ⟨e2, pt⟩ li ne hn fun y h' tk hy ho hit' hT hsz hk => ?_
    have ey : y = u := Option.some.inj (hy.symm.trans hu2)
    subst ey
    refine ⟨_, rfl, wpAny_letOwnedTupleGo_enum (s := { s with heap := h', toks := tk + 1 }) ho fun h2 he2 sb => ?_⟩
    have hT2 : h2.get? s.heap.objs.size = some { cls := .type "tuple", data := .seq #[.int i tk, y] } := (sb.2 _ (Nat.ne_of_gt l1)).trans hT
    have nw : ObjOk X.prog X.w (L2.upd H s.heap.objs.size (.tup [.int (i : Nat), x])) h2 s.heap.objs.size (.tup [.int (i : Nat), x]) :=
      ⟨by show 2 ≤ sizeLine; decide, [.int i tk, y], .cons ⟨_, rfl⟩ (.cons ru .nil), ⟨_, hT2, rfl, _, rfl⟩⟩
    have I1 : Inv X pins σ (L2.upd H s.heap.objs.size (.tup [.int (i : Nat), x])) { s with heap := h2, toks := tk + 1 } :=
      I.turnedNew (ch := [e, it]) (fun b o hb z => (sb.2 b (fun q => hb (by simp [q]))).trans (hk b o (fun q => hb (by simp [q])) (fun q => hb (by simp [q])) z)) hf (Nat.le_refl _) nw
    refine ⟨.ref s.heap.objs.size, _, I1, rfl, ⟨_, x, rfl, I.hok.fresh (Nat.le_refl _), rfl, fun ys hy => by rw [I.tuple_inj hy hq]; exact hx⟩,
      ⟨⟨y, ?_⟩, hit'.1.at fun o z => (sb.2 it (Ne.symm ne)).trans z, ne⟩, fun b hb => ?_⟩
    · rw [show ((i + 1 : Nat) : Int) = (i : Int) + 1 by omega]
      exact he2
    · have lb : b < s.heap.objs.size := by
        rcases List.mem_cons.mp hb with rfl | hb
        · exact l1
        · rw [List.mem_singleton.mp hb]; exact l2
      rw [upd_ne (Nat.ne_of_lt lb)]
      exact (hf b hb).1
  done := by
    intro X hP hw hK hc i pins s σ H E I hf st hg
    subst hP hw hK
    obtain ⟨⟨old, e1⟩, e2, ne⟩ := st
    obtain ⟨xs, hq, hx⟩ := hg
    obtain ⟨its, rv, pt, _⟩ := I.tuple hq
    obtain ⟨f0, f1, f2, f3, f4, f5⟩ := hf it (by simp)
    have lr := rv.length
    have hs : its.toArray.size = i := by
      rw [List.size_toArray]
      omega
    subst hs
    exact wpAny_pyNext_enum_endD (Draws.tuple (show X.A.in1.handled = none from I.ok.hd hc) it p hp its.toArray) e1 ⟨e2, pt⟩
      fun h' eb => ⟨rfl, I.turned (t' := s.toks) (fun b o hb z => eb b o hb z) f0 f1 f3 f4 f5⟩
  self := fun A i s Q E st h => let ⟨⟨_, z⟩, _⟩ := st; wpAny_pyIter_enum z h

/-- enumerate of a list or of a tuple -/
def iEnumA (K : PySem.W.Frag) (ta : TA) : TI := fun σ H R => ta σ H fun vs H1 => ∃ p xs, vs = [.ref p] ∧ ((SqL K H1 p xs ∧ R (Ite K p) H1) ∨ (SqT K H1 p xs ∧ R (IteT K p) H1))
theorem pi_enumT {X : Cx} {e : Expr} {ta : TA} {p pos tp : Pos} {es : List Expr} {kk : Nat} (hg : Gl X "enumerate") (hm : X.mg "enumerate" = none) (ha : PA X [e] ta)
    (hs : starEach [e] X.env = [(false, eval e X.env)] := by rfl) :
    PI X (.Tuple es kk tp) (.Call (.Name "enumerate" p) [e] [] pos) (fun σ H R => ta σ H fun vs H1 => ∃ p xs, vs = [.ref p] ∧ SqT X.K H1 p xs ∧ R (IteT X.K p) H1) := by
  refine ⟨fun pins s σ H R I h => Call_ (ld_blt I hg hm boot_enumerate (PyProof.Rows.callWith_type1 (thn (ha.run pos pins s σ H _ I h) fun us s1 ⟨vs, H1, I1, r1, q1⟩ => ?_) hs rfl))⟩
  obtain ⟨q, xs, ex, hq, hR⟩ := q1
  subst ex
  cases r1 with
  | cons r rr =>
    cases rr
    cases r
    obtain ⟨its, rv, pt, _⟩ := I1.tuple hq
    obtain ⟨ot, et, _⟩ := id pt
    have lq : q < s1.heap.objs.size := Heap.lt_size et
    refine callEnumT pt fun h' he hit hsz hk => wpAny_pyIter_enum he ?_
    have I2 : Inv X pins σ H1 { s1 with heap := h' } := I1.kept (t' := s1.toks) hk
    refine ⟨s1.heap.objs.size + 1, [s1.heap.objs.size + 1, s1.heap.objs.size], _, _, H1, rfl, I2,
      turnEnumT q (s1.heap.objs.size + 1) s1.heap.objs.size (Nat.ne_of_lt lq) (Nat.ne_of_lt (Nat.lt_succ_of_lt lq)), ⟨⟨.none, he⟩, hit, Nat.succ_ne_self _⟩, fun b hb => ?_, hR⟩
    have lb : s1.heap.objs.size ≤ b := by
      rcases List.mem_cons.mp hb with rfl | hb
      · omega
      · rw [List.mem_singleton.mp hb]; exact Nat.le_refl _
    exact I1.fpOk lb (I1.hok.fresh lb)
theorem kiEnumT {X : Cx} (K : PySem.W.Frag) {e : Expr} {ta : TA} {p pos tp : Pos} {es : List Expr} {kk : Nat} (h : X.K = K) (hg : Gl X "enumerate") (hm : X.mg "enumerate" = none) (ha : PA X [e] ta)
    (hs : starEach [e] X.env = [(false, eval e X.env)] := by rfl) :
    PI X (.Tuple es kk tp) (.Call (.Name "enumerate" p) [e] [] pos) (fun σ H R => ta σ H fun vs H1 => ∃ p xs, vs = [.ref p] ∧ SqT K H1 p xs ∧ R (IteT K p) H1) := h ▸ pi_enumT hg hm ha hs
theorem walk_enumT {K : PySem.W.Frag} {p : Addr} {xs : List V} : Walk (IteT K p) xs.length (fun H => SqT K H p xs) (YPair (fun i => some (.int (i : Nat))) (fun i => xs[i]?)) where
  goes := fun i H hi q => ⟨xs, xs[i], q, List.getElem?_eq_getElem hi⟩
  stops := fun H q => ⟨xs, q, rfl⟩
  yields := fun i H x H' hi q ⟨T, y, e, nT, e2, f⟩ => ⟨T, .int (i : Nat), y, e, nT, e2, rfl, f xs q⟩
end Pf
namespace Pf
open PySem PySem.Spec PyProof.Rows L2
/-! ### rows, logs, doings as data -/
abbrev Row := Int × Int × Bool
def rowD (r : Row) : PyData := .tuple [.int r.1, .int r.2.1, .bool r.2.2]
def rowsD (rs : List Row) : PyData := .tuple (rs.map rowD)
def flagsD (fs : List Bool) : PyData := .tuple (fs.map PyData.bool)
def GoodRow (n : Int) (r : Row) : Prop := 0 ≤ r.1 ∧ r.1 < n ∧ 0 ≤ r.2.1 ∧ r.2.1 < n ∧ (r.2.1 = r.1 + 1 ∨ r.2.1 = r.1 - 1)
theorem im_rowD (r : Row) : im (rowD r) = true := rfl
theorem imAll_map {α : Type} {f : α → PyData} (h : ∀ x, im (f x) = true) (xs : List α) : imAll (xs.map f) = true := (imAll_iff _).mpr fun e he => by
  obtain ⟨x, _, rfl⟩ := List.mem_map.mp he
  exact h x
theorem im_rowsD (rs : List Row) : im (rowsD rs) = true := imAll_map im_rowD rs
theorem im_flagsD (fs : List Bool) : im (flagsD fs) = true := imAll_map (f := PyData.bool) (fun _ => rfl) fs
theorem of_row {K : PySem.W.Frag} {H : Hp} {v : V} {r : Row} (h : Dp K H v (rowD r)) : ∃ p, v = .ref p ∧ SqT K H p [.int r.1, .int r.2.1, .bl r.2.2] := by
  unfold rowD at h
  cases h with
  | tup q a =>
    cases a with
    | cons a1 a2 =>
      cases a2 with
      | cons a3 a4 =>
        cases a4 with
        | cons a5 a6 =>
          cases a6
          cases a1; cases a3; cases a5
          exact ⟨_, rfl, q⟩
theorem dp_row {K : PySem.W.Frag} {H : Hp} {p : Addr} {r : Row} (h : SqT K H p [.int r.1, .int r.2.1, .bl r.2.2]) : Dp K H (.ref p) (rowD r) := .tup h (.cons (.int _) (.cons (.int _) (.cons (.bl _) .nil)))
theorem of_tup {K : PySem.W.Frag} {H : Hp} {v : V} {ds : List PyData} (h : Dp K H v (.tuple ds)) : ∃ p xs, v = .ref p ∧ SqT K H p xs ∧ DpAll K H xs ds := by
  cases h with
  | tup q a => exact ⟨_, _, rfl, q, a⟩
theorem dpAll_flags {K : PySem.W.Frag} {H : Hp} : ∀ fs : List Bool, DpAll K H (fs.map V.bl) (fs.map PyData.bool)
  | [] => .nil
  | b :: r => .cons (.bl b) (dpAll_flags r)
theorem dpAll_flags_eq {K : PySem.W.Frag} {H : Hp} : ∀ {fs : List Bool} {vs : List V}, DpAll K H vs (fs.map PyData.bool) → vs = fs.map V.bl
  | [], _, .nil => rfl
  | b :: r, _, .cons p q => by
    cases p
    rw [dpAll_flags_eq q]
    rfl
theorem of_flags {K : PySem.W.Frag} {H : Hp} {v : V} {fs : List Bool} (h : Dp K H v (flagsD fs)) : ∃ p, v = .ref p ∧ SqT K H p (fs.map V.bl) := by
  obtain ⟨p, xs, rfl, q, a⟩ := of_tup h
  rw [dpAll_flags_eq a] at q
  exact ⟨p, rfl, q⟩
theorem dp_flags {K : PySem.W.Frag} {H : Hp} {p : Addr} {fs : List Bool} (h : SqT K H p (fs.map V.bl)) : Dp K H (.ref p) (flagsD fs) := .tup h (dpAll_flags fs)
/-- a log of n offices with the rows rs, of the class at C -/
def LogAt (K : PySem.W.Frag) (C : Addr) (H : Hp) (v : V) (n : Int) (rs : List Row) : Prop := ∃ a dx p, v = .ref a ∧ H a = some (.ins C dx [("offices", .int n), ("rows", .ref p)]) ∧ Dp K H (.ref p) (rowsD rs)
theorem LogAt.tx {K : PySem.W.Frag} {C : Addr} {H H' : Hp} {v : V} {n : Int} {rs : List Row} (h : LogAt K C H v n rs) (t : Tx H H') : LogAt K C H' v n rs := by
  obtain ⟨a, dx, p, rfl, e, d⟩ := h
  exact ⟨a, dx, p, rfl, t _ _ e (fun z w => by cases w), Dp.tx t _ _ (im_rowsD rs) d⟩
def GoodLog (n : Int) (rs : List Row) : Prop := 1 ≤ n ∧ n ≤ 12 ∧ rs.length ≤ 60 ∧ ∀ r ∈ rs, GoodRow n r
/-- a log that may have been returned: rows of any number -/
def AnyLog (n : Int) (rs : List Row) : Prop := 1 ≤ n ∧ n ≤ 12 ∧ rs.length ≤ 100000 ∧ ∀ r ∈ rs, GoodRow n r
theorem map_get {α β : Type} {f : α → β} {xs : List α} {i : Nat} {x : α} (h : xs[i]? = some x) : (xs.map f)[i]? = some (f x) := by rw [List.getElem?_map, h]; rfl
end Pf
namespace Pf
open PySem PySem.Spec PyProof.Rows L2
/-! ### sheets led over rows -/
theorem rising_range {f : Nat → Int} {n : Nat} (h : ∀ i j, i ≤ j → j < n → f i ≤ f j) : ((List.range n).map f).Pairwise (· ≤ ·) := by
  rw [List.pairwise_iff_getElem]
  intro i j hi hj hij
  have hj' : j < n := by simpa using hj
  simp only [List.getElem_map, List.getElem_range]
  exact h i j (by omega) hj'
def firstSt (n : Int) : List Int := (List.range n.toNat).map fun (i : Nat) => (i : Int)
def stepR (hs : List Int) (r : Row) (f : Bool) : List Int := if f = true then hs.set r.1.toNat (hs.getD r.2.1.toNat 0) else hs
def stAt (n : Int) (rs : List Row) (fs : List Bool) (i : Nat) : List Int := ((rs.zip fs).take i).foldl (fun h p => stepR h p.1 p.2) (firstSt n)
def allSt (n : Int) (rs : List Row) (fs : List Bool) : List PyData := (List.range (rs.length + 1)).map fun i => tupI (stAt n rs fs i)
theorem st_succ {n : Int} {rs : List Row} {fs : List Bool} {i : Nat} {r : Row} {f : Bool} (h : rs[i]? = some r) (k : fs[i]? = some f) : stAt n rs fs (i + 1) = stepR (stAt n rs fs i) r f := by
  unfold stAt
  rw [take_snoc ((List.getElem?_zip_eq_some (z := (r, f))).mpr ⟨h, k⟩), List.foldl_append]
  rfl
/-- sheets of n offices: they never fall -/
def GoodSt (n : Int) (hs : List Int) : Prop := (hs.length : Int) = n ∧ (∀ x ∈ hs, 0 ≤ x ∧ x < n) ∧ hs.Pairwise (· ≤ ·)
theorem firstSt_len (n : Int) : (firstSt n).length = n.toNat := by unfold firstSt; simp
theorem first_good {n : Int} (h : 0 ≤ n) : GoodSt n (firstSt n) := by
  refine ⟨by rw [firstSt_len]; omega, fun x hx => ?_, ?_⟩
  · obtain ⟨i, hi, rfl⟩ := List.mem_map.mp hx
    have := List.mem_range.mp hi
    omega
  · exact rising_range fun i j hij _ => by omega
theorem getD_of {hs : List Int} {i : Nat} {z : Int} (h : hs[i]? = some z) : hs.getD i 0 = z := by
  rw [List.getD_eq_getElem?_getD, h]; rfl
theorem set_good {n : Int} {hs : List Int} (h : GoodSt n hs) {x y : Nat} (hx : (x : Int) < n) (hy : (y : Int) < n) (hn : y = x + 1 ∨ x = y + 1) : GoodSt n (hs.set x (hs.getD y 0)) := by
  obtain ⟨h1, h2, h3⟩ := h
  have hyl : y < hs.length := by omega
  have e : hs.getD y 0 = hs[y] := getD_of (List.getElem?_eq_getElem hyl)
  rw [e]
  refine ⟨by rw [List.length_set]; exact h1, fun z hz => ?_, ?_⟩
  · rcases List.mem_or_eq_of_mem_set hz with hz | hz
    · exact h2 z hz
    · rw [hz]; exact h2 _ (List.getElem_mem hyl)
  · rw [List.pairwise_iff_getElem] at h3 ⊢
    intro i j hi hj hij
    rw [List.length_set] at hi hj
    rw [List.getElem_set, List.getElem_set]
    split
    · rename_i e1
      subst e1
      rw [if_neg (by omega)]
      by_cases q : y = j
      · subst q; exact Int.le_refl _
      · exact h3 y j hyl hj (by omega)
    · split
      · rename_i e1 e2
        subst e2
        by_cases q : i = y
        · subst q; exact Int.le_refl _
        · exact h3 i y hi hyl (by omega)
      · exact h3 i j hi hj hij
theorem step_good {n : Int} {hs : List Int} (h : GoodSt n hs) {r : Row} (g : GoodRow n r) (f : Bool) : GoodSt n (stepR hs r f) := by
  unfold stepR
  obtain ⟨g1, g2, g3, g4, g5⟩ := g
  split
  · exact set_good h (by omega) (by omega) (by omega)
  · exact h
theorem st_good {n : Int} (hn : 0 ≤ n) {rs : List Row} {fs : List Bool} (hg : ∀ r ∈ rs, GoodRow n r) (hl : fs.length = rs.length) : ∀ i, i ≤ rs.length → GoodSt n (stAt n rs fs i)
  | 0, _ => first_good hn
  | i + 1, h => by
    have hi : i < rs.length := by omega
    have hf : i < fs.length := by omega
    rw [st_succ (List.getElem?_eq_getElem hi) (List.getElem?_eq_getElem hf)]
    exact step_good (st_good hn hg hl i (by omega)) (hg _ (List.getElem_mem hi)) _
theorem rgV_first (n : Int) : rgV 0 n = (firstSt n).map V.int := by
  unfold rgV firstSt
  rw [List.map_map, Int.sub_zero]
  refine List.map_congr_left fun i _ => ?_
  show V.int (0 + (i : Int)) = V.int (i : Int)
  rw [Int.zero_add]
theorem atI_lastG {α : Type} {xs : List α} {v : α} (h : xs[xs.length - 1]? = some v) : atI xs (-1) = some v := by
  have hl : xs ≠ [] := fun e => by rw [e] at h; cases h
  have e : xs = xs.dropLast ++ [xs.getLast hl] := (List.dropLast_concat_getLast hl).symm
  have ez : xs.getLast hl = v := by
    rw [← List.getLast?_eq_getElem?, List.getLast?_eq_getLast hl] at h
    exact Option.some.inj h
  rw [e, ez]
  exact atI_last _ _
/-- an item by a whole number -/
theorem atI_at {α : Type} {xs : List α} {i : Int} {v : α} (h0 : 0 ≤ i) (h : xs[i.toNat]? = some v) : atI xs i = some v := by
  have e : i = ((i.toNat : Nat) : Int) := by omega
  rw [e]
  exact atI_nat h
theorem ixN_at {n : Nat} {i : Int} (h0 : 0 ≤ i) (h : i < n) : ixN n i = some i.toNat := by
  unfold ixN
  rw [if_pos h0, if_pos h]
theorem range1_map {α : Type} {f : Nat → α} {n : Nat} : (List.range (n + 1)).map f = (List.range n).map f ++ [f n] := by
  rw [List.range_succ, List.map_append]
  rfl
theorem imAll_tupI (f : Nat → List Int) (n : Nat) : imAll ((List.range n).map fun i => tupI (f i)) = true := imAll_map (fun i => im_ints _) _
/-- drawn data, each by its place -/
theorem lc_drawI {K : PySem.W.Frag} {J : It} {n : Nat} {G : Hp → Prop} {Y : Nat → Hp → V → Hp → Prop} {g : TG} {tt : TT} {te : TE} {vs : List Nat} {σ : L2.St} {H1 : Hp} {D : Addr} {Qd : Hp → Prop} {d c : Addr} (w : Walk J n G Y) (PD : Nat → PyData → Prop) (hn : n < sizeLine) (him : ∀ i e, PD i e → im e = true) (nD1 : H1 D = none) (hD : Dice d c H1) (hG : ∀ H, Fr d H1 H → G H)
    (hs : ∀ i x H H' (C : V → Hp → Prop) (Cn : Hp → Prop), i < n → Fr d H1 H → Dice d c H → Y i H x H' → (∀ y e H4, Fr d H H4 → Dice d c H4 → Dp K H4 y e → PD i e → C y H4) →
      g x (wipe σ vs) H' fun σ2 H2 => wipe σ2 vs = wipe σ vs ∧ tt σ2 H2 fun b H3 => if b = true then te σ2 H3 C else Cn H3)
    (hd : ∀ H xs ds, Fr d H1 H → Dice d c H → H D = some (.lst xs) → DpAll K H xs ds → ds.length = n → (∀ i e, ds[i]? = some e → PD i e) → Qd H) :
    ∃ W : Nat → Nat → Hp → Prop, (∃ m, W 0 m (L2.upd H1 D (.lst []))) ∧ ∀ i m H, W i m H →
      (J.stop i H ∧ Qd H) ∨ (J.go i H ∧ ∃ Nx : Hp → Prop, (∀ H', Nx H' → ∃ m', m' < m ∧ W (i + 1) m' H') ∧ ∀ x H', J.yld i H x H' → g x (wipe σ vs) H' fun σ2 H2 => wipe σ2 vs = wipe σ vs ∧ tt σ2 H2 fun b H3 =>
        if b = true then te σ2 H3 fun y H4 => ∃ acc, H4 D = some (.lst acc) ∧ acc.length < sizeLine ∧ Nx (L2.upd H4 D (.lst (acc ++ [y]))) else Nx H3) := by
  refine lc_cps w (fun i H acc => Fr d H1 H ∧ Dice d c H ∧ ∃ ds, DpAll K H acc ds ∧ ds.length = i ∧ ∀ i e, ds[i]? = some e → PD i e) ⟨Fr.new nD1, hD.new nD1, [], .nil, rfl, fun i e h => by simp at h⟩ (fun i H acc hi r e => hG H r.1) (fun i x H H' acc C Cn hi r e hy hC hN => ?_)
    (fun H acc ⟨r1, r2, ds, r3, r4, r5⟩ e => hd H acc ds r1 r2 e r3 r4 r5)
  obtain ⟨r1, r2, ds, r3, r4, r5⟩ := r
  refine hs i x H H' C Cn hi r1 r2 hy (fun y ee H4 f4 d4 dy pe => ?_)
  have e4 : H4 D = some (.lst acc) := f4 _ _ (hD.nd nD1) e
  have hall : ∀ j z, (ds ++ [ee])[j]? = some z → PD j z := fun j z hz => by
    by_cases hj : j < ds.length
    · rw [List.getElem?_append_left hj] at hz
      exact r5 j z hz
    · have hj2 : j = ds.length := by
        have := (List.getElem?_eq_some_iff.mp hz).1
        rw [List.length_append, List.length_singleton] at this
        omega
      subst hj2
      rw [List.getElem?_concat_length] at hz
      cases hz
      rw [r4]
      exact pe
  refine hC y H4 e4 (by rw [DpAll.len r3]; omega) ⟨Fr.put (r1.trans f4) nD1, d4.put (hD.nd nD1) (hD.nc nD1), ds ++ [ee], ?_, by rw [List.length_append, r4]; rfl, hall⟩
  have im1 : imAll (ds ++ [ee]) = true := (imAll_iff _).mpr fun z hz => by
    obtain ⟨j, hj⟩ := List.mem_iff_getElem?.mp hz
    exact him j z (hall j z hj)
  have im0 : imAll ds = true := (imAll_iff _).mpr fun z hz => by
    obtain ⟨j, hj⟩ := List.mem_iff_getElem?.mp hz
    exact him j z (r5 j z hj)
  exact Dp.txAll (Tx.lst e4) _ _ im1 (DpAll.snoc (Dp.txAll (r2.tx f4) _ _ im0 r3) dy)
end Pf
namespace Pf
open PySem PySem.Spec PyProof.Rows L2
theorem cutV_take (xs : List V) (i : Nat) : cutV xs none (some (i : Int)) = xs.take i := by
  unfold cutV
  rw [HT.sIx_none, HT.sIx_nat, Nat.sub_zero, List.drop_zero]
  by_cases h : i ≤ xs.length
  · rw [Nat.min_eq_left h]
  · rw [Nat.min_eq_right (by omega), List.take_length, List.take_of_length_le (by omega)]
theorem cutV_drop (xs : List V) (i : Nat) : cutV xs (some (i : Int)) none = xs.drop i := by
  unfold cutV
  rw [HT.sIx_none, HT.sIx_nat]
  by_cases h : i ≤ xs.length
  · rw [Nat.min_eq_left h]
    exact List.take_of_length_le (by rw [List.length_drop]; exact Nat.le_refl _)
  · rw [Nat.min_eq_right (by omega), Nat.sub_self, List.take_zero, List.drop_of_length_le (by omega)]
abbrev lstI (ns : List Int) : PyData := .list (ns.map PyData.int)
theorem shaped_lstI (ns : List Int) : SeqAt.shaped (lstI ns) = true := by
  unfold SeqAt.shaped
  rw [Bool.and_eq_true]
  refine ⟨canLay_ints ns, decide_eq_true ?_⟩
  show PyData.depthAll (ns.map PyData.int) + 1 ≤ 64
  rw [depth_ints]
  decide
theorem eqv_lstI (ns ms : List Int) : PyData.eqv (lstI ns) (lstI ms) = decide (ns = ms) := eqv_ints ns ms
theorem dp_lstI {K : PySem.W.Frag} {H : Hp} {p : Addr} {ns : List Int} (h : SqL K H p (ns.map V.int)) : Dp K H (.ref p) (lstI ns) := .lst h (dpAll_ints ns)
/-- a log as it is made -/
theorem log_made {H H' : Hp} {C x dx : Addr} (nx : H x = none) (nd : H dx = none) (f : Fr x (L2.upd (L2.upd H dx (.own x)) x (.ins C dx [])) H') : Same H H' := fun b o e => by
  have n1 : b ≠ x := ne_of_none e nx
  have n2 : b ≠ dx := ne_of_none e nd
  exact f b o n1 (by rw [upd_ne n1, upd_ne n2]; exact e)
theorem set_cut {hs : List Int} {x : Nat} {z : Int} (h : x < hs.length) : (hs.set x z).map V.int = ((hs.map V.int).take x ++ [V.int z]) ++ (hs.map V.int).drop (x + 1) := by
  rw [List.set_eq_take_append_cons_drop, if_pos h, List.map_append, List.map_cons, List.map_take, List.map_drop, List.append_assoc]
  rfl
/-- drawn whole numbers -/
def IntIn (m : Int) (e : PyData) : Prop := ∃ z, e = .int z ∧ 0 ≤ z ∧ z < m
theorem IntIn.all {K : PySem.W.Frag} {H : Hp} {m : Int} : ∀ {xs : List V} {ds : List PyData}, DpAll K H xs ds → (∀ e ∈ ds, IntIn m e) → ∃ ns : List Int, xs = ns.map V.int ∧ ns.length = ds.length ∧ ∀ x ∈ ns, 0 ≤ x ∧ x < m
  | _, _, .nil, _ => ⟨[], rfl, rfl, fun x hx => by cases hx⟩
  | _, _, .cons p q, h => by
    obtain ⟨ns, e1, e2, e3⟩ := IntIn.all q fun e he => h e (List.mem_cons_of_mem _ he)
    obtain ⟨z, rfl, z0, z1⟩ := h _ (List.mem_cons_self ..)
    cases p
    refine ⟨z :: ns, by rw [e1]; rfl, by rw [List.length_cons, List.length_cons, e2], fun x hx => ?_⟩
    rcases List.mem_cons.mp hx with rfl | hx
    · exact ⟨z0, z1⟩
    · exact e3 x hx
end Pf

--BODY
namespace Pf
open PySem PySem.Spec PyProof.Rows L2
theorem DpAll.take {K : PySem.W.Frag} {H : Hp} : ∀ {xs : List V} {ds : List PyData} (i : Nat), DpAll K H xs ds → DpAll K H (xs.take i) (ds.take i)
  | _, _, 0, _ => by rw [List.take_zero, List.take_zero]; exact .nil
  | _, _, _ + 1, .nil => by rw [List.take_nil, List.take_nil]; exact .nil
  | _, _, i + 1, .cons p q => by rw [List.take_succ_cons, List.take_succ_cons]; exact .cons p (DpAll.take i q)
theorem DpAll.drop {K : PySem.W.Frag} {H : Hp} : ∀ {xs : List V} {ds : List PyData} (i : Nat), DpAll K H xs ds → DpAll K H (xs.drop i) (ds.drop i)
  | _, _, 0, h => by rw [List.drop_zero, List.drop_zero]; exact h
  | _, _, _ + 1, .nil => by rw [List.drop_nil, List.drop_nil]; exact .nil
  | _, _, i + 1, .cons p q => by rw [List.drop_succ_cons, List.drop_succ_cons]; exact DpAll.drop i q
theorem canLay_rows : ∀ rs : List Row, PyData.canLayAll0 (rs.map rowD) = true
  | [] => rfl
  | r :: rs => by
    show (PyData.canLay0 (rowD r) && PyData.canLayAll0 (rs.map rowD)) = true
    rw [canLay_rows rs]
    rfl
theorem depth_rows : ∀ rs : List Row, PyData.depthAll (rs.map rowD) ≤ 1
  | [] => Nat.zero_le _
  | r :: rs => by
    have := depth_rows rs
    show max (PyData.depth (rowD r)) (PyData.depthAll (rs.map rowD)) ≤ 1
    have e : PyData.depth (rowD r) = 1 := rfl
    omega
theorem shaped_rowsD (rs : List Row) : SeqAt.shaped (rowsD rs) = true := by
  unfold SeqAt.shaped
  rw [Bool.and_eq_true]
  refine ⟨canLay_rows rs, decide_eq_true ?_⟩
  have := depth_rows rs
  show PyData.depthAll (rs.map rowD) + 1 ≤ 64
  omega
theorem eqv_self {d : PyData} (h : SeqAt.shaped d = true) : PyData.eqv d d = true := SeqAt.eqv_refl d (SeqAt.canLay_of_shaped h)
/-- two logs alike -/
def LogEq (K : PySem.W.Frag) (C : Addr) (x y : Addr) (H : Hp) : Prop := ∃ n rs, LogAt K C H (.ref x) n rs ∧ LogAt K C H (.ref y) n rs
def loose (rs : List Row) : List Row := rs.map fun r => (r.1, r.2.1, false)
end Pf
namespace Pf
open PySem PySem.Spec PyProof.Rows L2
theorem loose_st (n : Int) (rs : List Row) (fs : List Bool) (i : Nat) : stAt n (loose rs) fs i = stAt n rs fs i := by
  unfold stAt loose
  rw [List.zip_map_left, ← List.map_take, List.foldl_map]
  rfl
theorem loose_len (rs : List Row) : (loose rs).length = rs.length := by unfold loose; simp
theorem loose_good {n : Int} {rs : List Row} (h : AnyLog n rs) : AnyLog n (loose rs) := ⟨h.1, h.2.1, by rw [loose_len]; exact h.2.2.1, fun r hr => by
  obtain ⟨q, hq, rfl⟩ := List.mem_map.mp hr
  exact h.2.2.2 q hq⟩
theorem put_out {rs : List Row} {r : Row} {k : Nat} (h : k ≤ rs.length) : (rs.take k ++ r :: rs.drop k).take k ++ (rs.take k ++ r :: rs.drop k).drop (k + 1) = rs := by
  have e : (rs.take k).length = k := by rw [List.length_take]; omega
  rw [List.take_append_of_le_length (by omega), List.take_of_length_le (by omega), List.drop_append, e, List.drop_of_length_le (by omega), show k + 1 - k = 1 by omega]
  show rs.take k ++ ([] ++ rs.drop k) = rs
  rw [List.nil_append, List.take_append_drop]
theorem dp_cut {K : PySem.W.Frag} {H : Hp} {p : Addr} {xs : List V} {rs : List Row} {i j : Nat} (h : SqT K H p (xs.take i ++ xs.drop j)) (ha : DpAll K H xs (rs.map rowD)) : Dp K H (.ref p) (rowsD (rs.take i ++ rs.drop j)) := .tup h (by
  rw [List.map_append, List.map_take, List.map_drop]
  exact DpAll.app (DpAll.take _ ha) (DpAll.drop _ ha))
theorem dp_put {K : PySem.W.Frag} {H : Hp} {p : Addr} {xs : List V} {rs : List Row} {i j : Nat} {v : V} {r : Row} (h : SqT K H p ((xs.take i ++ [v]) ++ xs.drop j)) (ha : DpAll K H xs (rs.map rowD)) (hv : Dp K H v (rowD r)) : Dp K H (.ref p) (rowsD (rs.take i ++ r :: rs.drop j)) := .tup h (by
  rw [List.map_append, List.map_cons, List.map_take, List.map_drop, show rowD r :: List.drop j (List.map rowD rs) = [rowD r] ++ List.drop j (List.map rowD rs) from rfl, ← List.append_assoc]
  exact DpAll.app (DpAll.app (DpAll.take _ ha) (.cons hv .nil)) (DpAll.drop _ ha))
end Pf
namespace Pf
open PySem PySem.Spec PyProof.Rows L2
theorem units65 {k : Nat} {A : Around} (hr : Room k A) : A.units + 65 < cLine := by
  have := hr.un
  omega
def idleP (n : Int) (rs : List Row) (fs : List Bool) (i : Nat) : Bool := fs.getD i false && decide (stAt n rs fs i = stAt n rs fs (i + 1))
def idleTo (n : Int) (rs : List Row) (fs : List Bool) (m : Nat) : List Int := ((List.range m).filter (idleP n rs fs)).map fun (i : Nat) => (i : Int)
theorem idle_succ (n : Int) (rs : List Row) (fs : List Bool) (m : Nat) : idleTo n rs fs (m + 1) = idleTo n rs fs m ++ (if idleP n rs fs m = true then [(m : Int)] else []) := by
  unfold idleTo
  rw [List.range_succ, List.filter_append, List.map_append]
  by_cases h : idleP n rs fs m = true
  · rw [filt1 h, if_pos h]; rfl
  · rw [filt0 h, if_neg h]; rfl
theorem idle_len (n : Int) (rs : List Row) (fs : List Bool) (m : Nat) : (idleTo n rs fs m).length ≤ m := by
  unfold idleTo
  rw [List.length_map]
  have := List.length_filter_le (idleP n rs fs) (List.range m)
  rw [List.length_range] at this
  exact this
theorem allSt_at {n : Int} {rs : List Row} {fs : List Bool} {j : Nat} (h : j ≤ rs.length) : (allSt n rs fs)[j]? = some (tupI (stAt n rs fs j)) := by
  unfold allSt
  rw [List.getElem?_map, List.getElem?_range (by omega)]
  rfl
theorem allSt_len (n : Int) (rs : List Row) (fs : List Bool) : (allSt n rs fs).length = rs.length + 1 := by unfold allSt; simp
theorem imAll_allSt (n : Int) (rs : List Row) (fs : List Bool) : imAll (allSt n rs fs) = true := imAll_tupI _ _
/-- an item of such a list -/
theorem st_item {K : PySem.W.Frag} {H : Hp} {xs : List V} {n : Int} {rs : List Row} {fs : List Bool} {j : Nat} (h : DpAll K H xs (allSt n rs fs)) (hj : j ≤ rs.length) : ∃ v, xs[j]? = some v ∧ Dp K H v (tupI (stAt n rs fs j)) := by
  have hl : j < xs.length := by rw [DpAll.len h, allSt_len]; omega
  exact ⟨_, List.getElem?_eq_getElem hl, DpAll.at h (List.getElem?_eq_getElem hl) (allSt_at hj)⟩
/-- all doings of rows -/
def dStep (r : Row) (d : List Bool) : List (List Bool) := if r.2.2 = true then [d ++ [true]] else [d ++ [false], d ++ [true]]
def dTo : List Row → List (List Bool) → List (List Bool)
  | [], ds => ds
  | r :: rs, ds => dTo rs (ds.flatMap (dStep r))
def dAt (rs : List Row) (i : Nat) : List (List Bool) := dTo (rs.take i) [[]]
theorem dTo_snoc : ∀ (rs : List Row) (r : Row) (ds : List (List Bool)), dTo (rs ++ [r]) ds = (dTo rs ds).flatMap (dStep r)
  | [], _, _ => rfl
  | q :: rs, r, ds => dTo_snoc rs r (ds.flatMap (dStep q))
theorem dAt_succ {rs : List Row} {i : Nat} {r : Row} (h : rs[i]? = some r) : dAt rs (i + 1) = (dAt rs i).flatMap (dStep r) := by
  unfold dAt
  rw [take_snoc h, dTo_snoc]
theorem dStep_len (r : Row) (d : List Bool) : (dStep r d).length ≤ 2 := by
  unfold dStep
  split
  · exact Nat.le_succ 1
  · exact Nat.le_refl 2
theorem flatMap_len {α β : Type} (f : α → List β) (h : ∀ x, (f x).length ≤ 2) : ∀ xs : List α, (xs.flatMap f).length ≤ 2 * xs.length
  | [] => Nat.zero_le _
  | x :: xs => by
    rw [List.flatMap_cons, List.length_append, List.length_cons]
    have := h x
    have := flatMap_len f h xs
    omega
theorem dAt_len {rs : List Row} : ∀ i, i ≤ rs.length → (dAt rs i).length ≤ 2 ^ i
  | 0, _ => Nat.le_refl 1
  | i + 1, h => by
    rw [dAt_succ (List.getElem?_eq_getElem (show i < rs.length by omega))]
    have h1 := flatMap_len _ (dStep_len rs[i]) (dAt rs i)
    have h2 := dAt_len i (show i ≤ rs.length by omega)
    rw [Nat.pow_succ]
    omega
theorem canLay_flags : ∀ fs : List Bool, PyData.canLayAll0 (fs.map PyData.bool) = true
  | [] => rfl
  | _ :: r => by
    show (PyData.canLay0 (.bool _) && PyData.canLayAll0 (r.map PyData.bool)) = true
    rw [canLay_flags r]
    rfl
theorem depth_flags : ∀ fs : List Bool, PyData.depthAll (fs.map PyData.bool) = 0
  | [] => rfl
  | _ :: r => by
    show max (PyData.depth (.bool _)) (PyData.depthAll (r.map PyData.bool)) = 0
    rw [depth_flags r]
    rfl
theorem depth_flagsD (fs : List Bool) : PyData.depth (flagsD fs) = 1 := by
  show PyData.depthAll (fs.map PyData.bool) + 1 = 1
  rw [depth_flags]
theorem shaped_flagsD (fs : List Bool) : SeqAt.shaped (flagsD fs) = true := by
  unfold SeqAt.shaped
  rw [Bool.and_eq_true]
  exact ⟨canLay_flags fs, decide_eq_true (by rw [depth_flagsD]; decide)⟩
theorem canLay_fl : ∀ ds : List (List Bool), PyData.canLayAll0 (ds.map flagsD) = true
  | [] => rfl
  | d :: r => by
    show (PyData.canLay0 (flagsD d) && PyData.canLayAll0 (r.map flagsD)) = true
    rw [canLay_fl r, show PyData.canLay0 (flagsD d) = true from canLay_flags d]
    rfl
theorem depth_fl : ∀ ds : List (List Bool), PyData.depthAll (ds.map flagsD) ≤ 1
  | [] => Nat.zero_le _
  | d :: r => by
    have := depth_fl r
    show max (PyData.depth (flagsD d)) (PyData.depthAll (r.map flagsD)) ≤ 1
    rw [depth_flagsD]
    omega
theorem shaped_fl (ds : List (List Bool)) : SeqAt.shaped (.list (ds.map flagsD)) = true := by
  unfold SeqAt.shaped
  rw [Bool.and_eq_true]
  refine ⟨canLay_fl ds, decide_eq_true ?_⟩
  have := depth_fl ds
  show PyData.depthAll (ds.map flagsD) + 1 ≤ 64
  omega
theorem eqv_flags : ∀ fs gs : List Bool, PyData.eqvAll (fs.map PyData.bool) (gs.map PyData.bool) = decide (fs = gs)
  | [], [] => rfl
  | [], _ :: _ => rfl
  | _ :: _, [] => rfl
  | x :: r, y :: q => by
    show ((x == y) && PyData.eqvAll (r.map PyData.bool) (q.map PyData.bool)) = _
    rw [eqv_flags r q, Bool.eq_iff_iff]
    simp
theorem any_fl (ds : List (List Bool)) (fs : List Bool) : ((ds.map flagsD).any fun z => PyData.eqv z (flagsD fs)) = decide (fs ∈ ds) := by
  rw [Bool.eq_iff_iff, List.any_eq_true, decide_eq_true_iff]
  constructor
  · rintro ⟨z, hz, e⟩
    obtain ⟨g, hg, rfl⟩ := List.mem_map.mp hz
    have e2 : PyData.eqvAll (g.map PyData.bool) (fs.map PyData.bool) = true := e
    rw [eqv_flags] at e2
    rw [← of_decide_eq_true e2]
    exact hg
  · intro h
    exact ⟨flagsD fs, List.mem_map.mpr ⟨fs, h, rfl⟩, eqv_self (shaped_flagsD fs)⟩
end Pf
namespace Pf
open PySem PySem.Spec PyProof.Rows L2
theorem kit_self {K : PySem.W.Frag} {C : Addr} : PySem.W.kitOne K (.ref C) (.ref C) = some true := by
  unfold PySem.W.kitOne
  exact if_pos (by first | exact beq_self_eq_true _ | simp | rfl)
end Pf
namespace Pf
open PySem PySem.Spec PyProof.Rows L2
theorem range_map_ofX {n : Int} {rs : List Row} {fs : List Bool} {i : Nat} {e : PyData} (h : (allSt n rs fs)[i]? = some e) : ∃ j, j ≤ rs.length ∧ e = tupI (stAt n rs fs j) := by
  have hl : i < rs.length + 1 := by
    have := (List.getElem?_eq_some_iff.mp h).1
    rwa [allSt_len] at this
  rw [allSt_at (by omega)] at h
  exact ⟨i, by omega, (Option.some.inj h).symm⟩
end Pf
namespace Pf
open PySem PySem.Spec PyProof.Rows L2
theorem kInD {X : Cx} (K : PySem.W.Frag) (h : X.K = K) (hu : X.A.units + 65 < cLine) : OpR X (compareOp .In) (rInD K) := kO K (r := rInD) h (op_inD hu)
end Pf
namespace Pf
open PySem PySem.Spec PyProof.Rows L2
theorem kRepT {X : Cx} (K : PySem.W.Frag) (h : X.K = K) : OpR X (binaryOp .Mult) (rRepT K) := kO K (r := rRepT) h op_repT
/-! ### orders -/
def swapAt (o : List Int) (p : Nat) : List Int := if o.getD p 0 < o.getD (p + 1) 0 then (o.set p (o.getD (p + 1) 0)).set (p + 1) (o.getD p 0) else o
def isL (r : Row) : Bool := decide (r.1 < r.2.1)
def placeR (r : Row) : Int := (if r.2.1 > r.1 then r.2.1 else r.1) - 1
def sideR (rs : List Row) (b : Bool) : List Row := rs.filter fun r => isL r == b
def ordF (o : List Int) (rs : List Row) : List Int := rs.foldl (fun o r => swapAt o (placeR r).toNat) o
def ordOf (n : Int) (rs : List Row) (b : Bool) : List Int := ordF (firstSt n) (sideR rs b)
theorem swap_len (o : List Int) (p : Nat) : (swapAt o p).length = o.length := by
  unfold swapAt
  split
  · rw [List.length_set, List.length_set]
  · rfl
theorem ordF_len : ∀ (rs : List Row) (o : List Int), (ordF o rs).length = o.length
  | [], _ => rfl
  | r :: rs, o => by
    show (ordF (swapAt o (placeR r).toNat) rs).length = o.length
    rw [ordF_len rs, swap_len]
theorem ordF_snoc (o : List Int) (rs : List Row) (r : Row) : ordF o (rs ++ [r]) = swapAt (ordF o rs) (placeR r).toNat := by
  unfold ordF
  rw [List.foldl_append]
  rfl
theorem side_snoc (rs : List Row) (r : Row) (b : Bool) : sideR (rs ++ [r]) b = sideR rs b ++ (if (isL r == b) = true then [r] else []) := by
  unfold sideR
  rw [List.filter_append]
  by_cases h : (isL r == b) = true
  · rw [filt1 (p := fun r => isL r == b) h, if_pos h]
  · rw [filt0 (p := fun r => isL r == b) h, if_neg h]
theorem ordOf_snoc (n : Int) (rs : List Row) (r : Row) (b : Bool) : ordOf n (rs ++ [r]) b = if (isL r == b) = true then swapAt (ordOf n rs b) (placeR r).toNat else ordOf n rs b := by
  unfold ordOf
  rw [side_snoc]
  split
  · rw [ordF_snoc]
  · rw [List.append_nil]
theorem ordOf_len (n : Int) (rs : List Row) (b : Bool) : (ordOf n rs b).length = n.toNat := by
  unfold ordOf
  rw [ordF_len, firstSt_len]
theorem place_of {n : Int} {r : Row} (g : GoodRow n r) : 0 ≤ placeR r ∧ placeR r + 1 < n := by
  obtain ⟨g1, g2, g3, g4, g5⟩ := g
  unfold placeR
  split <;> omega
theorem getD_set_eq {o : List Int} {p : Nat} {z : Int} (h : p < o.length) : (o.set p z).getD p 0 = z := by
  rw [List.getD_eq_getElem?_getD, List.getElem?_set_self h]
  rfl
theorem getD_set_ne {o : List Int} {p q : Nat} {z : Int} (h : p ≠ q) : (o.set p z).getD q 0 = o.getD q 0 := by
  rw [List.getD_eq_getElem?_getD, List.getElem?_set_ne h, List.getD_eq_getElem?_getD]
theorem swap_swap {o : List Int} {p : Nat} (h : p + 1 < o.length) : swapAt (swapAt o p) p = swapAt o p := by
  by_cases c : o.getD p 0 < o.getD (p + 1) 0
  · have e : swapAt o p = (o.set p (o.getD (p + 1) 0)).set (p + 1) (o.getD p 0) := if_pos c
    rw [e]
    unfold swapAt
    rw [if_neg]
    rw [getD_set_eq (by rw [List.length_set]; exact h), getD_set_ne (by omega), getD_set_eq (by omega)]
    omega
  · have e : swapAt o p = o := if_neg c
    rw [e, e]
/-- the last row once more -/
theorem ord_again {n : Int} {rs : List Row} {r : Row} (hr : rs.getLast? = some r) (g : GoodRow n r) (b : Bool) : ordOf n (rs ++ [r]) b = ordOf n rs b := by
  obtain ⟨ps, rfl⟩ := List.getLast?_eq_some_iff.mp hr
  rw [ordOf_snoc, ordOf_snoc]
  split
  · have hp := place_of g
    exact swap_swap (by rw [ordOf_len]; omega)
  · rfl
theorem ord_loose (n : Int) (rs : List Row) (b : Bool) : ordOf n (loose rs) b = ordOf n rs b := by
  unfold ordOf sideR loose ordF
  rw [List.filter_map, List.foldl_map]
  rfl
theorem ord_lefts (n : Int) (rs : List Row) : ordOf n (rs.filter isL) true = ordOf n rs true ∧ ordOf n (rs.filter isL) false = firstSt n := by
  have e1 : (fun r : Row => isL r == true) = isL := by
    funext r
    cases isL r <;> rfl
  constructor
  · unfold ordOf sideR
    rw [List.filter_filter, e1]
    congr 2
    funext r
    cases isL r <;> rfl
  · unfold ordOf sideR
    rw [List.filter_filter, List.filter_eq_nil_iff.mpr (fun r _ => by cases isL r <;> decide)]
    rfl
def pairD (n : Int) (rs : List Row) : PyData := .tuple [tupI (ordOf n rs true), tupI (ordOf n rs false)]
theorem im_pairD (n : Int) (rs : List Row) : im (pairD n rs) = true := by
  show (im (tupI (ordOf n rs true)) && (im (tupI (ordOf n rs false)) && true)) = true
  rw [im_ints, im_ints]
  rfl
theorem shaped_pair (x y : List Int) : SeqAt.shaped (.tuple [tupI x, tupI y]) = true := by
  unfold SeqAt.shaped
  rw [Bool.and_eq_true]
  refine ⟨?_, decide_eq_true ?_⟩
  · show (PyData.canLay0 (tupI x) && (PyData.canLay0 (tupI y) && true)) = true
    rw [show PyData.canLay0 (tupI x) = true from canLay_ints x, show PyData.canLay0 (tupI y) = true from canLay_ints y]
    rfl
  · show max (PyData.depthAll (x.map PyData.int) + 1) (max (PyData.depthAll (y.map PyData.int) + 1) 0) + 1 ≤ 64
    rw [depth_ints, depth_ints]
    decide
theorem dpAll_rep {K : PySem.W.Frag} {H : Hp} {xs : List V} {rs : List Row} (h : DpAll K H xs (rs.map rowD)) : ∀ k : Nat, DpAll K H (List.replicate k xs).flatten ((List.replicate k rs).flatten.map rowD)
  | 0 => .nil
  | k + 1 => by
    rw [List.replicate_succ, List.replicate_succ, List.flatten_cons, List.flatten_cons, List.map_append]
    exact DpAll.app h (dpAll_rep h k)
theorem rep_mem {rs : List Row} {r : Row} {k : Nat} (h : r ∈ (List.replicate k rs).flatten) : r ∈ rs := by
  obtain ⟨l, hl, hr⟩ := List.mem_flatten.mp h
  rw [(List.mem_replicate.mp hl).2] at hr
  exact hr
theorem rep_len (rs : List Row) (k : Nat) : (List.replicate k rs).flatten.length = k * rs.length := by
  rw [List.length_flatten, List.map_replicate, List.sum_replicate_nat]
theorem getD_at {o : List Int} {p : Nat} (h : p < o.length) : o[p]? = some (o.getD p 0) := by
  rw [List.getElem?_eq_getElem h, getD_of (List.getElem?_eq_getElem h)]
theorem cutV_last {xs : List V} {v : V} (h : xs.getLast? = some v) : cutV xs (some (-1)) none = [v] := by
  obtain ⟨ys, rfl⟩ := List.getLast?_eq_some_iff.mp h
  have e1 : HT.sIx (ys ++ [v]).length 0 (some (-1)) = ys.length := by
    show (if (-1 : Int) < 0 then ((-1 : Int) + ((ys ++ [v]).length : Int)).toNat else min (-1 : Int).toNat (ys ++ [v]).length) = ys.length
    rw [if_pos (by decide), List.length_append, List.length_singleton]
    omega
  unfold cutV
  rw [e1, HT.sIx_none, List.drop_left, List.length_append, List.length_singleton, Nat.add_sub_cancel_left]
  rfl
end Pf

--BODY
namespace Pf
open PySem PySem.Spec PyProof.Rows L2 HT
section
variable {prog : Program} {w : World} {A : Around} {E : Value → Shared → Prop} {s : Shared}
theorem sliceApplied_rev {sl : Addr} {vl vu vs : Value} {n : Nat} {Q : Int × Int × Nat → Shared → Prop} (hs : s.heap.IsSliceOf sl vl vu vs) (pl : IsPart vl none) (pu : IsPart vu none) (ps : IsPart vs (some (-1)))
    (h : Q ((n : Int) - 1, -1, n) s) : wpAny (model prog w) A (Builtin.Slice.sliceApplied (.ref sl) (pure (n : Int))) Q E s := by
  obtain ⟨os, hos, hcs, hds⟩ := id hs
  unfold Builtin.Slice.sliceApplied Builtin.Slice.sliceFields
  refine wpAny_bind (wpAny_bind (wpAny_field hos hds (x := vl) rfl (wpAny_bind (wpAny_field hos hds (x := vu) rfl (wpAny_bind (wpAny_field hos hds (x := vs) rfl (wpAny_pure ?_)))))))
  refine wpAny_bind (slicePart_ ps ?_)
  show wpAny _ _ (if ((-1 : Int) == 0) = true then _ else _) _ _ s
  rw [if_neg (by decide)]
  refine wpAny_bind (slicePart_ pl (wpAny_bind (slicePart_ pu (wpAny_bind (wpAny_pure ?_)))))
  show wpAny _ _ (pure ((n : Int) - 1, (-1 : Int), Builtin.Slice.slicePlaces ((n : Int) - 1) (-1) (-1))) _ _ s
  have e : Builtin.Slice.slicePlaces ((n : Int) - 1) (-1) (-1) = n := by
    unfold Builtin.Slice.slicePlaces
    rw [if_neg (by decide)]
    by_cases c : (n : Int) - 1 > -1
    · rw [if_pos c, show (- -1 : Int) = 1 by decide, Int.ediv_one]
      omega
    · rw [if_neg c]
      omega
  rw [e]
  exact wpAny_pure h
theorem fm_congr {α β : Type} {f g : α → Option β} : ∀ {l : List α}, (∀ x ∈ l, f x = g x) → l.filterMap f = l.filterMap g
  | [], _ => rfl
  | x :: l, h => by
    rw [List.filterMap_cons, List.filterMap_cons, h x (List.mem_cons_self ..), fm_congr fun y hy => h y (List.mem_cons_of_mem _ hy)]
theorem pick_rev (xs : Array Value) : ((List.range xs.size).filterMap fun (m : Nat) => xs[(((xs.size : Int) - 1) + (m : Int) * (-1)).toNat]?).toArray = xs.toList.reverse.toArray := by
  have e : (List.range xs.size).filterMap (fun (m : Nat) => xs[(((xs.size : Int) - 1) + (m : Int) * (-1)).toNat]?) = ((List.range xs.size).map (fun k => xs.size - 1 - k)).filterMap (xs[·]?) := by
    rw [List.filterMap_map]
    refine fm_congr fun m hm => ?_
    have := List.mem_range.mp hm
    have e2 : (((xs.size : Int) - 1) + (m : Int) * (-1)).toNat = xs.size - 1 - m := by omega
    rw [e2]
    rfl
  rw [e, PySem.W.krv_range, List.filterMap_reverse, PySem.W.krv_all]
theorem getItem_tuple_rev {t sl : Addr} {items : Array Value} {vl vu vs : Value} {Q : Value → Shared → Prop} (ht : IsTup s.heap t items) (hs : s.heap.IsSliceOf sl vl vu vs) (pl : IsPart vl none) (pu : IsPart vu none) (ps : IsPart vs (some (-1)))
    (h : Q (.ref s.heap.objs.size) { s with heap := s.heap.push { cls := .type "tuple", data := .seq items.toList.reverse.toArray } })
    (hsz : items.size ≤ sizeLine) : wpAny (model prog w) A (getItem (.ref t) (.ref sl)) Q E s := by
  have htake : sizeOk (.seq items.toList.reverse.toArray) := by
    show items.toList.reverse.toArray.size ≤ sizeLine
    rw [List.size_toArray, List.length_reverse, Array.length_toList]
    exact hsz
  obtain ⟨os, hos, hcs, hds⟩ := id hs
  have hTs : s.TypeIs (.ref sl) "slice" := ⟨os, hos, hcs⟩
  unfold getItem
  try with_reducible refine wpAny_holding ?_
  first | refine wpAny_bind (wpAny_pure ?_) | skip
  refine wpAny_bind (wpAny_sequenceKey ht.typeIs (by decide) ?_)
  refine wpAny_bind (wpAny_callSpecial?_slot (name := Str.ofString "__getitem__") ht.typeIs PyProof.Rows.slot_tuple_getitem
    (wpAny_call_entry PyProof.Rows.slot_tuple_getitem ht.typeIs entry_tuple_getitem ?_ (args_tuple_getitem _ _)))
  show wpAny _ _ (Builtin.Tuple.tupleItemsOf (.ref t) >>= _) _ _ s
  refine wpAny_bind (tupleItemsOf_ ht ?_)
  refine wpAny_bind (wpAny_typeOf hTs ?_)
  rw [if_pos (by decide)]
  refine wpAny_bind (sliceApplied_rev hs pl pu ps ?_)
  show wpAny _ _ (if ((((items.size : Int) - 1) == 0 && (-1 : Int) == 1 && items.size == items.size) = true) then _ else _) _ _ s
  rw [if_neg (by rw [show ((-1 : Int) == 1) = false by decide, Bool.and_false, Bool.false_and]; exact Bool.false_ne_true), pick_rev]
  first
    | exact wpAny_bind (m := Builtin.Tuple.tupleExact _) (wpAny_newObj_type (wpAny_pure ⟨_, rfl, wpAny_pure h⟩) htake)
    | exact wpAny_bind (m := Builtin.Tuple.tupleExact _) (wpAny_newObj_type (wpAny_bind (wpAny_pure (wpAny_pure ⟨_, rfl, wpAny_pure h⟩))) htake)
    | exact wpAny_bind (wpAny_bind (m := Builtin.Tuple.tupleExact _) (wpAny_newObj_type (wpAny_pure (wpAny_pure ⟨_, rfl, wpAny_pure h⟩)) htake))
    | exact wpAny_bind (wpAny_bind (m := Builtin.Tuple.tupleExact _) (wpAny_newObj_type (wpAny_pure ⟨_, rfl, wpAny_pure h⟩) htake))
end
section
variable {X : Cx}
/-- t[::-1] of a tuple -/
def tRevT (K : PySem.W.Frag) (te : TE) : TE := fun σ H Q => te σ H fun x H1 => ∃ a xs, x = .ref a ∧ SqT K H1 a xs ∧ ∀ p, H1 p = none → Q (.ref p) (L2.upd H1 p (.tup xs.reverse))
theorem pe_revT {e : Expr} {te : TE} {k : Nat} {p1 p2 p3 pos : Pos} (he : PE X e te) : PE X (.Subscript e (.Slice none none (some (.UnaryOp .USub (.Constant (.int 1) k p1) p2)) p3) pos) (tRevT X.K te) := by
  refine ⟨fun pins s σ H Q I h => ?_⟩
  refine Subscript_ (thn (he.run pins s σ H _ I h) fun v s1 ⟨x, H1, I1, r1, q1⟩ => ?_)
  obtain ⟨a, xs, ex, hx, q⟩ := q1
  subst ex
  cases r1
  have hst : PO X (some (.UnaryOp .USub (.Constant (.int 1) k p1) p2)) (tPart (tUn (rU fun i => .int (-i)) (tC (.int 1)))) := po_some (pe_un un_neg pe_int)
  refine wpAny_Slice (thn (po_none.run pins s1 σ H1 (fun o H2 => o = none ∧ H2 = H1) I1 ⟨rfl, rfl⟩) fun vl s2 ⟨l, H2, I2, pl, el, e2⟩ => ?_)
  subst el e2
  refine thn (po_none.run pins s2 σ H2 (fun o H3 => o = none ∧ H3 = H2) I2 ⟨rfl, rfl⟩) fun vu s3 ⟨u, H3, I3, pu, eu, e3⟩ => ?_
  subst eu e3
  refine thn (hst.run pins s3 σ H3 (fun o H4 => o = some (-1) ∧ H4 = H3) I3 ⟨1, rfl, -1, rfl, rfl, rfl⟩) fun vs s4 ⟨o, H4, I4, ps, eo, e4⟩ => ?_
  subst eo e4
  have I5 : Inv X pins σ H4 { s4 with heap := s4.heap.push { cls := .type "slice", data := .fields #[vl, vu, vs] } } := I4.kept (t' := s4.toks) fun b ob q => Heap.get?_push_of_some _ q
  obtain ⟨its, r, ht, hz⟩ := I5.tuple hx
  have hlen := r.length
  show wpAny (model X.prog X.w) X.A (subscriptTail e (.Slice none none (some (.UnaryOp .USub (.Constant (.int 1) k p1) p2)) p3) (.ref a) (.ref s4.heap.objs.size)) (EP X pins σ Q) X.xe { s4 with heap := s4.heap.push { cls := .type "slice", data := .fields #[vl, vu, vs] } }
  refine tail_any (ops := [.ref a, .ref s4.heap.objs.size]) ht.typeIs (PyProof.Rows.slot_tuple_getitem.lookup) ?_ (by with_unfolding_all rfl)
  refine getItem_tuple_rev ht (Heap.IsSliceOf.new _ vl vu vs) pl pu ps ?_ (by rw [List.size_toArray]; omega)
  refine ⟨.ref _, _, I5.laid (t' := s4.toks) (o := .tup xs.reverse) (fun b ob q => Heap.get?_push_of_some _ q) (Nat.le_refl _) ?_, rfl, q _ (I5.hok.fresh (Nat.le_refl _))⟩
  exact ⟨by rw [List.length_reverse]; exact hz, _, r.reverse, IsTup.new _ _⟩
theorem keRevT (K : PySem.W.Frag) {e : Expr} {te : TE} {k : Nat} {p1 p2 p3 pos : Pos} (h : X.K = K) (he : PE X e te) : PE X (.Subscript e (.Slice none none (some (.UnaryOp .USub (.Constant (.int 1) k p1) p2)) p3) pos) (tRevT K te) := h ▸ pe_revT he
theorem keRevL (K : PySem.W.Frag) {e : Expr} {te : TE} {k : Nat} {p1 p2 p3 pos : Pos} (h : X.K = K) (he : PE X e te) : PE X (.Subscript e (.Slice none none (some (.UnaryOp .USub (.Constant (.int 1) k p1) p2)) p3) pos) (tRevL K te) := h ▸ pe_revL he
theorem g_revT {K : PySem.W.Frag} {te : TE} {σ : L2.St} {H : Hp} {Q : VK} (q : te σ H fun x H1 => ∃ a xs, x = .ref a ∧ SqT K H1 a xs ∧ ∀ p, H1 p = none → Q (.ref p) (L2.upd H1 p (.tup xs.reverse))) : tRevT K te σ H Q := q
theorem g_revL {K : PySem.W.Frag} {te : TE} {σ : L2.St} {H : Hp} {Q : VK} (q : te σ H fun x H1 => ∃ a xs, x = .ref a ∧ SqL K H1 a xs ∧ ∀ p, H1 p = none → Q (.ref p) (L2.upd H1 p (.lst xs.reverse))) : tRevL K te σ H Q := q
theorem g_iR3 {ta : TA} {σ : L2.St} {H : Hp} {R : It → Hp → Prop} (q : ta σ H fun vs H1 => ∃ (i j c : Int) (n : Nat), vs = [.int i, .int j, .int c] ∧ RgC i j c n ∧ R (Itc i c n) H1) : iRng3 ta σ H R := q
end
end Pf

--BODY
namespace Pf
open PySem PySem.Spec PyProof.Rows L2
theorem tuple_mulSame (l : Addr) (items : Array Value) (n : Nat) (dd : Option Addr) (sl : Array (Option Value)) (x : Int) (u : Tok) (c0 : (decide (x < -(2 ^ 63)) || decide (x ≥ 2 ^ 63)) = false) (c1 : (items.isEmpty || x == 1) = true) :
    Meets (Builtin.«tuple.__mul__» ⟨[.ref l, .int x u], []⟩) (fun _ R s => s.heap.get? l = some { cls := .type "tuple", dict := dd, data := .seq items n, slots := sl } ∧
      R (.ok (.ret (Value.ref l))) s) :=
  .of_wp fun prog w A R s h => by
    obtain ⟨hp, g, d, tk, os⟩ := s
    obtain ⟨hl, h⟩ := h
    have f1 := AutoSeq1.idx_int
    wp_walk using wpAny_loadPart' hl
    repeat (first
      | (refine wpAny_ite_false (decide_eq_false (by rw [c0]; exact Bool.false_ne_true)) ?_; wp_walk using wpAny_loadPart' hl)
      | (refine wpAny_ite_true (decide_eq_true c1) ?_; wp_walk using wpAny_loadPart' hl))
    exact ⟨_, rfl, h⟩
theorem tuple_mulZero (l : Addr) (items : Array Value) (n : Nat) (dd : Option Addr) (sl : Array (Option Value)) (x : Int) (u : Tok) (c0 : (decide (x < -(2 ^ 63)) || decide (x ≥ 2 ^ 63)) = false) (c1 : (items.isEmpty || x == 1) = false) (c2 : (decide (x ≤ 0) || items.isEmpty) = true) :
    Meets (Builtin.«tuple.__mul__» ⟨[.ref l, .int x u], []⟩) (fun _ R s => s.heap.get? l = some { cls := .type "tuple", dict := dd, data := .seq items n, slots := sl } ∧
      R (.ok (.ret (Value.ref s.heap.objs.size))) { s with heap := s.heap.push { cls := Value.type "tuple", data := Data.seq #[] }, toks := s.toks }) :=
  .of_wp fun prog w A R s h => by
    obtain ⟨hp, g, d, tk, os⟩ := s
    obtain ⟨hl, h⟩ := h
    have f1 := AutoSeq1.idx_int
    wp_walk using wpAny_loadPart' hl
    repeat (first
      | (refine wpAny_ite_false (decide_eq_false (by rw [c0]; exact Bool.false_ne_true)) ?_; wp_walk using wpAny_loadPart' hl)
      | (refine wpAny_ite_false (decide_eq_false (by rw [c1]; exact Bool.false_ne_true)) ?_; wp_walk using wpAny_loadPart' hl)
      | (refine wpAny_ite_true (decide_eq_true c2) ?_; wp_walk using wpAny_loadPart' hl))
    exact ⟨_, rfl, h⟩
/-- a tuple some times, any number -/
def rRepA (K : PySem.W.Frag) : R2 := fun x y H Q => ∃ l k xs, x = .ref l ∧ y = .int k ∧ SqT K H l xs ∧ 0 ≤ k ∧ k ≤ 1000 ∧ xs.length ≤ 1000 ∧ ∀ p H', Same H H' → SqT K H' p (List.replicate k.toNat xs).flatten → Q (.ref p) H'
theorem op_repA {X : Cx} : OpR X (binaryOp .Mult) (rRepA X.K) := by
  intro pins s σ H x y v u Q I rx ry h
  obtain ⟨l, k, xs, rfl, rfl, hT, h1, h2, hz, q⟩ := h
  by_cases hbig : xs ≠ [] ∧ 2 ≤ k
  · exact op_repT pins s σ H _ _ v u Q I rx ry ⟨l, k, xs, rfl, rfl, hT, hbig.1, hbig.2, h2, hz, fun p np => q p _ (same_new np) SqT.new⟩
  cases rx
  obtain ⟨t, rfl⟩ := ry
  obtain ⟨its, r, ⟨⟨cls, dd, data, sl⟩, ho, hc, n, hd⟩, hs⟩ := I.tuple hT
  simp only at hc hd
  subst hc hd
  have hle : its.length = xs.length := r.length.symm
  have c0 : (decide (k < -(2 ^ 63)) || decide (k ≥ 2 ^ 63)) = false := by
    rw [decide_eq_false (by omega), decide_eq_false (by omega)] <;> rfl
  by_cases hs1 : xs = [] ∨ k = 1
  · have c1 : (its.toArray.isEmpty || k == 1) = true := by
      rcases hs1 with e | e
      · have : its = [] := List.eq_nil_of_length_eq_zero (by rw [hle, e]; rfl)
        rw [this]
        rfl
      · rw [e]
        exact Bool.or_true _
    refine wpAny_binaryOp_repeat_ref (T := "tuple") (U := "int") (by decide) ⟨_, ho, rfl⟩ (fun s' => typeIs_int s' k t) noFill_tuple_mul F.fills_int_mul F.slot_int_rmul repeat_tuple F.slot_int_index.lookup
      (call_meets F.slot_int_rmul (typeIs_int s k t) F.entry_int_rmul (F.args_int_rmul_2 _ _) (int_rmul_tuple k t l its.toArray n dd sl)
        ⟨ho, rfl, ⟨_, ho, rfl⟩, call_meets F.slot_tuple_mul ⟨_, ho, rfl⟩ F.entry_tuple_mul (F.args_tuple_mul_2 _ _) (tuple_mulSame l its.toArray n dd sl k t c0 c1) ⟨ho, ?_⟩⟩)
    have e : (List.replicate k.toNat xs).flatten = xs := by
      rcases hs1 with e | e
      · rw [e]
        exact List.flatten_eq_nil_iff.mpr fun z hz => (List.mem_replicate.mp hz).2
      · rw [e]
        show (List.replicate 1 xs).flatten = xs
        rw [List.replicate_one, List.flatten_singleton]
    refine ⟨.ref l, H, I, rfl, q l H (Same.refl H) (by rw [e]; exact hT)⟩
  · have hne : xs ≠ [] := fun e => hs1 (.inl e)
    have hk1 : k ≠ 1 := fun e => hs1 (.inr e)
    have hk0 : k = 0 := by
      by_cases c : 2 ≤ k
      · exact absurd ⟨hne, c⟩ hbig
      · omega
    have hi : its.toArray.isEmpty = false := by
      cases its with
      | nil => exact absurd (List.eq_nil_of_length_eq_zero (by rw [← hle]; rfl)) hne
      | cons a b => rfl
    have c1 : (its.toArray.isEmpty || k == 1) = false := by
      rw [hi, Bool.false_or]
      exact beq_eq_false_iff_ne.mpr hk1
    have c2 : (decide (k ≤ 0) || its.toArray.isEmpty) = true := by
      rw [decide_eq_true (by omega)]
      rfl
    refine wpAny_binaryOp_repeat_ref (T := "tuple") (U := "int") (by decide) ⟨_, ho, rfl⟩ (fun s' => typeIs_int s' k t) noFill_tuple_mul F.fills_int_mul F.slot_int_rmul repeat_tuple F.slot_int_index.lookup
      (call_meets F.slot_int_rmul (typeIs_int s k t) F.entry_int_rmul (F.args_int_rmul_2 _ _) (int_rmul_tuple k t l its.toArray n dd sl)
        ⟨ho, rfl, ⟨_, ho, rfl⟩, call_meets F.slot_tuple_mul ⟨_, ho, rfl⟩ F.entry_tuple_mul (F.args_tuple_mul_2 _ _) (tuple_mulZero l its.toArray n dd sl k t c0 c1 c2) ⟨ho, ?_⟩⟩)
    refine ⟨.ref s.heap.objs.size, _, I.laid (t' := s.toks) (o := .tup []) (fun b ob q => Heap.get?_push_of_some _ q) (Nat.le_refl _) ?_, rfl, q _ _ (same_new (I.hok.fresh (Nat.le_refl _))) ?_⟩
    · exact ⟨Nat.zero_le _, [], .nil, IsTup.new _ _⟩
    · rw [hk0]
      exact SqT.new
theorem kRepA {X : Cx} (K : PySem.W.Frag) (h : X.K = K) : OpR X (binaryOp .Mult) (rRepA K) := kO K (r := rRepA) h op_repA
end Pf

namespace Pf
open PySem PySem.Spec PyProof.Rows L2
/-! ### len(set(t)) of a tuple of whole numbers -/
def tLenSetT (K : PySem.W.Frag) (ta : TE) : TE := fun σ H Q => ta σ H fun x H1 => ∃ (l : Addr) (ns : List Int), x = .ref l ∧ SqT K H1 l (ns.map V.int) ∧ ns.length ≤ 1000 ∧ ∀ out : List Int, out.Nodup → (∀ k, k ∈ out ↔ k ∈ ns) → Q (.int (out.length : Nat)) H1
theorem pe_lenSetT {X : Cx} {a : Expr} {ta : TE} {p p2 q pos : Pos} (hc : X.calm = true) (hg : Gl X "len") (hm : X.mg "len" = none) (hg2 : Gl X "set") (hm2 : X.mg "set" = none) (ha : PE X a ta)
    (na : starEach [a] X.env = (false, eval a X.env) :: starEach [] X.env := by rfl) : PE X (.Call (.Name "len" p) [.Call (.Name "set" p2) [a] [] q] [] pos) (tLenSetT X.K ta) := by
  refine ⟨fun pins s σ H Q I h => ?_⟩
  refine Call_ (ld_blt I hg hm boot_len ?_)
  refine PyProof.Rows.callWith_builtin1 (PyProof.Rows.args_cons ?_ rfl) rfl rfl
  refine Call_ (ld_blt I hg2 hm2 boot_set ?_)
  refine PyProof.Rows.callWith_type1 (PyProof.Rows.args_cons (thn (ha.run pins s σ H _ I h) fun v s1 ⟨x, H1, I1, r1, q1⟩ => PyProof.Rows.args_nil ?_) na) na rfl
  obtain ⟨l, ns, rfl, hq, hl, q1⟩ := q1
  cases r1
  obtain ⟨its, rv, pt, hz⟩ := I1.tuple hq
  have hi : IntsAre its.toArray.toList ns := ints_of_vals rv
  refine call_set_tupI ns (I1.ok.hd hc) (show s1.heap.IsTuple l its.toArray from pt) hi (by unfold scanBound; omega) fun h' tk c R1 hcn k => ?_
  refine PyProof.Rows.args_nil ?_
  obtain ⟨o, es, ep, t, ho, hex, hdt, g, nd, hm2, hb, hf, hn, hr, hl2⟩ := R1
  have I2 : Inv X pins σ H1 { s1 with heap := h', toks := tk } := I1.kept fun b o e => k b o e
  have hlen : (es.toList.map keyOf).length = es.size := by rw [List.length_map, Array.length_toList]
  have q2 := q1 (es.toList.map keyOf) nd fun j => by rw [← hm2 j, decide_eq_true_eq]
  rw [hlen] at q2
  have hsz : es.size ≤ ns.length := by
    have hsub : ∀ j ∈ es.toList.map keyOf, j ∈ ns := fun j hj => by
      have := (hm2 j).mpr hj
      simpa using this
    rw [← hlen]
    exact List.Nodup.length_le_of_subset nd hsub
  exact call_len_set ho hex hdt hf (by omega) ⟨.int es.size, H1, I2.tok _, ⟨_, rfl⟩, q2⟩
theorem keLenSetT {X : Cx} (K : PySem.W.Frag) {a : Expr} {ta : TE} {p p2 q pos : Pos} (h : X.K = K) (hc : X.calm = true) (hg : Gl X "len") (hm : X.mg "len" = none) (hg2 : Gl X "set") (hm2 : X.mg "set" = none) (ha : PE X a ta)
    (na : starEach [a] X.env = (false, eval a X.env) :: starEach [] X.env := by rfl) : PE X (.Call (.Name "len" p) [.Call (.Name "set" p2) [a] [] q] [] pos) (tLenSetT K ta) := h ▸ pe_lenSetT hc hg hm hg2 hm2 ha na
theorem g_lenSetT {K : PySem.W.Frag} {ta : TE} {σ : L2.St} {H : Hp} {Q : VK} (q : ta σ H fun x H1 => ∃ (l : Addr) (ns : List Int), x = .ref l ∧ SqT K H1 l (ns.map V.int) ∧ ns.length ≤ 1000 ∧ ∀ out : List Int, out.Nodup → (∀ k, k ∈ out ↔ k ∈ ns) → Q (.int (out.length : Nat)) H1) : tLenSetT K ta σ H Q := q
end Pf

namespace Pf
open PySem PySem.Spec PyProof.Rows L2
/-! ### sorted(set(t)) of a tuple of whole numbers -/
def tSortSet (K : PySem.W.Frag) (ta : TE) : TE := fun σ H Q => ta σ H fun x H1 => ∃ (l : Addr) (ns : List Int), x = .ref l ∧ SqT K H1 l (ns.map V.int) ∧ ns.length < 60 ∧
  ∀ (out : List Int) (p : Addr), out.Pairwise (· < ·) → (∀ k, k ∈ out ↔ k ∈ ns) → H1 p = none → Q (.ref p) (upd H1 p (.lst (out.map V.int)))
theorem pe_sortSet {X : Cx} {a : Expr} {ta : TE} {p p2 q pos : Pos} (hc : X.calm = true) (hg : Gl X "sorted") (hm : X.mg "sorted" = none) (hg2 : Gl X "set") (hm2 : X.mg "set" = none) (ha : PE X a ta)
    (na : starEach [a] X.env = (false, eval a X.env) :: starEach [] X.env := by rfl) : PE X (.Call (.Name "sorted" p) [.Call (.Name "set" p2) [a] [] q] [] pos) (tSortSet X.K ta) := by
  refine ⟨fun pins s σ H Q I h => ?_⟩
  refine Call_ (ld_blt I hg hm boot_sorted ?_)
  refine PyProof.Rows.callWith_builtin1 (PyProof.Rows.args_cons ?_ rfl) rfl rfl
  refine Call_ (ld_blt I hg2 hm2 boot_set ?_)
  refine PyProof.Rows.callWith_type1 (PyProof.Rows.args_cons (thn (ha.run pins s σ H _ I h) fun v s1 ⟨x, H1, I1, r1, q1⟩ => PyProof.Rows.args_nil ?_) na) na rfl
  obtain ⟨l, ns, rfl, hq, hl, q1⟩ := q1
  cases r1
  obtain ⟨its, rv, pt, hz⟩ := I1.tuple hq
  have hi : IntsAre its.toArray.toList ns := ints_of_vals rv
  refine call_set_tupI ns (I1.ok.hd hc) (show s1.heap.IsTuple l its.toArray from pt) hi (by unfold scanBound; omega) fun h' tk c R1 hcn k => ?_
  refine PyProof.Rows.args_nil ?_
  have I2 : Inv X pins σ H1 { s1 with heap := h', toks := tk } := I1.kept fun b o e => k b o e
  have R2 : SetR X.w ({ s1 with heap := h', toks := tk } : Shared).heap s1.heap.objs.size (fun j => decide (j ∈ ns)) c := R1
  generalize ({ s1 with heap := h', toks := tk } : Shared) = s2 at I2 R2 ⊢
  refine sorted_set R2 (I2.ok.hd hc) (by omega) fun s' p out c2 ns' k2 g o hp hg3 hi2 hs hm3 hl2 => ?_
  have hlen : (ns'.map V.int).length ≤ sizeLine := by rw [List.length_map, hl2, sizeLine_eq]; omega
  have hn : H1 p = none := I2.hok.fresh hp
  have J : Inv X pins σ (upd H1 p (.lst (ns'.map V.int))) { s2 with heap := s'.heap, gens := s'.gens, drawn := s'.drawn, toks := s'.toks } :=
    I2.call (ch := []) (Un.laid k2 hp hn) (I2.hok.laid k2 hp ⟨hlen, out.toList, c2, vals_of_ints hi2, hg3⟩) (by rw [g]; exact I2.bare) (fun _ z => nomatch z)
  have e : s' = { s2 with heap := s'.heap, gens := s'.gens, drawn := s'.drawn, toks := s'.toks } := by
    cases s'
    cases s2
    cases o
    rfl
  rw [e]
  exact ⟨.ref p, _, J, rfl, q1 ns' p hs (fun j => by rw [hm3 j, decide_eq_true_eq]) hn⟩
theorem keSortSet {X : Cx} (K : PySem.W.Frag) {a : Expr} {ta : TE} {p p2 q pos : Pos} (h : X.K = K) (hc : X.calm = true) (hg : Gl X "sorted") (hm : X.mg "sorted" = none) (hg2 : Gl X "set") (hm2 : X.mg "set" = none) (ha : PE X a ta)
    (na : starEach [a] X.env = (false, eval a X.env) :: starEach [] X.env := by rfl) : PE X (.Call (.Name "sorted" p) [.Call (.Name "set" p2) [a] [] q] [] pos) (tSortSet K ta) := h ▸ pe_sortSet hc hg hm hg2 hm2 ha na
theorem g_sortSet {K : PySem.W.Frag} {ta : TE} {σ : L2.St} {H : Hp} {Q : VK} (q : ta σ H fun x H1 => ∃ (l : Addr) (ns : List Int), x = .ref l ∧ SqT K H1 l (ns.map V.int) ∧ ns.length < 60 ∧ ∀ (out : List Int) (p : Addr), out.Pairwise (· < ·) → (∀ k, k ∈ out ↔ k ∈ ns) → H1 p = none → Q (.ref p) (upd H1 p (.lst (out.map V.int)))) : tSortSet K ta σ H Q := q
def tTruth (K : PySem.W.Frag) (ta : TE) : TT := fun σ H Q => ta σ H fun x H' => ∃ k, TruV K x H' k ∧ Q k H'
theorem kTruth {X : Cx} (K : PySem.W.Frag) {a : Expr} {ta : TE} (h : X.K = K) (ha : PE X a ta) (he : ∀ whole, isTrue a X.env whole = (do let v ← whole; standAt a.pos; holding [v] (truthy v))) : PT X a (tTruth K ta) := h ▸ pt_truth ha he
theorem g_truth {K : PySem.W.Frag} {ta : TE} {σ : L2.St} {H : Hp} {Q : Bool → Hp → Prop} (q : ta σ H fun x H' => ∃ k, TruV K x H' k ∧ Q k H') : tTruth K ta σ H Q := q
end Pf

namespace Pf
open PySem PySem.Spec PyProof.Rows L2
/-! ### list(range(a, b, c)) -/
def rg3 (i k : Int) (n : Nat) : List Int := (List.range n).map fun (m : Nat) => i + (m : Int) * k
def tLstRg3 (ta : TA) : TE := fun σ H Q => ta σ H fun vs H1 => ∃ (i j k : Int) (n : Nat), vs = [.int i, .int j, .int k] ∧ RgC i j k n ∧ n ≤ 1000 ∧ ∀ q, H1 q = none → Q (.ref q) (upd H1 q (.lst ((rg3 i k n).map V.int)))
theorem vals_rg3 {i k : Int} {n : Nat} {acc : Array Value} (h : ItemsOf (fun m v => ∃ t, v = .int (i + m * k) t) acc n) : Vals ((rg3 i k n).map V.int) acc.toList := by
  have e : acc.toList.length = n := by rw [Array.length_toList]; exact h.1
  unfold rg3
  rw [← e, List.map_map]
  refine vals_of_get acc.toList _ fun j u hj => ?_
  obtain ⟨t, rfl⟩ := h.2 j u (by rw [← hj, Array.getElem?_toList])
  exact ⟨t, rfl⟩
theorem pe_listRg3 {X : Cx} {a b c : Expr} {ta : TA} {p p2 pos pos2 : Pos} (hcalm : X.calm = true) (hg : Gl X "list") (hm : X.mg "list" = none) (hg2 : Gl X "range") (hm2 : X.mg "range" = none) (ha : PA X [a, b, c] ta)
    (hs : starEach [a, b, c] X.env = (false, eval a X.env) :: starEach [b, c] X.env := by rfl) (hpl : (backTo pos2 (starEach [b, c] X.env)).any (·.1) = false := by rfl)
    (na : starEach [Expr.Call (.Name "range" p2) [a, b, c] [] pos2] X.env = (false, eval (Expr.Call (.Name "range" p2) [a, b, c] [] pos2) X.env) :: starEach [] X.env := by rfl) :
    PE X (.Call (.Name "list" p) [.Call (.Name "range" p2) [a, b, c] [] pos2] [] pos) (tLstRg3 ta) := by
  refine ⟨fun pins s σ H Q I h => ?_⟩
  refine Call_ (ld_blt I hg hm boot_list (PyProof.Rows.callWith_type1 (PyProof.Rows.args_cons (thn (Q := fun x s' => ∃ r i j k n t u v H', x = .ref r ∧ IsRange s'.heap r i j k t u v ∧ RgC i j k n ∧ n ≤ 1000 ∧ Inv X pins σ H' s' ∧ ∀ q, H' q = none → Q (.ref q) (upd H' q (.lst ((rg3 i k n).map V.int)))) ?_ fun x s1 ⟨r, i, j, k, n, t, u, v, H1, ex, hr, ⟨c0, c1, c2, c3⟩, hn, I1, q⟩ => PyProof.Rows.args_nil ?_) na) na))
  · refine Call_ (ld_blt I hg2 hm2 boot_range (PyProof.Rows.callWith_type1 (thn (ha.run pos2 pins s σ H _ I h) fun us s1 ⟨vs, H1, I1, r1, q1⟩ => ?_) hs hpl))
    obtain ⟨i, j, k, n, e, ⟨c0, c1, c2, c3⟩, hn, q⟩ := q1
    subst e
    cases r1 with
    | cons r rr =>
      cases rr with
      | cons r' rr =>
        cases rr with
        | cons r'' rr =>
          cases rr
          obtain ⟨t, rfl⟩ := r
          obtain ⟨t', rfl⟩ := r'
          obtain ⟨t'', rfl⟩ := r''
          refine call_range_3 c0 ⟨_, i, j, k, n, _, _, _, H1, rfl, IsRange.new _ _ _ _ _ _ _, ⟨c0, c1, c2, c3⟩, hn, I1.kept (t' := s1.toks) fun b o e => Heap.get?_push_of_some _ e, q⟩ (.inl (PyProof.noPylong_small c1))
  · subst ex
    refine call_list_range (n := n) (I1.ok.hd hcalm) hr c2 c3 (Nat.le_trans hn (by decide)) fun h' tk acc c' hk e' hi => ?_
    refine ⟨.ref s1.heap.objs.size, upd H1 s1.heap.objs.size (.lst ((rg3 i k n).map V.int)), I1.laid hk (Nat.le_refl _) (show ObjOk X.prog X.w _ _ _ (.lst ((rg3 i k n).map V.int)) from ⟨?_, acc.toList, c', vals_rg3 hi, ?_⟩), rfl, q _ (I1.hok.fresh (Nat.le_refl _))⟩
    · unfold rg3
      rw [List.length_map, List.length_map, List.length_range, sizeLine_eq]
      omega
    · rw [Array.toArray_toList]; exact e'
theorem g_listRg3 {ta : TA} {σ : L2.St} {H : Hp} {Q : VK} (q : ta σ H fun vs H1 => ∃ (i j k : Int) (n : Nat), vs = [.int i, .int j, .int k] ∧ RgC i j k n ∧ n ≤ 1000 ∧ ∀ q, H1 q = none → Q (.ref q) (upd H1 q (.lst ((rg3 i k n).map V.int)))) : tLstRg3 ta σ H Q := q
theorem walk_rngC {lo c : Int} {n : Nat} : Walk (Itc lo c n) n (fun _ => True) (fun i H x H' => H' = H ∧ x = .int (lo + ((i : Nat) : Int) * c)) where
  goes := fun i H hi _ => hi
  stops := fun H _ => Nat.le_refl n
  yields := fun i H x H' _ _ h => h
theorem rgC_down {i j : Int} (hi : -1 ≤ i) (hi2 : i ≤ 1000) (hj : -1 ≤ j) (hj2 : j ≤ 1000) : RgC i j (-1) (i - j).toNat := RgC.neg (by omega) (by omega) (by omega) (by omega)
theorem g_rg2 {ta tb : TE} {σ : L2.St} {H : Hp} {Q : Int → Int → Hp → Prop} (q : ta σ H fun x H1 => tb σ H1 fun y H2 => ∃ i j, x = .int i ∧ y = .int j ∧ Q i j H2) : tRg2 ta tb σ H Q := q
end Pf

namespace Pf
open PySem PySem.Spec PyProof.Rows L2
/-! ### set(l) of a list of whole numbers, with its order, and sorted of it -/
section
variable {P : Program} {w : World} {A : Around} {E : Value → Shared → Prop} {s : Shared}
abbrev freshSet (w : World) : Obj := { cls := .type "set", dict := none, data := .set #[] 0 (.fresh 0 0 (!w.params.followText "set-order")) }
/-- a list of ints, given to the fresh set at the heap's end -/
theorem fill_by_list {l : Addr} {items : Array Value} {ns : List Int} (hh : A.in1.handled = none) (hl : s.heap.IsList l items) (hit : IntsAre items.toList ns) (hb : ns.length + 1 < scanBound)
    {R : Result → Shared → Prop}
    (h : ∀ (h' : Heap) (tk c : Nat), SetR w h' s.heap.objs.size (fun j => decide (j ∈ ns)) c → c ≤ ns.length → (∀ b o, s.heap.get? b = some o → h'.get? b = some o) → R (.ok (.ret .none)) { s with heap := h', toks := tk }) :
    codeAny (model P w) A (.builtin "set.update.loop" ⟨[.ref s.heap.objs.size, .ref (s.heap.push (freshSet w)).objs.size], []⟩) R { s with heap := (s.heap.push (freshSet w)).push { cls := .type "list_iterator", data := .fields #[.ref l, .int 0 0] } } := by
  have hsz : items.size = ns.length := (Array.length_toList ..).symm.trans (IntsAre.length hit)
  have hz : (s.heap.push (freshSet w)).objs.size = s.heap.objs.size + 1 := Heap.size_push ..
  have hlS : l < s.heap.objs.size := by
    obtain ⟨o, e, _⟩ := hl
    exact Heap.lt_size e
  have hne : l ≠ (s.heap.push (freshSet w)).objs.size := by
    rw [hz]
    exact Nat.ne_of_lt (Nat.lt_succ_of_lt hlS)
  have hfar : s.heap.objs.size ∉ [(s.heap.push (freshSet w)).objs.size, l] := by
    rw [hz]
    simp only [List.mem_cons, List.not_mem_nil, or_false, not_or]
    exact ⟨Nat.ne_of_lt (Nat.lt_succ_self _), Nat.ne_of_gt hlS⟩
  refine set_update_ints ((Walks.list hh _ l hne items).toS) s.heap.objs.size hfar ns hsz hb (fun i v hv => ?_) items.size 0 _ rfl (Nat.zero_le _) ⟨⟨_, Heap.get?_push_size _ rfl, rfl, rfl⟩, Heap.IsList.push (Heap.IsList.push hl _) _⟩ ⟨0, Nat.le_refl 0, setR_new_at (Heap.get?_push_of_some _ (Heap.get?_push_size _ rfl))⟩ (fun s' c hm hc hS => ?_)
  · have hi : i < ns.length := by rw [← hsz]; exact (Array.getElem?_eq_some_iff.mp hv).1
    obtain ⟨t, e⟩ := IntsAre.int_at hit i v (by rw [Array.getElem?_toList]; exact hv)
    refine ⟨ns[i], t, List.getElem?_eq_getElem hi, ?_⟩
    rw [e, List.getD_eq_getElem?_getD, List.getElem?_eq_getElem hi]
    rfl
  · obtain ⟨h', g, d, tk, os⟩ := s'
    obtain rfl : g = s.gens := hm.gens
    obtain rfl : d = s.drawn := hm.drawn
    obtain rfl : os = s.os := hm.os
    refine h h' tk c hS (hsz ▸ hc) fun b o e => ?_
    have hb0 : b < s.heap.objs.size := Heap.lt_size e
    refine hm.heap b o ?_ (Heap.get?_push_of_some _ (Heap.get?_push_of_some _ e))
    rw [hz]
    simp only [List.mem_cons, List.not_mem_nil, or_false, not_or]
    exact ⟨Nat.ne_of_lt hb0, Nat.ne_of_lt (Nat.lt_succ_of_lt hb0)⟩
set_option maxHeartbeats 3200000 in
theorem set_by_list {l : Addr} {items : Array Value} (ns : List Int) {Q : Value → Shared → Prop} (hh : A.handled = none) (hl : s.heap.IsList l items) (hit : IntsAre items.toList ns) (hb : ns.length + 1 < scanBound)
    (h : ∀ (h' : Heap) (tk c : Nat), SetR w h' s.heap.objs.size (fun j => decide (j ∈ ns)) c → c ≤ ns.length → (∀ b o, s.heap.get? b = some o → h'.get? b = some o) → Q (.ref s.heap.objs.size) { s with heap := h', toks := tk }) :
    wpAny (model P w) A (call (.type "set") [.ref l]) Q E s := by
  have hmro := PySem.F.called_set.mro
  obtain ⟨_, _, hmro⟩ := hmro
  have hmade := PySem.F.called_set.made
  have hsub := PySem.F.called_set.sub
  have hn := PySem.F.called_set.notType
  have hcc := PySem.F.called_set.canCreate
  have hct := PySem.F.typeCall_set_1 (.ref l)
  refine wpAny_call (codeAny_of_tree ?_)
  show wpAny _ _ (callAny (.type "set") _) _ _ _
  refine wpAny_pure ⟨Code.quiet_builtin _ (by decide +kernel), codeAny_builtin PySem.F.entry_type_call ?_⟩
  rw [Around.under_plain (weight_type_call_type "set" [.ref l] []) rfl]
  repeat (any_goals (first | assumption | wp_step))
  refine codeAny_mono (code_set_led1 (.ref l) (E := E) (Q₁ := fun obj s1 => obj = .ref s.heap.objs.size ∧ s1 = { s with heap := s.heap.push (freshSet w) }) ⟨rfl, rfl⟩) fun r s1 hr => ?_
  match r, hr with
  | .error e, hr => exact hr
  | .ok (.ret obj), hr =>
    obtain ⟨rfl, rfl⟩ := hr
    have hS : (s.heap.push (freshSet w)).get? s.heap.objs.size = some (freshSet w) := Heap.get?_push_size _ rfl
    have hT : Shared.TypeIs { s with heap := s.heap.push (freshSet w) } (.ref s.heap.objs.size) "set" := ⟨_, hS, rfl⟩
    have hli := PySem.F.called_set.init.lookup
    have hbi := PySem.F.called_set.init.bind (.ref s.heap.objs.size)
    repeat (any_goals (first | assumption | wp_step))
    refine codeAny_mono (codeAny_call_builtin (R := wants (fun v s2 => v = .none ∧ ∃ h' tk c, s2 = { s with heap := h', toks := tk } ∧ SetR w h' s.heap.objs.size (fun j => decide (j ∈ ns)) c ∧ c ≤ ns.length ∧ (∀ b o, s.heap.get? b = some o → h'.get? b = some o)) E) PySem.F.called_set.init.plain PySem.F.entry_set_init (check_set_init_1 hT ?_)) fun r2 s2 hr2 => ?_
    · have hl1 : (s.heap.push (freshSet w)).IsList l items := Heap.IsList.push hl _
      have hl' := hl
      obtain ⟨⟨oc, od, oda, osl⟩, ho, hcl, nl, hda⟩ := hl'
      simp only at hcl hda
      subst hcl
      subst hda
      have ho' := Heap.get?_push_of_some (freshSet w) ho
      have k1 := PySem.F.sub_list_set
      have k2 := PySem.F.sub_list_frozenset
      have k3 : (Value.type "list" == Value.type "dict") = false := by decide
      unfold Builtin.«set.__init__» noKeywords Builtin.Frozenset.updateFrom
      generalize hPI : pyIter = PI
      wp_walk
      subst hPI
      refine wpAny_pyIter_list hl1 ?_
      refine wpAny_bind (wpAny_runValue ?_)
      refine fill_by_list (by simp [hh]) hl hit hb fun h' tk c q1 q2 q3 => ?_
      show wpAny _ _ _ _ _ _
      refine wpAny_pure ?_
      show wpAny _ _ (ret Value.none) _ _ _
      exact wpAny_pure ⟨rfl, h', tk, c, rfl, q1, q2, q3⟩
    · match r2, hr2 with
      | .error e, hr2 => exact hr2
      | .ok (.ret v), hr2 =>
        obtain ⟨rfl, h', tk, c, rfl, q1, q2, q3⟩ := hr2
        repeat (any_goals (first | assumption | wp_step))
        exact h _ _ _ q1 q2 q3
end
def tSortSetL (K : PySem.W.Frag) (ta : TE) : TE := fun σ H Q => ta σ H fun x H1 => ∃ (l : Addr) (ns : List Int), x = .ref l ∧ SqL K H1 l (ns.map V.int) ∧ ns.length < 60 ∧
  ∀ (out : List Int) (p : Addr), out.Pairwise (· < ·) → (∀ k, k ∈ out ↔ k ∈ ns) → H1 p = none → Q (.ref p) (upd H1 p (.lst (out.map V.int)))
theorem pe_sortSetL {X : Cx} {a : Expr} {ta : TE} {p p2 q pos : Pos} (hc : X.calm = true) (hg : Gl X "sorted") (hm : X.mg "sorted" = none) (hg2 : Gl X "set") (hm2 : X.mg "set" = none) (ha : PE X a ta)
    (na : starEach [a] X.env = (false, eval a X.env) :: starEach [] X.env := by rfl) : PE X (.Call (.Name "sorted" p) [.Call (.Name "set" p2) [a] [] q] [] pos) (tSortSetL X.K ta) := by
  refine ⟨fun pins s σ H Q I h => ?_⟩
  refine Call_ (ld_blt I hg hm boot_sorted ?_)
  refine PyProof.Rows.callWith_builtin1 (PyProof.Rows.args_cons ?_ rfl) rfl rfl
  refine Call_ (ld_blt I hg2 hm2 boot_set ?_)
  refine PyProof.Rows.callWith_type1 (PyProof.Rows.args_cons (thn (ha.run pins s σ H _ I h) fun v s1 ⟨x, H1, I1, r1, q1⟩ => PyProof.Rows.args_nil ?_) na) na rfl
  obtain ⟨l, ns, rfl, hq, hl, q1⟩ := q1
  cases r1
  obtain ⟨its, rv, pt, hz⟩ := I1.list hq
  have hi : IntsAre its.toArray.toList ns := ints_of_vals rv
  refine set_by_list ns (I1.ok.hd hc) pt.isList hi (by unfold scanBound; omega) fun h' tk c R1 hcn k => ?_
  refine PyProof.Rows.args_nil ?_
  have I2 : Inv X pins σ H1 { s1 with heap := h', toks := tk } := I1.kept fun b o e => k b o e
  have R2 : SetR X.w ({ s1 with heap := h', toks := tk } : Shared).heap s1.heap.objs.size (fun j => decide (j ∈ ns)) c := R1
  generalize ({ s1 with heap := h', toks := tk } : Shared) = s2 at I2 R2 ⊢
  refine sorted_set R2 (I2.ok.hd hc) (by omega) fun s' p out c2 ns' k2 g o hp hg3 hi2 hs hm3 hl2 => ?_
  have hlen : (ns'.map V.int).length ≤ sizeLine := by rw [List.length_map, hl2, sizeLine_eq]; omega
  have hn : H1 p = none := I2.hok.fresh hp
  have J : Inv X pins σ (upd H1 p (.lst (ns'.map V.int))) { s2 with heap := s'.heap, gens := s'.gens, drawn := s'.drawn, toks := s'.toks } :=
    I2.call (ch := []) (Un.laid k2 hp hn) (I2.hok.laid k2 hp ⟨hlen, out.toList, c2, vals_of_ints hi2, hg3⟩) (by rw [g]; exact I2.bare) (fun _ z => nomatch z)
  have e : s' = { s2 with heap := s'.heap, gens := s'.gens, drawn := s'.drawn, toks := s'.toks } := by
    cases s'
    cases s2
    cases o
    rfl
  rw [e]
  exact ⟨.ref p, _, J, rfl, q1 ns' p hs (fun j => by rw [hm3 j, decide_eq_true_eq]) hn⟩
theorem keSortSetL {X : Cx} (K : PySem.W.Frag) {a : Expr} {ta : TE} {p p2 q pos : Pos} (h : X.K = K) (hc : X.calm = true) (hg : Gl X "sorted") (hm : X.mg "sorted" = none) (hg2 : Gl X "set") (hm2 : X.mg "set" = none) (ha : PE X a ta)
    (na : starEach [a] X.env = (false, eval a X.env) :: starEach [] X.env := by rfl) : PE X (.Call (.Name "sorted" p) [.Call (.Name "set" p2) [a] [] q] [] pos) (tSortSetL K ta) := h ▸ pe_sortSetL hc hg hm hg2 hm2 ha na
theorem g_sortSetL {K : PySem.W.Frag} {ta : TE} {σ : L2.St} {H : Hp} {Q : VK} (q : ta σ H fun x H1 => ∃ (l : Addr) (ns : List Int), x = .ref l ∧ SqL K H1 l (ns.map V.int) ∧ ns.length < 60 ∧ ∀ (out : List Int) (p : Addr), out.Pairwise (· < ·) → (∀ k, k ∈ out ↔ k ∈ ns) → H1 p = none → Q (.ref p) (upd H1 p (.lst (out.map V.int)))) : tSortSetL K ta σ H Q := q
end Pf

namespace Pf
open PySem PySem.Spec PyProof.Rows L2
/-! ### own errors whose __init__(self) keeps nothing, and hands on to that of an own class above -/
/-- S.__init__, read off an own class, is ValueError's -/
structure SInit (K : PySem.W.Frag) (S : Addr) : Prop where
  rd : PySem.W.readsIn K S (.type "type") = true
  ga : PySem.W.specialIn K (.ref S) "__getattribute__" = some (some (.builtin "type.__getattribute__"))
  vI : PySem.W.findCls K (.ref S) (.type "type") "__init__" = some (.val (.builtin "ValueError.__init__"))
section
variable {X : Cx} {o e : Expr} {es : List Expr} {ta : TA} {x : Str} {S : Addr} {p p1 p2 pos : Pos}
theorem pe_sinit {pl : Sem Bool} (hg : Gl X x) (hm : X.mg x = some (.ref S)) (T : SInit X.K S) (ha : PA X (e :: es) ta)
    (hdb : (x == ("__debug__" : Str)) = false := by decide)
    (hc : eval (.Call (.Attribute (.Name x p1) "__init__" p2) (e :: es) [] pos) X.env = (do
      let ov ← eval (.Name x p1) X.env
      standAt p2.atName
      let (f, first) ← holding [ov] (getMethod ov "__init__" pl)
      callWith pos f first (backTo pos (starEach (e :: es) X.env)) (backToKw pos (keywordEach [] X.env))) := by rfl)
    (he : starEach (e :: es) X.env = (false, eval e X.env) :: starEach es X.env := by rfl) (hpl : (backTo pos (starEach es X.env)).any (·.1) = false := by rfl) :
    PE X (.Call (.Attribute (.Name x p1) "__init__" p2) (e :: es) [] pos) (tVeI X.K ta) := by
  refine ⟨fun pins s σ H Q I h => ?_⟩
  refine PySem.W.methodCall_KW (ld_glob I hg hm ?_ hdb) hc
  refine PySem.W.method_cls I.kIn T.ga (PySem.W.cls_value I.kIn T.rd T.vI (by decide +kernel) ?_)
  show wpAny _ _ (callWith pos (Value.builtin "ValueError.__init__") [] (backTo pos (starEach (e :: es) X.env)) []) _ _ _
  refine PyProof.Rows.callWith_method1 (thn (ha.run pos pins _ σ H _ (I.tok _) h) fun us s1 ⟨vs, H1, I1, r1, a, C, ws, ev, hl, T, ea, q⟩ => ?_) he hpl
  subst ev
  cases r1 with
  | @cons _ u0 _ ur ra rw' =>
    obtain rfl : u0 = Value.ref a := ra
    have hlen : ur.length ≤ sizeLine := by
      rw [← Paired.length rw', sizeLine_eq]
      omega
    exact oinit_ok T I1 ea hlen fun s' J => ⟨.non, H1, J, rfl, q⟩
theorem g_vei {K : PySem.W.Frag} {σ : L2.St} {H : Hp} {Q : VK} (q : ta σ H fun vs H1 => ∃ (a C : Addr) (ws : List V), vs = .ref a :: ws ∧ ws.length ≤ 1000 ∧ OexC K C ∧ H1 a = some (exo a C none) ∧ Q .non H1) : tVeI K ta σ H Q := q
/-- C(), C's own __init__ keeping sp -/
def tMkZ (C : Addr) (sp : Sp) : L2.St → Hp → XK → Prop := fun σ H Q => ∀ a, H a = none → sp [.ref a] (upd H a (exo a C none))
  (fun v H2 => v = .non ∧ H2 a = some (exo a C none) ∧ Q (.ref C) none (del H2 a)) (fun _ _ _ => False)
/-- the end of C(): the exception is let go -/
theorem mk_endZ {pins : List (Addr × Obj)} {σ : L2.St} {H1 H2 : Hp} {Q : XK} {hp hp2 h2 : Heap} {g1 g2 : Array GenState} {d1 d2 : Drawn} {t1 t2 : Nat} {os1 os2 : OsState} {a C : Addr} (T : Raises X (.ref C)) (I1 : Inv X pins σ H1 ⟨hp, g1, d1, t1, os1⟩)
    (ha : hp.objs.size ≤ a) (k : ∀ b o, hp.get? b = some o → hp2.get? b = some o) (un : Un (frs X.stack) [] (upd H1 a (exo a C none)) H2 hp2 h2) (hok : HOk X.prog X.w H2 h2) (ho : os2 = os1) (hb : AllBare g2)
    (ea : H2 a = some (exo a C none)) (q : Q (.ref C) none (del H2 a)) : MkP X pins σ Q (.ref a) ⟨h2, g2, d2, t2, os2⟩ := by
  obtain ⟨t0, hoe⟩ := exo_at hok ea
  have hn : H1 a = none := I1.hok.fresh ha
  obtain ⟨G, g1', g2'⟩ := restrict h2 fun b => decide (b ≠ a)
  have gk : ∀ b, b ≠ a → G.get? b = h2.get? b := fun b hb => g1' b (decide_eq_true hb)
  have ge : G.get? a = none := g2' a (by simp)
  have nha : ∀ {b : Addr} {o : Obj}, hp.get? b = some o → b ≠ a := fun {b o} z => Nat.ne_of_lt (Nat.lt_of_lt_of_le (Heap.lt_size z) ha)
  have up : ∀ {b : Addr}, b ≠ a → H1 b = none → upd H1 a (exo a C none) b = none := fun {b} hb n => by rw [upd_ne hb]; exact n
  have U : Un (frs X.stack) [] H1 (del H2 a) hp G := {
    keep := fun b o z n hf hx => by
      rw [gk b (nha z)]
      exact un.keep b o (k b o z) (up (nha z) n) hf hx
    slot := fun b o z n hf hx => by
      rw [gk b (nha z)]
      exact un.slot b o (k b o z) (up (nha z) n) hf hx
    free := fun b o z n hx => by
      rw [del_ne (nha z)]
      exact un.free b o (k b o z) (up (nha z) n) hx
    there := fun b o z hx => by
      rw [gk b (nha z)]
      exact un.there b o (k b o z) hx
    tups := fun b xs z => by
      rw [del_ne (ne_of_none z hn)]
      exact un.tups b xs (by rw [upd_ne (ne_of_none z hn)]; exact z)
    frzs := fun b o v z => by
      rw [del_ne (ne_of_none z hn)]
      exact un.frzs b o v (by rw [upd_ne (ne_of_none z hn)]; exact z)
    tbls := fun b ps z => by
      rw [del_ne (ne_of_none z hn)]
      exact un.tbls b ps (by rw [upd_ne (ne_of_none z hn)]; exact z) }
  have hok3 : HOk X.prog X.w (del H2 a) G := fun b o z => by
    have hba : b ≠ a := fun e => by
      rw [e, del_same] at z
      cases z
    rw [del_ne hba] at z
    have noa : ∀ {c : Addr}, H2 c = some (.own b) → c ≠ a := fun {c} hc => at_ne ea hc exo_own
    exact (hok b o z).stay (fun c v hc y => by
        have hca : c ≠ a := by
          rcases hc with hc | hc
          · rw [hc]
            exact hba
          · exact noa hc
        rw [gk c hca]
        exact y)
      (fun c hc => by rw [del_ne (noa hc)]; exact hc) (fun c xs hc => by rw [del_ne (at_ne ea hc exo_tup)]; exact hc)
  have J : Inv X pins σ (del H2 a) ⟨G, g2, d2, t2, os2⟩ := I1.call' (ch := []) ho U hok3 hb (fun b z => absurd z (by simp))
  refine ⟨a, _, _, ⟨G, g2, d2, t2, os2⟩, _, .ref C, none, rfl, J, fun b o z => ?_, ge, hoe, ⟨rfl, rfl⟩, rfl, rfl, del_same, rfl, hb, T, q⟩
  by_cases hba : b = a
  · rw [hba, ge] at z
    cases z
  · exact (gk b hba).symm.trans z
theorem pmk_z {CX : CXT} {C fI : Addr} {k : Nat} {fd : FuncData} {ps : List Str} {sp : Sp} (T : OexC X.K C) (iC : PySem.W.findIn X.K (.ref C) "__init__" = some (some (.ref fI))) (tI : PySem.W.typeIn X.K (.ref fI) = some (.type "function"))
    (F1 : FnOk X.prog X.w X.K X.mg X.base CX k fI fd ps sp) (hr : Room (k + 1) X.A) (hb : Binds X.K fd ps []) (hx : Passes CX X (fun _ _ _ => False)) (hg : Gl X x) (hm : X.mg x = some (.ref C))
    (hdb : (x == ("__debug__" : Str)) = false := by decide) :
    PMk X (.Call (.Name x p) [] [] pos) (tMkZ C sp) := by
  intro pins s σ H Q I h
  obtain ⟨nm, q, N, bs, bm, sn, sub, ab, col, dd, k0, k1, k2, k3, k5, hC, hbm⟩ := T.cls
  refine wpAny_Call_Name_kw (ld_glob I hg hm ?_ hdb)
  refine PySem.W.callWith_K0 I.kIn T.kC ?_
  show wpAny _ _ (call (.ref C) []) _ _ _
  obtain ⟨hp, g, dr, tk, os⟩ := s
  have hsz : hp.objs.size ≤ hp.objs.size + 1 := Nat.le_succ _
  have hn : H (hp.objs.size + 1) = none := I.hok.fresh hsz
  have hq := h (hp.objs.size + 1) hn
  have kk : ∀ b o, hp.get? b = some o → ((hp.push (PySem.W.kdv_tup [])).push (PySem.HandSPX.excO C hp.objs.size)).get? b = some o := fun b o e => Heap.get?_push_of_some _ (Heap.get?_push_of_some _ e)
  have hget : ((hp.push (PySem.W.kdv_tup [])).push (PySem.HandSPX.excO C hp.objs.size)).get? (hp.objs.size + 1) = some (PySem.HandSPX.excO C hp.objs.size) := by heap_get
  have I2 : Inv X pins σ (upd H (hp.objs.size + 1) (exo (hp.objs.size + 1) C none)) ⟨(hp.push (PySem.W.kdv_tup [])).push (PySem.HandSPX.excO C hp.objs.size), g, dr, tk, os⟩ :=
    I.laid (t' := tk) (a := hp.objs.size + 1) (o := exo (hp.objs.size + 1) C none) (h' := (hp.push (PySem.W.kdv_tup [])).push (PySem.HandSPX.excO C hp.objs.size)) kk hsz (exo_ok hget)
  have r2 : Vals [V.ref (hp.objs.size + 1)] [Value.ref (hp.objs.size + 1)] := .cons rfl .nil
  have hl : (Value.ref (hp.objs.size + 1) :: ([] : List Value) ++ []).length = ps.length := by
    have e := r2.length
    rw [F1.len _ _ _ _ hq] at e
    exact e.symm
  refine wpAny_call (PySem.HandSPX.call_own F.excBase_ValueError (fun Y => PySem.HandSPX.refsVE_contains Y bm hbm) (I.kIn _ _ hC) (PySem.W.looks_findIn I.kIn iC) (fun self => PySem.W.bind_fn I.kIn self tI) (by rw [sizeLine_eq]; decide)
    (codeAny_mono (F1.run _ X.stack _ _ ⟨[Value.ref (hp.objs.size + 1)], []⟩ [Value.ref (hp.objs.size + 1)] _ _ (fun _ _ _ => False) (hr.make C [] []) (I2.env0.make C [] []) (hb _ [Value.ref (hp.objs.size + 1)] I2.kIn hl) r2 hq) fun r s' hq' => ?_))
  cases r with
  | error er => exact hx pins σ _ _ er s' I2 hq'
  | ok fl =>
    cases fl with
    | ret u =>
      obtain ⟨v, H2, os2, bare2, un2, hok2, rv, ev, ea, q2⟩ := hq'
      subst ev
      obtain ⟨h2, g2, d2, t2, os'⟩ := s'
      exact ⟨rv, mk_endZ (raises_own T.exC T.tyC) I hsz kk un2 hok2 os2 bare2 ea q2⟩
    | next => exact False.elim hq'
    | brk => exact False.elim hq'
    | cont => exact False.elim hq'
end
end Pf

namespace Pf
open PySem PySem.Spec PyProof.Rows L2
/-! ### things of any kind: what isinstance says of them -/
theorem kit_own {K : PySem.W.Frag} {C : Addr} {n : String} {b : Bool} (hk : PySem.W.kitMeta n = true) (h : PySem.W.mroIn K C (.type n) = some b) : PySem.W.kitOne K (.ref C) (.type n) = some b := by
  unfold PySem.W.kitOne PySem.W.kitCls
  rw [if_neg (by intro z; cases (beq_iff_eq.mp z))]
  show (if PySem.W.kitMeta n = true then PySem.W.subIn K (.ref C) (.type n) else none) = some b
  rw [if_pos hk]
  exact h
/-- an own class that is of no built-in kind -/
structure OwnC1 (K : PySem.W.Frag) (C : Addr) : Prop where
  ic : C8.InsC K C
  tu : PySem.W.mroIn K C (.type "tuple") = some false
  li : PySem.W.mroIn K C (.type "list") = some false
  it : PySem.W.mroIn K C (.type "int") = some false
  bo : PySem.W.mroIn K C (.type "bool") = some false
  st : PySem.W.mroIn K C (.type "str") = some false
/-- .. or none at all: 0 -/
def OwnC (K : PySem.W.Frag) (C : Addr) : Prop := C ≠ 0 → OwnC1 K C
/-- what is no tuple -/
inductive Nt (d C : Addr) (H : Hp) : V → Prop
  | int (i : Int) : Nt d C H (.int i)
  | bl (b : Bool) : Nt d C H (.bl b)
  | str (s : Str) : Nt d C H (.str s)
  | non : Nt d C H .non
  | lst {p : Addr} {xs : List V} (e : H p = some (.lst xs)) (n : p ≠ d) : Nt d C H (.ref p)
  | dct {p : Addr} {kvs : List (Key × V)} (e : H p = some (.dK kvs)) (n : p ≠ d) : Nt d C H (.ref p)
  | own {p dx : Addr} {fs : List (Str × V)} (e : H p = some (.ins C dx fs)) (n : p ≠ d) (z : C ≠ 0) : Nt d C H (.ref p)
theorem Nt.fr {d C : Addr} {H H' : Hp} {v : V} (f : Fr d H H') (h : Nt d C H v) : Nt d C H' v := by
  cases h with
  | int i => exact .int i
  | bl b => exact .bl b
  | str s => exact .str s
  | non => exact .non
  | lst e n => exact .lst (f _ _ n e) n
  | dct e n => exact .dct (f _ _ n e) n
  | own e n z => exact .own (f _ _ n e) n z
section
variable {K : PySem.W.Frag} {d C : Addr} {H : Hp} {v : V}
theorem Nt.tup (c : OwnC K C) (h : Nt d C H v) : ∃ t, TyX K H v t ∧ PySem.W.kitOne K t (.type "tuple") = some false := by
  cases h with
  | int i => exact ⟨_, .base (.int i), kit_ty (by decide +kernel)⟩
  | bl b => exact ⟨_, .base (.bl b), kit_ty (by decide +kernel)⟩
  | str s => exact ⟨_, .base (.str s), kit_ty (by decide +kernel)⟩
  | non => exact ⟨_, .base .non, kit_ty (by decide +kernel)⟩
  | lst e n => exact ⟨_, .base (.lst e), kit_ty (by decide +kernel)⟩
  | dct e n => exact ⟨_, .base (.dK e), kit_ty (by decide +kernel)⟩
  | own e n z0 => exact ⟨_, .base (.ins e (c z0).ic.cl (c z0).ic.ha (c z0).ic.hn (c z0).ic.htk (c z0).ic.hm), kit_own (by decide +kernel) (c z0).tu⟩
/-- an integer, or what is_integer refuses -/
theorem Nt.num (c : OwnC K C) (h : Nt d C H v) : (∃ i, v = .int i) ∨ ((∀ i, v ≠ .int i) ∧ IntK K H v false) := by
  cases h with
  | int i => exact .inl ⟨i, rfl⟩
  | bl b => exact .inr ⟨(fun i z => by cases z), _, true, true, .base (.bl b), kit_ty (by decide +kernel), kit_ty (by decide +kernel), rfl⟩
  | str s => exact .inr ⟨(fun i z => by cases z), _, false, false, .base (.str s), kit_ty (by decide +kernel), kit_ty (by decide +kernel), rfl⟩
  | non => exact .inr ⟨(fun i z => by cases z), _, false, false, .base .non, kit_ty (by decide +kernel), kit_ty (by decide +kernel), rfl⟩
  | lst e n => exact .inr ⟨(fun i z => by cases z), _, false, false, .base (.lst e), kit_ty (by decide +kernel), kit_ty (by decide +kernel), rfl⟩
  | dct e n => exact .inr ⟨(fun i z => by cases z), _, false, false, .base (.dK e), kit_ty (by decide +kernel), kit_ty (by decide +kernel), rfl⟩
  | own e n z0 => exact .inr ⟨(fun i z => by cases z), _, false, false, .base (.ins e (c z0).ic.cl (c z0).ic.ha (c z0).ic.hn (c z0).ic.htk (c z0).ic.hm), kit_own (by decide +kernel) (c z0).it, kit_own (by decide +kernel) (c z0).bo, rfl⟩
/-- a string, or none -/
theorem Nt.strs (c : OwnC K C) (h : Nt d C H v) : (∃ s, v = .str s) ∨ ((∀ s, v ≠ .str s) ∧ ∃ t, TyX K H v t ∧ PySem.W.kitOne K t (.type "str") = some false) := by
  cases h with
  | int i => exact .inr ⟨(fun s z => by cases z), _, .base (.int i), kit_ty (by decide +kernel)⟩
  | bl b => exact .inr ⟨(fun s z => by cases z), _, .base (.bl b), kit_ty (by decide +kernel)⟩
  | str s => exact .inl ⟨s, rfl⟩
  | non => exact .inr ⟨(fun s z => by cases z), _, .base .non, kit_ty (by decide +kernel)⟩
  | lst e n => exact .inr ⟨(fun s z => by cases z), _, .base (.lst e), kit_ty (by decide +kernel)⟩
  | dct e n => exact .inr ⟨(fun s z => by cases z), _, .base (.dK e), kit_ty (by decide +kernel)⟩
  | own e n z0 => exact .inr ⟨(fun s z => by cases z), _, .base (.ins e (c z0).ic.cl (c z0).ic.ha (c z0).ic.hn (c z0).ic.htk (c z0).ic.hm), kit_own (by decide +kernel) (c z0).st⟩
theorem TyX.tup' {p : Addr} {xs : List V} (h : SqT K H p xs) : TyX K H (.ref p) (.type "tuple") := by
  rcases h with (q | ⟨o, q⟩) | ⟨o, its, n, e, c, _⟩
  · exact .base (.tup q)
  · exact .fTuple q
  · exact .kTuple e c
theorem IntK.tup {p : Addr} {xs : List V} (h : SqT K H p xs) : IntK K H (.ref p) false := ⟨_, false, false, TyX.tup' h, kit_ty (by decide +kernel), kit_ty (by decide +kernel), rfl⟩
/-- anything -/
def Th (K : PySem.W.Frag) (d C : Addr) (H : Hp) (v : V) : Prop := Nt d C H v ∨ ∃ p xs, v = .ref p ∧ SqT K H p xs
theorem Th.int (i : Int) : Th K d C H (.int i) := .inl (.int i)
theorem Th.tup {p : Addr} {xs : List V} (h : SqT K H p xs) : Th K d C H (.ref p) := .inr ⟨p, xs, rfl, h⟩
theorem Th.num (c : OwnC K C) (h : Th K d C H v) : (∃ i, v = .int i) ∨ ((∀ i, v ≠ .int i) ∧ IntK K H v false) := by
  rcases h with h | ⟨p, xs, rfl, h⟩
  · exact h.num c
  · exact .inr ⟨(fun i z => by cases z), IntK.tup h⟩
theorem Th.strs (c : OwnC K C) (h : Th K d C H v) : (∃ s, v = .str s) ∨ ((∀ s, v ≠ .str s) ∧ ∃ t, TyX K H v t ∧ PySem.W.kitOne K t (.type "str") = some false) := by
  rcases h with h | ⟨p, xs, rfl, h⟩
  · exact h.strs c
  · exact .inr ⟨(fun i z => by cases z), _, TyX.tup' h, kit_ty (by decide +kernel)⟩
theorem Th.fr {H' : Hp} (f : Fr d H H') (x : Tx H H') (h : Th K d C H v) : Th K d C H' v := by
  rcases h with h | ⟨p, xs, rfl, h⟩
  · exact .inl (h.fr f)
  · exact .inr ⟨p, xs, rfl, x.seq h⟩
/-- whether an integer from 0 to n -/
def wholeV (n : Int) : V → Bool
  | .int i => decide (0 ≤ i ∧ i ≤ n)
  | _ => false
theorem wholeV_not {n : Int} (h : ∀ i, v ≠ .int i) : wholeV n v = false := by
  cases v <;> first | rfl | exact absurd rfl (h _)
end
end Pf

/-! ### isinstance of a caught error of an own class, with fields or without -/
namespace Pf
open PySem PySem.Spec PySem.Calls PyProof.Rows PySem.W
section
variable {prog : Program} {w : World} {A : Around} {E : Value → Shared → Prop} {s : Shared} {K : Frag} {x D : Addr} {ox : Obj} {od : Option Obj}
theorem find_data {C : Addr} {name : Str} {a g : Value} (hc : (clsIn K C).isSome = true) (ha : findIn K (.ref C) name = some (some a)) (hg : specialIn K a "__get__" = some (some g)) (ht : takesIn K a = some true) : findObj K C od name = some (.bind g a) := by
  obtain ⟨cd, hc⟩ := Option.isSome_iff_exists.mp hc
  unfold findObj
  rw [hc, Option.bind_some, ha, Option.bind_some]
  simp [hg, ht]
theorem kin_class {Q : Option Value → Shared → Prop} (T : L2.ExcC K D) (X : K.In s.heap) (I : InstAt s.heap x ox D od) (h : Q (some (.ref D)) { s with toks := s.toks + 1 }) : wpAny (model prog w) A (getAttr? (.ref x) "__class__") Q E s := by
  obtain ⟨hga, hgt, hsub, hdct, ha, hn, htk, hm⟩ := T
  have hf : findObj K D od "__class__" = some (.bind (.builtin "getset_descriptor.__get__") (.builtin "object.__class__")) := find_data (by obtain ⟨cd, hc, _⟩ := any_some hdct; rw [hc]; rfl) ha hn htk
  obtain ⟨hp, g, d, t, os⟩ := s
  have L0 := I.type (M := model prog w)
  have L1 := looks_findIn (M := model prog w) X hga
  have L2 := looks_findIn (M := model prog w) X hgt
  have L3 := looks_find (M := model prog w) X I hf
  have sub : Looks (model prog w) hp (isInstance (.ref x) (.type "BaseException")) true := L0.andThen (looks_subIn X hsub)
  have hx0 : (false && onTheHeap (Value.builtin "BaseException.__getattribute__")) = false := rfl
  have hx2 : (Value.builtin "BaseException.__getattribute__" == Value.builtin "object.__getattribute__") = false := by decide +kernel
  have hx1 : (onTheHeap (Value.ref D) && Value.builtin "BaseException.__getattribute__" == Value.builtin "object.__getattribute__") = false := by rw [hx2]; rfl
  unfold getAttr? getAttrBy? getAttrBy
  refine wpAny_bind (wpAny_mkText (wpAny_bind (wpAny_attempt (wpAny_holding (wpAny_bind (L0.at (wpAny_bind (L1.at ?_))))))))
  show wpAny _ _ (if (onTheHeap (Value.ref D) && Value.builtin "BaseException.__getattribute__" == Value.builtin "object.__getattribute__") = true then _ else _) _ _ _
  rw [hx1, if_neg Bool.false_ne_true]
  unfold getAttrByItsOwn hookBefore
  refine wpAny_bind ?_
  rw [if_pos (show onTheHeap (Value.ref D) = true from rfl)]
  refine L2.at ?_
  refine wpAny_bind (wpAny_attempt (wpAny_holding ?_))
  unfold callGetattribute
  rw [hx0, if_neg Bool.false_ne_true]
  unfold boundAndCalled
  rw [PySem.F.excAttr_ValueError.ga.bind (.ref x)]
  refine wpAny_bind (wpAny_pure ?_)
  show wpAny _ _ (call (.builtin "BaseException.__getattribute__") [.ref x, .str "__class__" t]) _ _ _
  refine wpAny_call (codeAny_call_builtin PySem.F.excAttr_ValueError.ga.plain PySem.F.entry_bexc_ga ?_)
  refine @check_slot (model prog w) _ _ ⟨hp, g, d, t + 1, os⟩ "BaseException.__getattribute__" "BaseException" "__getattribute__" (.ref x) [.str "__class__" t] [] _ (by decide +kernel) (by decide +kernel) sub (PySem.F.args_bexc_ga (.ref x) (.str "__class__" t)) ?_
  unfold Builtin.«object.__getattribute__»
  refine wpAny_bind (wpAny_of_eq (a := ((Value.ref x : Value), [Value.str "__class__" t])) (by first | rfl | (simp only [slotArgs]; rfl)) ?_)
  refine wpAny_bind (wpAny_pure (wpAny_bind (L0.at (wpAny_bind (L3.at ?_)))))
  show wpAny _ _ (holding [Value.builtin "object.__class__"] (call (.builtin "getset_descriptor.__get__") [.builtin "object.__class__", .ref x, .ref D]) >>= ret) _ _ _
  refine wpAny_bind (wpAny_holding (wpAny_call (class_get (s := ⟨hp, g, d, t + 1, os⟩) (ox := ox) (od := od) X I hm ?_)))
  refine wpAny_pure ?_
  show wpAny _ _ (handedOut (.ref D)) _ _ _
  rw [handedOut_of (v := .ref D) rfl]
  first
    | exact wpAny_pure (wpAny_pure h)
    | exact wpAny_pure h
    | exact wpAny_pure (wpAny_bind (wpAny_pure (wpAny_pure h)))
theorem kitx_own (T : L2.ExcC K D) : KitX K (.ref x) (.ref D) (fun h => ∃ od, InstAt h x ox D od) where
  ty := fun _ _ _ ⟨_, I⟩ => I.type
  it := fun _ _ X _ => by
    obtain ⟨cdD, hcD, _⟩ := any_some T.hd
    unfold clsIn at hcD
    split at hcD
    · rename_i c' d' cd' sl' ho
      intro A' Q' E' s' k q
      unfold isType loadHead
      exact wpAny_bind (wpAny_loadPart (k _ _ (X _ _ ho)) (wpAny_pure q))
    · cases hcD
  ne := fun h tp dd its n sl X htp => by
    obtain ⟨cdD, hcD, _⟩ := any_some T.hd
    refine Bool.eq_false_iff.mpr fun q => ?_
    have e : D = tp := Value.ref.inj (beq_iff_eq.mp q)
    subst e
    unfold clsIn at hcD
    split at hcD
    · rename_i c' d' cd' sl' ho
      have z := (X _ _ ho).symm.trans htp
      cases z
    · cases hcD
  ca := fun X ⟨_, I⟩ k => kin_class T X I k
end
end Pf
namespace Pf
open PySem PySem.Spec PyProof.Rows L2
/-- isinstance(e, c), e the error that the suite holds; d its dict -/
def rIsX (K : PySem.W.Frag) (cls : Value) (d : Option Addr) (a : Addr) : List V → Hp → VK → Prop := fun xs H Q => ∃ (D : Addr) (c : V) (cv : Value) (b : Bool), xs = [.ref a, c] ∧ cls = .ref D ∧ ExcC K D ∧ (∀ u, RelV c u → u = cv) ∧ (∀ dd, d = some dd → ∃ fs, H dd = some (.xd fs)) ∧ PySem.W.kitOne K (.ref D) cv = some b ∧ Q (.bl b) H
theorem call_isX {X : Cx} {a : Addr} {oe : Obj} {cls : Value} {d : Option Addr} {pn : List (Addr × Obj)} (hz : Zc cls d oe) (hf : ∃ vs, oe.data = .fields vs) : CallR (X.suite a ((a, oe) :: pn)) (.builtin "isinstance") (rIsX X.K cls d a) := by
  intro pins s σ H xs us Q I r h
  obtain ⟨D, c, cv, b, rfl, rfl, C, hcv, hfs, e, q⟩ := h
  cases r with
  | cons rx rr =>
    cases rr with
    | cons rt rr =>
      cases rr
      cases rx
      have ec := hcv _ rt
      subst ec
      obtain ⟨hget, _⟩ := I.pin (a, oe) (List.mem_append.mpr (.inl List.mem_cons_self))
      obtain ⟨vs, hv⟩ := hf
      have J : ∃ od, PySem.W.InstAt s.heap a oe D od := by
        cases d with
        | none =>
          obtain ⟨oc, od, oda, osl⟩ := oe
          obtain ⟨h1, h2⟩ := hz
          dsimp only at h1 h2 hv
          subst h1 h2 hv
          exact ⟨none, hget, rfl, rfl, trivial⟩
        | some dd =>
          obtain ⟨fs, ea⟩ := hfs dd rfl
          have hx : ObjOk X.prog X.w H s.heap dd (.xd fs) := I.hok dd _ ea
          obtain ⟨mA, hns, hr⟩ := hx
          obtain ⟨od, ho, hl⟩ := lookIn_ns hns
          exact ⟨some od, hget, hz.1, by unfold PySem.W.notCls; rw [hv] <;> rfl, by rw [hz.2]; exact ho⟩
      exact PySem.W.kia_one (kitx_own C) I.kIn J e (fun z => nomatch z) fun tk => ⟨.bl b, H, I.kept (t' := tk) fun _ _ z => z, rfl, q⟩
/-- C(..) with its field, as it leaves a def -/
theorem g_ost {K : PySem.W.Frag} {f : Str} {to te : TE} {D : Ends} {σ : L2.St} {H : Hp} (q : te σ H fun y H1 => to σ H1 fun x H2 => ∃ a C : Addr, x = .ref a ∧ OexC K C ∧ PySem.W.findIn K (.ref C) f = some none ∧
  ((H2 a = some (exo a C none) ∧ ∀ dx, H2 dx = none → dx ≠ a → D.nx σ (upd (upd H2 dx (exd dx [(f, y)])) a (exo a C (some dx)))) ∨
    ∃ (dx : Addr) (fs : List (Str × V)), H2 a = some (exo a C (some dx)) ∧ H2 dx = some (exd dx fs) ∧ fs.length ≤ 900 ∧ D.nx σ (upd H2 dx (exd dx ((f, y) :: fs))))) : tOst K f to te D σ H := q
theorem g_mko {C : Addr} {sp : Sp} {ta : TA} {σ : L2.St} {H : Hp} {Q : XK} (q : ta σ H fun vs H1 => vs.length ≤ 1000 ∧ ∀ a, H1 a = none → sp (.ref a :: (vs ++ [])) (upd H1 a (exo a C none))
  (fun v H2 => v = .non ∧ ∃ (d : Addr) (fs : List (Str × V)), H2 a = some (exo a C (some d)) ∧ H2 d = some (exd d fs) ∧ H1 d = none ∧ Q (.ref C) (some d) (upd (del H2 a) d (.xd fs))) (fun _ _ _ => False)) : tMkO C sp [] ta σ H Q := q
/-- C(e, ..) where what is raised is wished for at the caller's slots -/
def tMakeS (C : Addr) (sp : Sp) (E : L2.St → XK) (t : TA) : TE := fun σ H Q => t σ H fun vs H1 => ∀ x dx, H1 x = none → H1 dx = none → dx ≠ x → sp (.ref x :: vs) (upd (upd H1 dx (.own x)) x (.ins C dx [])) (fun v H2 => v = .non ∧ Q (.ref x) H2) (E σ)
section
variable {X : Cx} {CX : CXT} {k : Nat} {f C : Addr} {fd : FuncData} {ps : List Str} {sp : Sp} {E : L2.St → XK} {x : Str} {p pos : Pos} {e : Expr} {es : List Expr} {t : TA}
theorem run_makeS {pins : List (Addr × Obj)} {σ : L2.St} {H : Hp} {s : Shared} {Q : VK} {us : List Value} {vs : List V} (M : Mk X.K C f) (F : FnOk X.prog X.w X.K X.mg X.base CX k f fd ps sp) (hr : Room (k + 1) X.A) (hb : Binds X.K fd ps [])
    (hx : PassesAt CX X σ (E σ)) (I : Inv X pins σ H s) (r : Vals vs us)
    (h : ∀ x dx, H x = none → H dx = none → dx ≠ x → sp (.ref x :: vs) (upd (upd H dx (.own x)) x (.ins C dx [])) (fun v H2 => v = .non ∧ Q (.ref x) H2) (E σ)) :
    wpAny (model X.prog X.w) X.A (call (.ref C) us) (EP X pins σ Q) X.xe s := by
  have hq := h (s.heap.objs.size + 1) s.heap.objs.size (I.hok.fresh (Nat.le_succ _)) (I.hok.fresh (Nat.le_refl _)) (Nat.ne_of_lt (Nat.lt_succ_self _))
  have I2 := Inv.made (C := C) I
  have r2 : Vals (V.ref (s.heap.objs.size + 1) :: vs) (Value.ref (s.heap.objs.size + 1) :: us) := .cons rfl r
  have hl : (Value.ref (s.heap.objs.size + 1) :: us ++ []).length = ps.length := by
    have e := r2.length
    rw [F.len _ _ _ _ hq] at e
    rw [List.append_nil]
    exact e.symm
  have b := hb _ (Value.ref (s.heap.objs.size + 1) :: us) I2.kIn hl
  rw [List.append_nil] at b
  refine wpAny_call (make_map (f := f) I.kIn M.makes M.init (beq_iff_eq.mp M.fn) (codeAny_mono (F.run _ X.stack _ _ ⟨Value.ref (s.heap.objs.size + 1) :: us, []⟩ (Value.ref (s.heap.objs.size + 1) :: us) _ _ (E σ) (hr.make C us [])
    (I2.env0.make C us []) b r2 hq) fun r s' hq' => ?_))
  cases r with
  | error e => exact hx pins _ _ e s' I2 hq'
  | ok fl =>
    cases fl with
    | ret u =>
      obtain ⟨v, H', I3, rv, ev, q3⟩ := I2.after hq'
      subst ev
      exact ⟨rv, ⟨V.ref (s.heap.objs.size + 1), H', I3, rfl, q3⟩⟩
    | next => exact False.elim hq'
    | brk => exact False.elim hq'
    | cont => exact False.elim hq'
theorem pe_makeS (M : Mk X.K C f) (F : FnOk X.prog X.w X.K X.mg X.base CX k f fd ps sp) (hr : Room (k + 1) X.A) (hg : Gl X x) (hm : X.mg x = some (.ref C)) (hb : Binds X.K fd ps []) (hx : ∀ σ, PassesAt CX X σ (E σ)) (ha : PA X (e :: es) t)
    (hdb : (x == ("__debug__" : Str)) = false := by decide) (he : starEach (e :: es) X.env = (false, eval e X.env) :: starEach es X.env := by rfl) (hpl : (backTo pos (starEach es X.env)).any (·.1) = false := by rfl) :
    PE X (.Call (.Name x p) (e :: es) [] pos) (tMakeS C sp E t) := by
  refine ⟨fun pins s σ H Q I h => ?_⟩
  refine wpAny_Call_Name_kw (ld_glob I hg hm ?_ hdb)
  refine PySem.W.callWith_K (h₀ := X.base) I.ok.mod.kin M.kp (thn (ha.run pos pins s σ H _ I h) fun us s1 ⟨vs, H1, I1, r, q⟩ => ⟨I1.kIn, ?_⟩) he hpl
  exact run_makeS M F hr hb (hx σ) I1 r q
end
theorem g_makeS {C : Addr} {sp : Sp} {W : WX} {t : TA} {σ : L2.St} {H : Hp} {Q : VK} (q : t σ H fun vs H1 => ∀ x dx, H1 x = none → H1 dx = none → dx ≠ x → sp (.ref x :: vs) (upd (upd H1 dx (.own x)) x (.ins C dx [])) (fun v H2 => v = .non ∧ Q (.ref x) H2) (fun cls d H => W cls d σ H)) : tMakeS C sp (WE W) t σ H Q := q
end Pf

/-! ### own ==, and != by it, whatever they say -/
namespace Pf
open PySem PySem.Spec PySem.Calls PyProof.Rows PySem.W
section
variable {prog : Program} {w : World} {A : Around} {E : Value → Shared → Prop} {s : Shared} {K : Frag} {x C f : Addr} {ox : Obj} {od : Option Obj} {b tb : Value}
theorem ifBound_ne {M : Model} {args : List Value} {Q : Option Value → Shared → Prop} (X : K.In s.heap) (I : InstAt s.heap x ox C od) (hs : findIn K (.ref C) "__ne__" = some (some (.builtin "object.__ne__")))
    (h : wpAny M A (call (.builtin "object.__ne__") (.ref x :: args)) (fun v => Q (some v)) E s) : wpAny M A (callSpecialIfBound? (.ref x) "__ne__" args) Q E s := by
  simp only [callSpecialIfBound?, bindSpecialIfBound?]
  refine wpAny_holding (wpAny_bind (wpAny_bind (wpAny_bind (I.type.here ((looks_findIn X hs).here ?_)))))
  simp only [PySem.F.cmp_object.ne.bind]
  refine wpAny_bind (wpAny_askSetting (wpAny_ite ?_))
  have fin : wpAny M A (call (.builtin "object.__ne__") ([.ref x] ++ args) >>= fun v => pure (some v)) Q E s := wpAny_bind (wpAny_mono h (fun v s' h' => wpAny_pure h') fun _ _ h' => h')
  split
  · exact wpAny_bind (wpAny_pure (wpAny_pure fin))
  · exact wpAny_tryCatch (wpAny_bind (wpAny_pure (wpAny_pure fin)))
theorem ne_body (hu : A.units < cLine) (X : K.In s.heap) (I : InstAt s.heap x ox C od) (hs : findIn K (.ref C) "__eq__" = some (some (.ref f))) (hf : isFn K (.ref f) = true) {Q : Fin → Shared → Prop}
    (h : wpAny (model prog w) A (call (.ref f) [.ref x, b]) (fun v s' => ∃ r, v = .bool r ∧ Q (.done (.ret (.bool !r))) s') E s) : wpAny (model prog w) A (Builtin.«object.__ne__» ⟨[.ref x, b], []⟩) Q E s := by
  unfold Builtin.«object.__ne__»
  refine wpAny_bind (wpAny_of_eq (a := ((Value.ref x : Value), [b])) (by first | rfl | (simp only [slotArgs]; rfl)) ?_)
  refine wpAny_bind (wpAny_cRoomFor hu ?_)
  refine wpAny_bind (ifBound_K X I hs hf (wpAny_mono h (fun v s' hv => ?_) fun _ _ e => e))
  obtain ⟨r, rfl, q⟩ := hv
  show wpAny (model prog w) A (do ret (.bool (!(← truthy (.bool r))))) Q E s'
  repeat (any_goals (first | assumption | wp_step))
theorem try_ne (hu : A.in1.units < cLine) (X : K.In s.heap) (I : InstAt s.heap x ox C od) (hn : findIn K (.ref C) "__ne__" = some (some (.builtin "object.__ne__"))) (ho : mroIn K C (.type "object") = some true)
    (hs : findIn K (.ref C) "__eq__" = some (some (.ref f))) (hf : isFn K (.ref f) = true) {Q : Value → Shared → Prop}
    (h : wpAny (model prog w) A.in1 (call (.ref f) [.ref x, b]) (fun v s' => ∃ r, v = .bool r ∧ Q (.bool !r) s') (fun _ _ => False) s) :
    wpAny (model prog w) A (tryCompare (.ref x) "__ne__" b) (fun r s' => ∃ v, r = some v ∧ Q v s') E s := by
  have L0 := I.type (M := model prog w)
  have sub : Looks (model prog w) s.heap (isInstance (.ref x) (.type "object")) true := L0.andThen (looks_mroIn X ho)
  unfold tryCompare
  refine wpAny_bind (ifBound_ne X I hn (wpAny_call (codeAny_call_builtin PySem.F.cmp_object.ne.plain PySem.F.cmpEntry_ne (check_slot PySem.F.cmpKind_ne PySem.F.cmpSplit_ne sub (PySem.F.cmpArgs_ne _ _) ?_))))
  refine ne_body (A := A.in1) hu X I hs hf (wpAny_mono h (fun v s' hv => ?_) fun _ _ z => z.elim)
  obtain ⟨r, rfl, q⟩ := hv
  refine ⟨r, rfl, ?_⟩
  exact wpAny_pure ⟨_, rfl, q⟩
theorem cmp_ne (hu : A.units < cLine) (hu1 : A.in1.units < cLine) (X : K.In s.heap) (I : InstAt s.heap x ox C od) (hb : Looks (model prog w) s.heap (typeOf b) tb) (hnf : notFirst K C tb = true)
    (hn : findIn K (.ref C) "__ne__" = some (some (.builtin "object.__ne__"))) (ho : mroIn K C (.type "object") = some true)
    (hs : findIn K (.ref C) "__eq__" = some (some (.ref f))) (hf : isFn K (.ref f) = true) {Q : Value → Shared → Prop}
    (h : wpAny (model prog w) A.in1 (call (.ref f) [.ref x, b]) (fun v s' => ∃ r, v = .bool r ∧ Q (.bool !r) s') (fun _ _ => False) s) :
    wpAny (model prog w) A (richCompare .NotEq (.ref x) b) Q E s := by
  have one := try_ne (E := E) hu1 X I hn ho hs hf h
  unfold richCompare
  simp only [oneThing_ref]
  refine wpAny_holding (wpAny_bind (wpAny_cRoomFor hu ?_))
  refine wpAny_bind (I.type.here (wpAny_bind (hb.here ?_)))
  split
  · rename_i q
    have e : subIn K tb (.ref C) = some false := by
      rcases Bool.or_eq_true_iff.mp hnf with e | e
      · rw [beq_iff_eq.mp e] at q; simp at q
      · exact beq_iff_eq.mp e
    refine wpAny_bind ((looks_subIn X e).here ?_)
    simp only [Bool.false_eq_true, if_false]
    refine wpAny_bind (wpAny_mono one (fun r s' z => ?_) fun _ _ e => e)
    obtain ⟨v, rfl, hq⟩ := z
    exact wpAny_pure hq
  · refine wpAny_bind (wpAny_pure ?_)
    simp only [Bool.false_eq_true, if_false]
    refine wpAny_bind (wpAny_mono one (fun r s' z => ?_) fun _ _ e => e)
    obtain ⟨v, rfl, hq⟩ := z
    exact wpAny_pure hq
end
end Pf
namespace Pf
open PySem PySem.Spec PyProof.Rows L2
/-- what the class says of its own == -/
structure EqC (K : PySem.W.Frag) (C f : Addr) : Prop where
  eq : PySem.W.findIn K (.ref C) "__eq__" = some (some (.ref f))
  fn : PySem.W.isFn K (.ref f) = true
  ne : PySem.W.findIn K (.ref C) "__ne__" = some (some (.builtin "object.__ne__"))
  ob : PySem.W.mroIn K C (.type "object") = some true
/-- x == y, x != y, x of an own class, y of another kind or of the same -/
def rCmpI (K : PySem.W.Frag) (C : Addr) (sp : Sp) (g : Bool → Bool) : R2 := fun x y H Q => ∃ (a dx : Addr) (fs : List (Str × V)) (t : Value), x = .ref a ∧ H a = some (.ins C dx fs) ∧ TyX K H y t ∧ PySem.W.notFirst K C t = true ∧ sp [x, y] H (fun v H' => ∃ b, v = .bl b ∧ Q (.bl (g b)) H') E0
section
variable {X : Cx} {CX : CXT} {C f : Addr} {fd : FuncData} {ps : List Str} {sp : Sp} {n : Nat}
theorem op_eqI (F : FnOk X.prog X.w X.K X.mg X.base CX n f fd ps sp) (T : EqC X.K C f) (hb : Binds X.K fd ps []) (hx : Passes CX X E0) (hr : Room n X.A) : OpR X (compareOp .Eq) (rCmpI X.K C sp id) := by
  intro pins s σ H x y v u Q I rx ry hq
  obtain ⟨a, dx, fs, t, rfl, ha, ty, hnf, hsp⟩ := hq
  cases rx
  obtain ⟨P, hk, hP, _⟩ := kit_of I ry ty
  obtain ⟨mA, J, _⟩ := ins_get I.hok ha
  obtain ⟨od, J, _⟩ := J.look
  obtain ⟨m, hF⟩ := I.fr
  show wpAny (model X.prog X.w) X.A (richCompare .Eq (.ref a) u) (EP X pins σ Q) X.xe s
  refine PySem.W.cmp_K (op := .Eq) (tb := t) hr.units0 hF I.ok.mod.kin J (hk.ty (model X.prog X.w) s.heap I.kIn hP) hnf T.eq T.fn ?_
  have r2 : Vals [V.ref a, y] [Value.ref a, u] := .cons rfl (.cons ry .nil)
  have hl := F.len _ _ _ _ hsp
  have b2 := hb s [.ref a, u] I.kIn (by simpa using hl)
  rw [List.append_nil] at b2
  refine wpAny_call (codeAny_mono (F.run X.A X.stack s H ⟨[.ref a, u], []⟩ [.ref a, u] [.ref a, y] _ E0 hr I.env0 b2 r2 hsp) fun r s' hq => ?_)
  cases r with
  | error e => exact hx pins σ H s e s' I hq
  | ok fl =>
    cases fl with
    | ret w =>
      obtain ⟨z, H', I', rz, b, ez, q⟩ := I.after hq
      subst ez
      cases rz
      exact ⟨.bl b, H', I', rfl, q⟩
    | next => exact False.elim hq
    | brk => exact False.elim hq
    | cont => exact False.elim hq
theorem op_neI (F : FnOk X.prog X.w X.K X.mg X.base CX n f fd ps sp) (T : EqC X.K C f) (hb : Binds X.K fd ps []) (hx : Passes CX X E0) (hx0 : ∀ H s e s', ¬ CX X.stack H s E0 e s') (hr : Room (n + 1) X.A) : OpR X (compareOp .NotEq) (rCmpI X.K C sp not) := by
  intro pins s σ H x y v u Q I rx ry hq
  obtain ⟨a, dx, fs, t, rfl, ha, ty, hnf, hsp⟩ := hq
  cases rx
  obtain ⟨P, hk, hP, _⟩ := kit_of I ry ty
  obtain ⟨mA, J, _⟩ := ins_get I.hok ha
  obtain ⟨od, J, _⟩ := J.look
  have hr1 : Room n X.A.in1 := hr.in1
  show wpAny (model X.prog X.w) X.A (richCompare .NotEq (.ref a) u) (EP X pins σ Q) X.xe s
  refine cmp_ne (tb := t) hr.units0 hr1.units0 I.kIn J (hk.ty (model X.prog X.w) s.heap I.kIn hP) hnf T.ne T.ob T.eq T.fn ?_
  have e0 : Env0 X.prog X.w X.K X.mg X.base X.A.in1 X.stack s H := by
    have e := I.env0
    exact ⟨e.frames, e.mod, e.bs, e.bsz, e.funs, e.frf, e.hok, e.bare⟩
  have r2 : Vals [V.ref a, y] [Value.ref a, u] := .cons rfl (.cons ry .nil)
  have hl := F.len _ _ _ _ hsp
  have b2 := hb s [.ref a, u] I.kIn (by simpa using hl)
  rw [List.append_nil] at b2
  refine wpAny_call (codeAny_mono (F.run X.A.in1 X.stack s H ⟨[.ref a, u], []⟩ [.ref a, u] [.ref a, y] _ E0 hr1 e0 b2 r2 hsp) fun r s' hq => ?_)
  cases r with
  | error e => exact hx0 _ _ _ _ hq
  | ok fl =>
    cases fl with
    | ret w =>
      obtain ⟨z, H', I', rz, b, ez, q⟩ := I.after hq
      subst ez
      cases rz
      exact ⟨b, rfl, .bl (!b), H', I', rfl, q⟩
    | next => exact False.elim hq
    | brk => exact False.elim hq
    | cont => exact False.elim hq
end
theorem no_CX0 {outer : List Env} {H : Hp} {s : Shared} {E : XK} {e : Value} {s' : Shared} : ¬ CX0 outer H s E e s' := fun h => h
end Pf

namespace Pf
open PySem PySem.Spec PyProof.Rows L2
/-! ### f-strings, parts of texts put together -/
theorem g_js0 {acc : Str} {σ : L2.St} {H : Hp} {Q : Str → Hp → Prop} (q : Q acc H) : tJs [] acc σ H Q := q
theorem g_js {t : TE} {ts : List TE} {acc : Str} {σ : L2.St} {H : Hp} {Q : Str → Hp → Prop} (q : t σ H fun x H1 => ∃ y : Str, x = .str y ∧ (acc ++ y).length ≤ sizeLine ∧ tJs ts (acc ++ y) σ H1 Q) : tJs (t :: ts) acc σ H Q := q
theorem g_fmt {te : TE} {σ : L2.St} {H : Hp} {Q : VK} (q : te σ H fun x H1 => (∃ y : Str, x = .str y ∧ y.length ≤ sizeLine ∧ Q (.str y) H1) ∨ ∃ i : Int, x = .int i ∧ i.natAbs.log2 < 1920 ∧ Q (.str (toString i)) H1) : tFmt te σ H Q := q
theorem append_empty (a : Str) : a ++ Str.ofString "" = a := Str.ext' (by simp [Str.cps_append, show (Str.ofString "").cps = #[] from rfl])
theorem join_cons (h : Str) (t : List Str) : Txt.join (Str.ofString "") (h :: t) = h ++ Txt.join (Str.ofString "") t := by
  rw [TL.join_eq, TL.join_eq]
  cases t with
  | nil =>
    show h = h ++ Str.empty
    exact (append_empty h).symm
  | cons x t =>
    show h ++ Str.ofString "" ++ Str.join (Str.ofString "") (x :: t) = _
    rw [append_empty]
end Pf

namespace Pf
open PySem PySem.Spec PyProof.Rows L2
/-! ### within an except suite: xs.count(y), a comprehension over a list -/
section
variable {X : Cx}
theorem cnt_of {y : V} {uy : Value} (fy : flatV y = true) : ∀ {ys : List V} {us : List Value}, Vals ys us → ys.all flatV = true → us.countP (eqU y) = ys.countP (fun z => eqV z y)
  | [], us, rv, _ => by
    cases rv
    rfl
  | z :: ys, us, rv, f => by
    cases rv with
    | cons r rt =>
      rw [List.all_cons, Bool.and_eq_true] at f
      rw [List.countP_cons, List.countP_cons, cnt_of (uy := uy) fy rt f.2, eqU_of r f.1]
def rCntF (K : PySem.W.Frag) : V → List V → Hp → VK → Prop := fun x xs H Q => ∃ (a : Addr) (ys : List V) (y : V), x = V.ref a ∧ xs = [y] ∧ SqL K H a ys ∧ flatV y = true ∧ ys.all flatV = true ∧ Q (.int ((ys.countP fun z => eqV z y : Nat) : Int)) H
theorem mt_lcountF : MtR X "list.count" (rCntF X.K) := by
  intro pins s σ H x xs v us Q I rx rxs h
  obtain ⟨a, ys, y, rfl, rfl, hs, fy, fys, q⟩ := h
  cases rx
  cases rxs with
  | cons ry rt =>
    rename_i uy ut
    cases rt
    obtain ⟨its, rv, ⟨⟨cls, dd, data, sl⟩, n, ho, hc, hdn, hd⟩, hlen⟩ := I.list hs
    simp only at hc hd
    subst hc hd
    refine call_meets PySem.F.slot_list_count ⟨_, ho, rfl⟩ PySem.F.entry_list_count (PySem.F.args_list_count_2 _ _)
      (SeqAt.list_countAt a its.toArray n dd sl uy (eqU y)) ⟨ho, fun u' hu' => mem_eqAt ry fy rv fys u' (by simpa using hu'), ?_⟩
    refine ⟨.int ((ys.countP fun z => eqV z y : Nat) : Int), H, I.tok _, ⟨s.toks, ?_⟩, q⟩
    show Value.int ((its.countP (eqU y) : Nat) : Int) s.toks = _
    rw [cnt_of (uy := uy) fy rv fys]
end
section
variable {prog : Program} {w : World} {A : Around} {E : Value → Shared → Prop} {s : Shared}
theorem pyNext_list_end_hot {it l x1 : Addr} {i : Nat} {items : Array Value} {Q : Option Value → Shared → Prop} (hot : HotX.HotAt A x1 s.heap) (hit : s.heap.IsListIter it l i) (hl : s.heap.IsList l items) (hx : items[i]? = none) (hne : x1 ≠ it)
    (hQ : ∀ h', (∀ b o, b ≠ it → s.heap.get? b = some o → h'.get? b = some o) → Q none { s with heap := h' }) : wpAny (model prog w) A (pyNext (.ref it)) Q E s := by
  obtain ⟨hh, o1, vs1, h1, d1, c1⟩ := hot
  obtain ⟨o, ho, hc, hd⟩ := id hit
  obtain ⟨ol, hol, _, nl, hdl⟩ := hl
  unfold pyNext
  refine wpAny_bind (wpAny_attempt (wpAny_callSpecial?_slot (name := Str.ofString "__next__") hit.typeIs slot_listiter_next
    (wpAny_call_entry slot_listiter_next hit.typeIs entry_listiter_next ?_ (args_listiter_next _))))
  show wpAny _ _ (field (.ref it) 0 >>= _) _ _ s
  refine wpAny_bind (wpAny_field ho hd (x := .ref l) rfl ?_)
  show wpAny _ _ (if (Value.ref l == Value.none) = true then _ else _) _ _ s
  rw [if_neg (show ¬ ((Value.ref l == Value.none) = true) from Bool.false_ne_true)]
  show wpAny _ _ (field (.ref it) 1 >>= _) _ _ s
  refine wpAny_bind (wpAny_field ho hd (x := .int i 0) rfl ?_)
  show wpAny _ _ (seqItems? (.ref l) >>= _) _ _ s
  refine wpAny_bind (wpAny_seqItems hol hdl ?_)
  simp only [Int.toNat_natCast, hx]
  refine wpAny_bind (wpAny_rule (wpAny_bind (wpAny_setField ho hd (by simp) ?_)))
  show wpAny _ _ (newExc (.type "StopIteration") [] >>= _) _ _ _
  refine wpAny_bind ?_
  simp only [newExc, newTuple]
  refine wpAny_bind (wpAny_newObj_type ?_ (by size_fits))
  refine wpAny_bind (m := firstArgMember _ _) (wpAny_of_eq (a := Value.none) (by first | rfl | (simp only [firstArgMember]; rfl)) ?_)
  refine wpAny_newObj_type ?_ (by size_fits)
  have k1 : ∀ b o, b ≠ it → s.heap.get? b = some o → (s.heap.update it (Obj.mapFields (·.setIfInBounds 0 Value.none))).get? b = some o := fun b o hb e => by
    rw [Heap.get?_update_other _ _ (Ne.symm hb)]
    exact e
  refine HotX.raiseNew_hot ⟨hh, o1, vs1, Heap.get?_push_of_some _ (Heap.get?_push_of_some _ (k1 _ _ hne h1)), d1, c1⟩ (Nat.ne_of_lt (Heap.lt_size (Heap.get?_push_of_some _ (k1 _ _ hne h1)))) (Heap.get?_push_size _ rfl) rfl (by first | (simp; done) | (simp; omega) | (simp only [Array.size_append]; simp; omega)) ?_
  refine wpAny_bind (wpAny_isInstance (T := "StopIteration") (b := true) ⟨_, Heap.get?_update_self _ (Heap.get?_push_size _ rfl) rfl, rfl⟩ isSubtype_stop ?_)
  refine wpAny_pure (hQ _ fun b o hb e => ?_)
  rw [Heap.get?_update_other _ _ (Nat.ne_of_gt (Heap.lt_size (Heap.get?_push_of_some _ (k1 _ _ hb e))))]
  exact Heap.get?_push_of_some _ (Heap.get?_push_of_some _ (k1 _ _ hb e))
end
/-! ### a comprehension over a list, an exception being handled -/
section
variable {X : Cx}
theorem list_itemH {tg : Expr} {a it : Addr} {i : Nat} {pins : List (Addr × Obj)} {s : Shared} {σ : L2.St} {H : Hp} {E : Value → Shared → Prop} (I : Inv X pins σ H s) (hf : FpOk X pins H it) (st : s.heap.IsListIter it a i) (hg : (Itl X.K a).go i H) :
    wpAny (model X.prog X.w) X.A (pyNext (.ref it)) (fun r s1 => ∃ u, r = some u ∧
      wpAny (model X.prog X.w) X.A (letOwnedTupleGo tg (.ref it) u) (fun _ s2 => ∃ x H', Inv X pins σ H' s2 ∧ RelV x u ∧ (Itl X.K a).yld i H x H' ∧ s2.heap.IsListIter it a (i + 1) ∧ H' it = none) E s1) E s := by
  obtain ⟨xs, x, hq, hx⟩ := hg
  obtain ⟨its, rv, p, hz⟩ := I.list hq
  obtain ⟨u, hu, ru⟩ := rv.get hx
  obtain ⟨f0, f1, f2, f3, f4, f5⟩ := hf
  refine wpAny_pyNext_list_item st p.isList (x := u) (by simpa using hu) fun h' st' sb => ?_
  have I1 : Inv X pins σ H { s with heap := h' } := I.turned (t' := s.toks) (fun b o hb e => (sb.2 b hb).trans e) f0 f1 f3 f4 f5
  obtain ⟨o, e, c, d⟩ := id st'
  exact ⟨u, rfl, go_of (s := { s with heap := h' }) e c d (by decide) ⟨x, H, I1, ru, ⟨rfl, fun ys hy => by rw [I.list_inj hy hq]; exact hx⟩, st', f0⟩⟩
theorem list_doneH {a it : Addr} {i : Nat} {p : Addr × Obj} {pins : List (Addr × Obj)} {s : Shared} {σ : L2.St} {H : Hp} {E : Value → Shared → Prop} (hot : L2H.Hot1 X.A p) (hp : p ∈ X.pn ++ pins) (I : Inv X pins σ H s) (hf : FpOk X pins H it) (st : s.heap.IsListIter it a i) (hg : (Itl X.K a).stop i H) :
    wpAny (model X.prog X.w) X.A (pyNext (.ref it)) (fun r s1 => r = none ∧ Inv X pins σ H s1) E s := by
  obtain ⟨xs, hq, hx⟩ := hg
  obtain ⟨its, rv, pl, hz⟩ := I.list hq
  obtain ⟨f0, f1, f2, f3, f4, f5⟩ := hf
  have hl := rv.length
  obtain ⟨hh, v1, e1, c1⟩ := hot
  exact pyNext_list_end_hot ⟨hh, p.2, v1, (I.pin p hp).1, e1, c1⟩ st pl.isList (by simp; omega) (f5 p hp) fun h' eb => ⟨rfl, I.turned (t' := s.toks) (fun b o hb e => eb b o hb e) f0 f1 f3 f4 f5⟩
/-- the block's state bears the handled exception as a pin -/
theorem pin_blk {scope : Scope} {cenv : Env} {fp : List Addr} {p : Addr × Obj} {s3 s4 : Shared} {H3 : Hp} {σ : L2.St} (I : Inv (X.blk s3 H3 scope cenv fp) [] σ H3 s4) (h1 : s4.heap.get? p.1 = some p.2) (h2 : H3 p.1 = none) (h3 : p.1 ≠ cenv.locals) (h4 : p.1 ∉ frs X.stack) (h5 : ∀ v, p.2.data ≠ .cell v) :
    Inv (X.blk s3 H3 scope cenv fp) [p] σ H3 s4 :=
  { ok := I.ok, os := I.os, bare := I.bare, base := I.base, loc := I.loc, cell := I.cell, free := I.free, freeC := I.freeC, hok := I.hok, len := I.len,
    pin := fun q hq => by
      have e : q = p := by simpa using (show q ∈ ([] : List (Addr × Obj)) ++ [p] from hq)
      subst e
      exact ⟨h1, h2, h3, h4, h5⟩ }
theorem lc_hot {pins : List (Addr × Obj)} {s : Shared} {σ : L2.St} {H : Hp} {Q : VK} {elt tg iter : Expr} {ifs : List Expr} {scope : Scope} {own : List (Str × Nat)} {pos pos' : Pos} {tl : TE} {g : TG} {tt : TT} {te : TE} {use : Option (Value → Sem Unit)} {Qf : Value → Shared → Prop}
    (hot : L2H.HotC X) (hN : X.N.Nodup) (I : Inv X pins σ H s) (hl : PE X iter tl) (ok : BlkOk X.N X.env.scope scope own)
    (hg : ∀ (s : Shared) (H : Hp) (C : Addr) (cl : List (Str × Addr)) (fp : List Addr), PG (X.blk s H scope (compEnvC scope cl C X.env) fp) tg g) (ht : ∀ (s : Shared) (H : Hp) (C : Addr) (cl : List (Str × Addr)) (fp : List Addr), PTs (X.blk s H scope (compEnvC scope cl C X.env) fp) ifs tt)
    (he : ∀ (s : Shared) (H : Hp) (C : Addr) (cl : List (Str × Addr)) (fp : List Addr), PE (X.blk s H scope (compEnvC scope cl C X.env) fp) elt te) (hs : ∀ x, foldedSetIterable iter X.env x = pure x)
    (h : tLc (iList X.K tl) g tt te (own.map (·.2)) σ H Q)
    (hR : ∀ D C s' m H', Inv X pins σ H' s' → Q (.ref D) H' → s'.heap.Ns C m → FpOk X pins H' C → compPost (model X.prog X.w) X.A X.xe use Qf (.ref D) C (.ok .next) s') :
    wpAny (model X.prog X.w) X.A (comprehension (.ListComp elt [⟨tg, iter, ifs, 0⟩] scope pos) scope X.env pos' (newList []) false (eval iter X.env) use) Qf X.xe s := by
  obtain ⟨p, hp1, hpX⟩ := hot
  have hfree : ∀ y ∈ scope.names, y.2 = .free → ∃ c, X.env.cells.lookup y.1 = some c := fun y hy e => (ok.free y hy e).elim (fun k => I.ok.has _ (.inl k)) fun k => I.ok.has _ (.inr k)
  refine wpAny_comprehension_free (use := use) rfl hs (closure_ok hfree) ok.kind (fun y hy e => by rw [ok.uniq y hy, e]) (thn (hl.run pins s σ H _ I h) fun xv s1 ⟨xx, H2, I1, r1, q1⟩ => ?_)
  obtain ⟨a, rfl, ⟨xs, hq⟩, q⟩ := q1
  cases r1
  obtain ⟨its, rv, pl, hz⟩ := I1.list hq
  refine wpAny_pyIter_list pl.isList ?_
  generalize hit : s1.heap.objs.size = it
  have I2 : Inv X pins σ H2 { s1 with heap := s1.heap.push { cls := .type "list_iterator", data := .fields #[.ref a, .int 0 0] } } := I1.kept (t' := s1.toks) fun b o e => Heap.get?_push_of_some _ e
  have st2 : ({ s1 with heap := s1.heap.push { cls := .type "list_iterator", data := .fields #[.ref a, .int 0 0] } } : Shared).heap.IsListIter it a 0 := by
    rw [← hit]
    exact ⟨_, Heap.get?_push_size _ rfl, rfl, rfl⟩
  have f2 : FpOk X pins H2 it := by
    rw [← hit]
    exact I1.fpOk (Nat.le_refl _) (I1.hok.fresh (Nat.le_refl _))
  generalize ({ s1 with heap := s1.heap.push { cls := .type "list_iterator", data := .fields #[.ref a, .int 0 0] } } : Shared) = s2 at I2 st2 ⊢
  refine wpAny_newObj_type (newEnv_comp ?_) (by show 0 ≤ sizeLine; decide)
  generalize hD : s2.heap.objs.size = D
  have hDn : H2 D = none := I2.hok.fresh (Nat.le_of_eq hD)
  obtain ⟨W, ⟨m0, w0⟩, turn⟩ := q D hDn
  have hDit : it ≠ D := by
    obtain ⟨o, e, _⟩ := st2
    rw [← hD]
    exact Nat.ne_of_lt (Heap.lt_size e)
  have kD : ∀ b o, s2.heap.get? b = some o → (s2.heap.push { cls := .type "list", data := .seq ([] : List Value).toArray }).get? b = some o := fun b o e => Heap.get?_push_of_some _ e
  have hpD : ∀ b o, s2.heap.get? b = some o → b ≠ D := fun b o e => by
    rw [← hD]
    exact Nat.ne_of_lt (Heap.lt_size e)
  have I3 : Inv X pins σ (upd H2 D (.lst [])) { s2 with heap := s2.heap.push { cls := .type "list", data := .seq ([] : List Value).toArray } } :=
    I2.laid (t' := s2.toks) kD (Nat.le_of_eq hD) ⟨Nat.zero_le _, [], 0, .nil, by rw [← hD]; exact Heap.get?_push_size _ rfl⟩
  have st3 : ({ s2 with heap := s2.heap.push { cls := .type "list", data := .seq ([] : List Value).toArray } } : Shared).heap.IsListIter it a 0 := st2.at fun o e => kD _ _ e
  have f3 : FpOk X pins (upd H2 D (.lst [])) it := ⟨by rw [upd_ne hDit]; exact f2.1, f2.2⟩
  generalize ({ s2 with heap := s2.heap.push { cls := .type "list", data := .seq ([] : List Value).toArray } } : Shared) = s3 at I3 st3 ⊢
  have lt3 : it < s3.heap.objs.size := by
    obtain ⟨o, e, _⟩ := st3
    exact Heap.lt_size e
  have hf3 : ∀ b ∈ [it], FpOk X pins (upd H2 D (.lst [])) b ∧ b < s3.heap.objs.size := fun b hb => by
    have e : b = it := by simpa using hb
    rw [e]
    exact ⟨f3, lt3⟩
  have I4 := block_start I3 ok hN hf3
  have pg := hg s3 (upd H2 D (.lst [])) s3.heap.objs.size (cellsFrom (s3.heap.objs.size + 1) scope.names (cloFrom X.env.cells scope.names [])) [it]
  have pt := ht s3 (upd H2 D (.lst [])) s3.heap.objs.size (cellsFrom (s3.heap.objs.size + 1) scope.names (cloFrom X.env.cells scope.names [])) [it]
  have pe := he s3 (upd H2 D (.lst [])) s3.heap.objs.size (cellsFrom (s3.heap.objs.size + 1) scope.names (cloFrom X.env.cells scope.names [])) [it]
  show codeAny _ _ (.compStart (.ListComp elt [⟨tg, iter, ifs, 0⟩] scope pos) 0 (.ref it) (.ref D) (compEnvC scope (cellsFrom (s3.heap.objs.size + 1) scope.names (cloFrom X.env.cells scope.names [])) s3.heap.objs.size X.env)) (compPost (model X.prog X.w) X.A X.xe use Qf (.ref D) s3.heap.objs.size) { s3 with heap := pushCells (s3.heap.push { cls := .type "dict", data := .dict #[] }) scope.names }
  generalize hce : compEnvC scope (cellsFrom (s3.heap.objs.size + 1) scope.names (cloFrom X.env.cells scope.names [])) s3.heap.objs.size X.env = ce at I4 pg pt pe ⊢
  have cL : ce.locals = s3.heap.objs.size := by rw [← hce]; rfl
  generalize hH3 : upd H2 D (.lst []) = H3 at I3 I4 pg pt pe w0 f3
  have kp : ∀ b o, s3.heap.get? b = some o → (pushCells (s3.heap.push { cls := .type "dict", data := .dict #[] }) scope.names).get? b = some o := fun b o e => pushCells_keeps _ _ _ _ (Heap.get?_push_of_some _ e)
  have st4 : ({ s3 with heap := pushCells (s3.heap.push { cls := .type "dict", data := .dict #[] }) scope.names } : Shared).heap.IsListIter it a 0 := st3.at fun o e => kp _ _ e
  obtain ⟨pin1, pin2, pin3, pin4, pin5⟩ := I3.pin p (List.mem_append_left _ hpX)
  have hpit : p.1 ≠ it := f3.2.2.2.2.2 p (List.mem_append_left _ hpX)
  have I5 : Inv (X.blk s3 H3 scope ce [it]) [p] (wipe σ (own.map (·.2))) H3 { s3 with heap := pushCells (s3.heap.push { cls := .type "dict", data := .dict #[] }) scope.names } :=
    pin_blk I4 (kp _ _ pin1) pin2 (by rw [cL]; exact Nat.ne_of_lt (Heap.lt_size pin1)) (fun z => (List.mem_cons.mp (I3.stkSub _ z)).elim pin3 pin4) pin5
  generalize ({ s3 with heap := pushCells (s3.heap.push { cls := .type "dict", data := .dict #[] }) scope.names } : Shared) = s4 at I5 st4 ⊢
  clear I4
  have stat : ∀ {σ' : L2.St} {H' : Hp} {s' : Shared}, Inv (X.blk s3 H3 scope ce [it]) [p] σ' H' s' → H' it = none → FpOk (X.blk s3 H3 scope ce [it]) [p] H' it := fun {σ' H' s'} I' hn => by
    have hm : it ∈ [it] := List.mem_cons_self
    refine ⟨hn, (I'.ok.exf it hm).1, I'.ok.exfs it hm, .inl hm, fun x c e => (I'.ok.exf it hm).2 x c e, fun r hr => ?_⟩
    have e : r = p := by simpa using (show r ∈ ([] : List (Addr × Obj)) ++ [p] from hr)
    rw [e]
    exact hpit
  have loop : codeAny (model X.prog X.w) X.A (.compLoop (.ListComp elt [⟨tg, iter, ifs, 0⟩] scope pos) 0 (.ref it) (.ref D) ce) (compPost (model X.prog X.w) X.A X.xe use Qf (.ref D) s3.heap.objs.size) s4 := by
    refine compLoop_any (fun n s' => ∃ i H', Inv (X.blk s3 H3 scope ce [it]) [p] (wipe σ (own.map (·.2))) H' s' ∧ s'.heap.IsListIter it a i ∧ H' it = none ∧ W i n H') ?_ m0 ⟨0, H3, I5, st4, f3.1, w0⟩
    rintro n s5 ⟨i, H5, I6, st5, n5, w5⟩
    rcases turn i n H5 w5 with ⟨stop, qq⟩ | ⟨go, Nx, hNx, step⟩
    · refine thnF (list_doneH (X := X.blk s3 H3 scope ce [it]) (E := fun _ _ => False) hp1 (List.mem_append_right _ List.mem_cons_self) I6 (stat I6 n5) st5 stop) fun r s6 ⟨hr, I7⟩ => ?_
      subst hr
      have I8 : Inv X pins σ H5 s6 := I3.call' (ch := [it]) I7.os I7.base I7.hok I7.bare fun b hb => by
        have e : b = it := by simpa using hb
        rw [e]
        exact ⟨f3.2.2.2.1, f3.2.1, f3.2.2.2.2.1, f3.2.2.2.2.2⟩
      have nC : H5 s3.heap.objs.size = none := by
        have z : H5 ce.locals = none := I7.free
        rw [cL] at z
        exact z
      obtain ⟨m, hn, _⟩ := I7.loc
      have hn : s6.heap.Ns ce.locals m := hn
      rw [cL] at hn
      exact hR D s3.heap.objs.size s6 m H5 I8 qq hn (I3.fpOk (Nat.le_refl _) nC)
    · refine thnF (list_itemH (X := X.blk s3 H3 scope ce [it]) (tg := tg) (E := fun _ _ => False) I6 (stat I6 n5) st5 go) fun r s6 ⟨u, hr, h6⟩ => ?_
      subst hr
      refine thnF h6 fun _ s7 ⟨x, H7, I7, r7, y7, st7, n7⟩ => ?_
      have hob : ∀ b ∈ [it], ∃ o, s7.heap.get? b = some o ∧ ∀ v, o.data ≠ .cell v := fun b hb => by
        have e : b = it := by simpa using hb
        rw [e]
        obtain ⟨o, e1, _, d1⟩ := id st7
        exact ⟨o, e1, fun v z => by rw [d1] at z; cases z⟩
      have I7' := I7.pinned (fp := [it]) (fun b hb => by
        have e : b = it := by simpa using hb
        rw [e]
        exact stat I7 n7) hob
      refine thnF (pg.run _ s7 _ H7 x u _ I7' r7 (step x H7 y7)) fun _ s8 ⟨σ8, H8, I8, hw8, q8⟩ => ?_
      refine thnF (pt.run _ s8 σ8 H8 _ I8 q8) fun b s9 ⟨H9, I9, q9⟩ => ?_
      have fin : ∀ {s' : Shared} {H' : Hp}, Inv (X.blk s3 H3 scope ce [it]) ([p] ++ pinsAt [it] s7.heap) σ8 H' s' → Nx H' → ∃ m, m < n ∧ ∃ i H', Inv (X.blk s3 H3 scope ce [it]) [p] (wipe σ (own.map (·.2))) H' s' ∧ s'.heap.IsListIter it a i ∧ H' it = none ∧ W i m H' := fun {s' H'} I' nx => by
        obtain ⟨m', hm, w'⟩ := hNx H' nx
        obtain ⟨o, e1, _⟩ := id st7
        have pp := I'.pin (it, o) (List.mem_append_right _ (List.mem_append_right _ (mem_pinsAt List.mem_cons_self e1)))
        have hl : (wipe σ (own.map (·.2))).length = σ8.length := by rw [← hw8, wipe_length]
        refine ⟨m', hm, i + 1, H', (I'.unpinned (pins := [p])).weak hl (fun j v e => ?_), st7.at fun o' e' => ?_, pp.2.1, w'⟩
        · rw [← hw8] at e
          exact (wipe_some e).1
        · rw [e1] at e'
          cases e'
          exact pp.1
      cases b with
      | false =>
        simp only [Bool.false_eq_true, if_false] at q9 ⊢
        exact fin I9 q9
      | true =>
        simp only [if_true] at q9 ⊢
        refine thnF (pe.run _ s9 σ8 H9 _ I9 q9) fun z s10 ⟨yv, H10, I10, r10, acc, hD10, hz10, nx⟩ => ?_
        exact app_ok (X := X.blk s3 H3 scope ce [it]) I10 hD10 hz10 r10 fun s11 I11 => fin I11 nx
  exact codeAny_compStart_list loop (wpAny_pyIter_listiter st4 loop)
theorem pe_lcH {elt tg iter : Expr} {ifs : List Expr} {scope : Scope} {own : List (Str × Nat)} {pos : Pos} {tl : TE} {g : TG} {tt : TT} {te : TE} (hot : L2H.HotC X) (hN : X.N.Nodup) (hl : PE X iter tl) (ok : BlkOk X.N X.env.scope scope own)
    (hg : ∀ (s : Shared) (H : Hp) (C : Addr) (cl : List (Str × Addr)) (fp : List Addr), PG (X.blk s H scope (compEnvC scope cl C X.env) fp) tg g) (ht : ∀ (s : Shared) (H : Hp) (C : Addr) (cl : List (Str × Addr)) (fp : List Addr), PTs (X.blk s H scope (compEnvC scope cl C X.env) fp) ifs tt)
    (he : ∀ (s : Shared) (H : Hp) (C : Addr) (cl : List (Str × Addr)) (fp : List Addr), PE (X.blk s H scope (compEnvC scope cl C X.env) fp) elt te) (hs : ∀ x, foldedSetIterable iter X.env x = pure x := by intro _; rfl) :
    PE X (.ListComp elt [⟨tg, iter, ifs, 0⟩] scope pos) (tLc (iList X.K tl) g tt te (own.map (·.2))) := by
  refine ⟨fun pins s σ H Q I h => ?_⟩
  rw [eval_ListComp]
  refine lc_hot hot hN I hl ok hg ht he hs h fun D C s' m H' I' q hn f => ⟨m, hn, fun h'' sb => ?_⟩
  obtain ⟨f0, f1, f2, f3, f4, f5⟩ := f
  exact ⟨.ref D, H', I'.turned (t' := s'.toks) (fun b o hb e => (sb.2 b hb).trans e) f0 f1 f3 f4 f5, rfl, q⟩
theorem kpLcH {K : PySem.W.Frag} {elt tg iter : Expr} {ifs : List Expr} {scope : Scope} {own : List (Str × Nat)} {pos : Pos} {tl : TE} {g : TG} {tt : TT} {te : TE} (h : X.K = K) (hot : L2H.HotC X) (hN : X.N.Nodup) (hl : PE X iter tl) (ok : BlkOk X.N X.env.scope scope own)
    (hg : ∀ (s : Shared) (H : Hp) (C : Addr) (cl : List (Str × Addr)) (fp : List Addr), PG (X.blk s H scope (compEnvC scope cl C X.env) fp) tg g) (ht : ∀ (s : Shared) (H : Hp) (C : Addr) (cl : List (Str × Addr)) (fp : List Addr), PTs (X.blk s H scope (compEnvC scope cl C X.env) fp) ifs tt)
    (he : ∀ (s : Shared) (H : Hp) (C : Addr) (cl : List (Str × Addr)) (fp : List Addr), PE (X.blk s H scope (compEnvC scope cl C X.env) fp) elt te) (hs : ∀ x, foldedSetIterable iter X.env x = pure x := by intro _; rfl) :
    PE X (.ListComp elt [⟨tg, iter, ifs, 0⟩] scope pos) (tLc (iList K tl) g tt te (own.map (·.2))) := h ▸ pe_lcH hot hN hl ok hg ht he hs
theorem kMtIndex {X : Cx} (K : PySem.W.Frag) (h : X.K = K) : MtR X "list.index" (rIndex K) := h ▸ mt_index
theorem kMtCount {X : Cx} (K : PySem.W.Frag) (h : X.K = K) : MtR X "list.count" (rCntF K) := h ▸ mt_lcountF
theorem kpBm {X : Cx} (K : PySem.W.Frag) (h : X.K = K) {o e : Expr} {es : List Expr} {to : TE} {t : TA} {T id : String} {name : Str} {r : V → List V → Hp → VK → Prop} {apos cpos : Pos} (pa : PlainAttrs T) (slot : Slot T name id) (hty : typeOf (.builtin id) = pure (.type "method_descriptor")) (hm : MtR X id r) (ho : PE X o to) (ha : PA X (e :: es) t)
    (hbase : attributeBase o name X.env (eval o X.env) = eval o X.env := by rfl)
    (hfew : ((backTo cpos (starEach (e :: es) X.env)).all (fun x => !x.1) && (backToKw cpos (keywordEach [] X.env)).all (fun x => x.1.isSome)
      && decide ((e :: es).length + ([] : List Keyword).length + (if ([] : List Keyword).isEmpty then 0 else 1) < 30)) = true := by rfl)
    (hline : (apos.endLine == cpos.line) = true := by rfl) (hs : starEach (e :: es) X.env = (false, eval e X.env) :: starEach es X.env := by rfl) (hplain : (backTo cpos (starEach es X.env)).any (·.1) = false := by rfl) :
    PE X (.Call (.Attribute o name apos) (e :: es) [] cpos) (tBM K T r to t) := h ▸ pe_bm pa slot hty hm ho ha hbase hfew hline hs hplain
/-- the suite of a try bears the exception that was caught -/
theorem hotSuite {X : Cx} {a : Addr} {oe : Obj} {cls : Value} {d : Option Addr} {pn : List (Addr × Obj)} (hz : L2N.Zn cls d oe) (hf : ∃ vs, oe.data = .fields vs) : L2H.HotC (X.suite a ((a, oe) :: pn)) := by
  obtain ⟨vs, e⟩ := hf
  exact ⟨(a, oe), ⟨rfl, vs, e, hz.2.2 vs e⟩, List.mem_cons_self⟩
end
/-! ### own errors, their context told: that none stands there -/
section
variable {X : Cx} {o e : Expr} {es : List Expr} {ta : TA} {x : Str} {S : Addr} {p p1 p2 pos : Pos}
/-- the end of C(): the exception is let go -/
theorem mk_endZN {pins : List (Addr × Obj)} {σ : L2.St} {H1 H2 : Hp} {Q : XK} {hp hp2 h2 : Heap} {g1 g2 : Array GenState} {d1 d2 : Drawn} {t1 t2 : Nat} {os1 os2 : OsState} {a C : Addr} (T : Raises X (.ref C)) (I1 : Inv X pins σ H1 ⟨hp, g1, d1, t1, os1⟩)
    (ha : hp.objs.size ≤ a) (k : ∀ b o, hp.get? b = some o → hp2.get? b = some o) (un : Un (frs X.stack) [] (upd H1 a (exo a C none)) H2 hp2 h2) (hok : HOk X.prog X.w H2 h2) (ho : os2 = os1) (hb : AllBare g2)
    (ea : H2 a = some (exo a C none)) (q : Q (.ref C) none (del H2 a)) : L2N.MkP X pins σ Q (.ref a) ⟨h2, g2, d2, t2, os2⟩ := by
  obtain ⟨t0, hoe⟩ := exo_at hok ea
  have hn : H1 a = none := I1.hok.fresh ha
  obtain ⟨G, g1', g2'⟩ := restrict h2 fun b => decide (b ≠ a)
  have gk : ∀ b, b ≠ a → G.get? b = h2.get? b := fun b hb => g1' b (decide_eq_true hb)
  have ge : G.get? a = none := g2' a (by simp)
  have nha : ∀ {b : Addr} {o : Obj}, hp.get? b = some o → b ≠ a := fun {b o} z => Nat.ne_of_lt (Nat.lt_of_lt_of_le (Heap.lt_size z) ha)
  have up : ∀ {b : Addr}, b ≠ a → H1 b = none → upd H1 a (exo a C none) b = none := fun {b} hb n => by rw [upd_ne hb]; exact n
  have U : Un (frs X.stack) [] H1 (del H2 a) hp G := {
    keep := fun b o z n hf hx => by
      rw [gk b (nha z)]
      exact un.keep b o (k b o z) (up (nha z) n) hf hx
    slot := fun b o z n hf hx => by
      rw [gk b (nha z)]
      exact un.slot b o (k b o z) (up (nha z) n) hf hx
    free := fun b o z n hx => by
      rw [del_ne (nha z)]
      exact un.free b o (k b o z) (up (nha z) n) hx
    there := fun b o z hx => by
      rw [gk b (nha z)]
      exact un.there b o (k b o z) hx
    tups := fun b xs z => by
      rw [del_ne (ne_of_none z hn)]
      exact un.tups b xs (by rw [upd_ne (ne_of_none z hn)]; exact z)
    frzs := fun b o v z => by
      rw [del_ne (ne_of_none z hn)]
      exact un.frzs b o v (by rw [upd_ne (ne_of_none z hn)]; exact z)
    tbls := fun b ps z => by
      rw [del_ne (ne_of_none z hn)]
      exact un.tbls b ps (by rw [upd_ne (ne_of_none z hn)]; exact z) }
  have hok3 : HOk X.prog X.w (del H2 a) G := fun b o z => by
    have hba : b ≠ a := fun e => by
      rw [e, del_same] at z
      cases z
    rw [del_ne hba] at z
    have noa : ∀ {c : Addr}, H2 c = some (.own b) → c ≠ a := fun {c} hc => at_ne ea hc exo_own
    exact (hok b o z).stay (fun c v hc y => by
        have hca : c ≠ a := by
          rcases hc with hc | hc
          · rw [hc]
            exact hba
          · exact noa hc
        rw [gk c hca]
        exact y)
      (fun c hc => by rw [del_ne (noa hc)]; exact hc) (fun c xs hc => by rw [del_ne (at_ne ea hc exo_tup)]; exact hc)
  have J : Inv X pins σ (del H2 a) ⟨G, g2, d2, t2, os2⟩ := I1.call' (ch := []) ho U hok3 hb (fun b z => absurd z (by simp))
  refine ⟨a, _, _, ⟨G, g2, d2, t2, os2⟩, _, .ref C, none, rfl, J, fun b o z => ?_, ge, hoe, ⟨rfl, rfl, fun vs e => by cases e; rfl⟩, rfl, rfl, del_same, rfl, hb, T, q⟩
  by_cases hba : b = a
  · rw [hba, ge] at z
    cases z
  · exact (gk b hba).symm.trans z
theorem pmk_zN {CX : CXT} {C fI : Addr} {k : Nat} {fd : FuncData} {ps : List Str} {sp : Sp} (T : OexC X.K C) (iC : PySem.W.findIn X.K (.ref C) "__init__" = some (some (.ref fI))) (tI : PySem.W.typeIn X.K (.ref fI) = some (.type "function"))
    (F1 : FnOk X.prog X.w X.K X.mg X.base CX k fI fd ps sp) (hr : Room (k + 1) X.A) (hb : Binds X.K fd ps []) (hx : Passes CX X (fun _ _ _ => False)) (hg : Gl X x) (hm : X.mg x = some (.ref C))
    (hdb : (x == ("__debug__" : Str)) = false := by decide) :
    L2N.PMk X (.Call (.Name x p) [] [] pos) (tMkZ C sp) := by
  intro pins s σ H Q I h
  obtain ⟨nm, q, N, bs, bm, sn, sub, ab, col, dd, k0, k1, k2, k3, k5, hC, hbm⟩ := T.cls
  refine wpAny_Call_Name_kw (ld_glob I hg hm ?_ hdb)
  refine PySem.W.callWith_K0 I.kIn T.kC ?_
  show wpAny _ _ (call (.ref C) []) _ _ _
  obtain ⟨hp, g, dr, tk, os⟩ := s
  have hsz : hp.objs.size ≤ hp.objs.size + 1 := Nat.le_succ _
  have hn : H (hp.objs.size + 1) = none := I.hok.fresh hsz
  have hq := h (hp.objs.size + 1) hn
  have kk : ∀ b o, hp.get? b = some o → ((hp.push (PySem.W.kdv_tup [])).push (PySem.HandSPX.excO C hp.objs.size)).get? b = some o := fun b o e => Heap.get?_push_of_some _ (Heap.get?_push_of_some _ e)
  have hget : ((hp.push (PySem.W.kdv_tup [])).push (PySem.HandSPX.excO C hp.objs.size)).get? (hp.objs.size + 1) = some (PySem.HandSPX.excO C hp.objs.size) := by heap_get
  have I2 : Inv X pins σ (upd H (hp.objs.size + 1) (exo (hp.objs.size + 1) C none)) ⟨(hp.push (PySem.W.kdv_tup [])).push (PySem.HandSPX.excO C hp.objs.size), g, dr, tk, os⟩ :=
    I.laid (t' := tk) (a := hp.objs.size + 1) (o := exo (hp.objs.size + 1) C none) (h' := (hp.push (PySem.W.kdv_tup [])).push (PySem.HandSPX.excO C hp.objs.size)) kk hsz (exo_ok hget)
  have r2 : Vals [V.ref (hp.objs.size + 1)] [Value.ref (hp.objs.size + 1)] := .cons rfl .nil
  have hl : (Value.ref (hp.objs.size + 1) :: ([] : List Value) ++ []).length = ps.length := by
    have e := r2.length
    rw [F1.len _ _ _ _ hq] at e
    exact e.symm
  refine wpAny_call (PySem.HandSPX.call_own F.excBase_ValueError (fun Y => PySem.HandSPX.refsVE_contains Y bm hbm) (I.kIn _ _ hC) (PySem.W.looks_findIn I.kIn iC) (fun self => PySem.W.bind_fn I.kIn self tI) (by rw [sizeLine_eq]; decide)
    (codeAny_mono (F1.run _ X.stack _ _ ⟨[Value.ref (hp.objs.size + 1)], []⟩ [Value.ref (hp.objs.size + 1)] _ _ (fun _ _ _ => False) (hr.make C [] []) (I2.env0.make C [] []) (hb _ [Value.ref (hp.objs.size + 1)] I2.kIn hl) r2 hq) fun r s' hq' => ?_))
  cases r with
  | error er => exact hx pins σ _ _ er s' I2 hq'
  | ok fl =>
    cases fl with
    | ret u =>
      obtain ⟨v, H2, os2, bare2, un2, hok2, rv, ev, ea, q2⟩ := hq'
      subst ev
      obtain ⟨h2, g2, d2, t2, os'⟩ := s'
      exact ⟨rv, mk_endZN (raises_own T.exC T.tyC) I hsz kk un2 hok2 os2 bare2 ea q2⟩
    | next => exact False.elim hq'
    | brk => exact False.elim hq'
    | cont => exact False.elim hq'
end
theorem takesN0 {X : Cx} : L2N.Takes X (fun _ _ _ _ => False) := fun _ _ x => by
  obtain ⟨_, _, _, _, _, _, _, _, _, _, _, _, _, _, _, _, z⟩ := x
  exact z.elim
theorem passLN {X : Cx} : Passes (L2N.CX X.prog X.w) X E0 := fun _ _ _ _ _ _ _ h => by
  obtain ⟨_, _, _, _, _, _, _, _, _, _, _, _, z⟩ := h
  exact z.elim
section
variable {P : Program} {w : World} {K : PySem.W.Frag} {mg : Str → Option Value} {base : Heap} {CX : CXT} {k : Nat} {f : Addr} {fd : FuncData} {ps : List Str} {sp sp1 sp2 : Sp}
theorem okXN {x qual : Str} {st : Stmt} {N : List Str} (F : Fun K x qual st f fd) (S : FnScope N ps (defScope st)) (len : ∀ vs H Q E, sp vs H Q E → vs.length = ps.length)
    (hbody : ∀ (cdv : Value) (A : Around) (outer : List Env) (s : Shared) (H : Hp) (vs : List V) (Q : VK) (E : XK), Room k (A.deeper (envOfC qual (defScope st) s.heap.objs.size f cdv)) → sp vs H Q E →
      ∃ t, PSs (cxOf (L2N.CX P w) P w K mg base N qual (defScope st) f cdv A outer s H E) (defBody st) t ∧ t { nx := fun _ H' => Q .non H', rt := Q } (L2.start N vs) H) : FnOk P w K mg base (L2N.CX P w) (k + 1) f fd ps sp := by
  obtain ⟨oc, od, kV, doc, pm, an, cdv, ct, osl, rfl, lk, hcd⟩ := F.ex
  exact fn_of lk hcd S len fun A outer s H vs Q E hr hsp => hbody cdv A outer s H vs Q E hr hsp
/-- what never raises is there among what may -/
theorem FnLift (F : FnOk P w K mg base CX0 k f fd ps sp) : FnOk P w K mg base CX k f fd ps sp :=
  ⟨F.len, fun A outer s H args us vs Q E r e b v h => codeAny_mono (F.run A outer s H args us vs Q E r e b v h) fun rr s' hh => by
    cases rr with
    | error e => exact False.elim hh
    | ok fl => cases fl <;> exact hh⟩
theorem FnOr (F : FnOk P w K mg base CX k f fd ps sp1) (G : FnOk P w K mg base CX k f fd ps sp2) : FnOk P w K mg base CX k f fd ps (fun vs H Q E => sp1 vs H Q E ∨ sp2 vs H Q E) :=
  ⟨fun vs H Q E h => h.elim (F.len vs H Q E) (G.len vs H Q E), fun A outer s H args us vs Q E r e b v h => h.elim (F.run A outer s H args us vs Q E r e b v) (G.run A outer s H args us vs Q E r e b v)⟩
end
theorem g_callN {sp : Sp} {W : WX} {t : TA} {σ : L2.St} {H : Hp} {Q : VK} (q : t σ H fun vs H1 => sp vs H1 Q (fun cls d H => W cls d σ H)) : tCallS sp (WE W) t σ H Q := q
/-- of two unlike own classes none above the other -/
theorem kit_two {K : PySem.W.Frag} {C D : Addr} (h1 : PySem.W.subIn K (.ref C) (.ref D) = some false) (h2 : PySem.W.subIn K (.ref C) (.ref C) = some true) (h3 : PySem.W.subIn K (.ref D) (.ref D) = some true) (h4 : PySem.W.typeIn K (.ref D) = some (.type "type")) :
    PySem.W.kitOne K (.ref C) (.ref D) = some false := by
  have hne : C ≠ D := fun e => by
    rw [e, h3] at h1
    cases h1
  unfold PySem.W.kitOne PySem.W.kitCls
  rw [if_neg (by intro z; exact hne (by cases (beq_iff_eq.mp z); rfl))]
  have h5 : (PySem.W.clsIn K D).isSome = true := by
    have h3' : PySem.W.mroIn K D (.ref D) = some true := h3
    unfold PySem.W.mroIn at h3'
    cases e : PySem.W.clsIn K D with
    | none => rw [e] at h3'; cases h3'
    | some c => rfl
  show (if ((PySem.W.clsIn K D).isSome && PySem.W.typeIn K (.ref D) == some (.type "type")) = true then PySem.W.subIn K (.ref C) (.ref D) else none) = some false
  rw [h5, h4, if_pos (by first | rfl | decide | simp)]
  exact h1
end Pf

/-! ### x == y, y of an own class with its own ==, x of a kind that the text did not make -/
namespace Pf
open PySem PySem.Spec PySem.Calls PyProof.Rows PySem.W PySem.SeqAt
open AutoSeq1 (wpAny_loadPart')
section
variable {l C dx : Addr}
theorem int_decl (b : Int) (u : Tok) : Meets (Builtin.«int.__eq__» ⟨[.int b u, .ref l], []⟩) (fun _ R s => s.heap.get? l = some (instObj C dx) ∧ R (.ok (.ret .notImplemented)) s) :=
  .of_wp fun prog w A R s h => by obtain ⟨hp, g, d, tk, os⟩ := s; obtain ⟨hl, h⟩ := h; wp_walk using wpAny_loadPart' hl, wpAny_load hl; exact ⟨_, rfl, h⟩
theorem bool_decl (b : Bool) : Meets (Builtin.«int.__eq__» ⟨[.bool b, .ref l], []⟩) (fun _ R s => s.heap.get? l = some (instObj C dx) ∧ R (.ok (.ret .notImplemented)) s) :=
  .of_wp fun prog w A R s h => by obtain ⟨hp, g, d, tk, os⟩ := s; obtain ⟨hl, h⟩ := h; wp_walk using wpAny_loadPart' hl, wpAny_load hl; exact ⟨_, rfl, h⟩
theorem str_decl (b : Str) (u : Tok) : Meets (Builtin.«str.__eq__» ⟨[.str b u, .ref l], []⟩) (fun _ R s => s.heap.get? l = some (instObj C dx) ∧ R (.ok (.ret .notImplemented)) s) :=
  .of_wp fun prog w A R s h => by obtain ⟨hp, g, d, tk, os⟩ := s; obtain ⟨hl, h⟩ := h; wp_walk using wpAny_loadPart' hl, wpAny_load hl; exact ⟨_, rfl, h⟩
end
section
variable {x y : Addr}
theorem list_decl : Meets (Builtin.«list.__eq__» ⟨[.ref y, .ref x], []⟩) (fun _ R s => (∀ (prog : Program) (w : World), Looks (model prog w) s.heap (isInstance (.ref x) (.type "list")) false) ∧ R (.ok (.ret .notImplemented)) s) :=
  .of_wp fun prog w A R s h => by obtain ⟨hp, g, d, tk, os⟩ := s; obtain ⟨hl, h⟩ := h; have hl := hl prog w; wp_walk using hl.here; exact ⟨_, rfl, h⟩
theorem tup_decl : Meets (Builtin.«tuple.__eq__» ⟨[.ref y, .ref x], []⟩) (fun _ R s => (∀ (prog : Program) (w : World), Looks (model prog w) s.heap (isInstance (.ref x) (.type "tuple")) false) ∧ R (.ok (.ret .notImplemented)) s) :=
  .of_wp fun prog w A R s h => by obtain ⟨hp, g, d, tk, os⟩ := s; obtain ⟨hl, h⟩ := h; have hl := hl prog w; wp_walk using hl.here; exact ⟨_, rfl, h⟩
theorem dict_decl : Meets (Builtin.«dict.__eq__» ⟨[.ref y, .ref x], []⟩) (fun _ R s => (∀ (prog : Program) (w : World), Looks (model prog w) s.heap (isInstance (.ref x) (.type "dict")) false) ∧ R (.ok (.ret .notImplemented)) s) :=
  .of_wp fun prog w A R s h => by obtain ⟨hp, g, d, tk, os⟩ := s; obtain ⟨hl, h⟩ := h; have hl := hl prog w; wp_walk using hl.here; exact ⟨_, rfl, h⟩
end
section
variable {prog : Program} {w : World} {A : Around} {E : Value → Shared → Prop} {s : Shared} {K : Frag} {x C f : Addr} {ox : Obj} {od : Option Obj} {a : Value} {Ta id : String}
theorem rc_refl (hu : A.units < cLine) (X : K.In s.heap) (I : InstAt s.heap x ox C od) (ha : s.TypeIs a Ta) (h0 : mroIn K C (.type Ta) = some false) (sl : Slot Ta (cmpInfo .Eq).2.1 id)
    (hc : ∀ Q' : Value → Shared → Prop, Q' .notImplemented s → wpAny (model prog w) A (call (.builtin id) [a, .ref x]) Q' E s)
    (hs : findIn K (.ref C) "__eq__" = some (some (.ref f))) (hf : isFn K (.ref f) = true) {Q : Value → Shared → Prop}
    (h : wpAny (model prog w) A (call (.ref f) [.ref x, a]) (PySem.W.CmpBack Q) E s) : wpAny (model prog w) A (richCompare .Eq a (.ref x)) Q E s := by
  have one : wpAny (model prog w) A (tryCompare (.ref x) "__eq__" a) (fun r s' => ∃ v, r = some v ∧ Q v s') E s := by
    unfold tryCompare
    refine wpAny_bind (ifBound_K X I hs hf (wpAny_mono h (fun v s' hv => ?_) fun _ _ e => e))
    cases v <;> first | exact hv.elim | exact wpAny_pure ⟨_, rfl, hv⟩
  simp only [richCompare, cmpInfo, ha.oneThing_none] at sl ⊢
  refine wpAny_holding (wpAny_bind (wpAny_cRoomFor hu ?_))
  refine wpAny_bind (wpAny_typeOf ha (wpAny_bind (I.type.here ?_)))
  rw [if_pos (show (Value.type Ta != Value.ref C) = true from by simp)]
  refine wpAny_bind ((looks_mroIn X h0).here ?_)
  simp only [Bool.false_eq_true, if_false, Bool.not_false, if_true]
  refine wpAny_bind (m := tryCompare a _ (.ref x)) (wpAny_tryCompare_declines ha sl (hc _ ⟨rfl, ?_⟩))
  refine wpAny_bind (wpAny_mono one (fun r s' z => ?_) fun _ _ e => e)
  obtain ⟨v, rfl, hq⟩ := z
  exact wpAny_pure hq
end
end Pf
namespace Pf
open PySem PySem.Spec PyProof.Rows L2
/-- a class above which no such kind stands -/
structure DecC (K : PySem.W.Frag) (C : Addr) : Prop where
  no : PySem.W.mroIn K C (.type "NoneType") = some false
  it : PySem.W.mroIn K C (.type "int") = some false
  bo : PySem.W.mroIn K C (.type "bool") = some false
  st : PySem.W.mroIn K C (.type "str") = some false
  li : PySem.W.mroIn K C (.type "list") = some false
  tu : PySem.W.mroIn K C (.type "tuple") = some false
  di : PySem.W.mroIn K C (.type "dict") = some false
/-- of such a kind -/
inductive DecK (K : PySem.W.Frag) (H : Hp) : V → Prop
  | non : DecK K H .non
  | int (i : Int) : DecK K H (.int i)
  | bl (b : Bool) : DecK K H (.bl b)
  | str (s : Str) : DecK K H (.str s)
  | lst {p : Addr} {xs : List V} (h : SqL K H p xs) : DecK K H (.ref p)
  | tup {p : Addr} {xs : List V} (h : SqT K H p xs) : DecK K H (.ref p)
  | dct {p : Addr} {kvs : List (Key × V)} (h : H p = some (.dK kvs)) : DecK K H (.ref p)
def rReflI (K : PySem.W.Frag) (C : Addr) (sp : Sp) : R2 := fun x y H Q => ∃ (a dx : Addr) (fs : List (Str × V)), y = .ref a ∧ H a = some (.ins C dx fs) ∧ DecK K H x ∧ sp [y, x] H (fun v H' => ∃ b, v = .bl b ∧ Q (.bl b) H') E0
section
variable {X : Cx} {CX : CXT} {C f : Addr} {fd : FuncData} {ps : List Str} {sp : Sp} {n : Nat}
theorem op_eqR (F : FnOk X.prog X.w X.K X.mg X.base CX n f fd ps sp) (T : EqC X.K C f) (D : DecC X.K C) (hb : Binds X.K fd ps []) (hx : Passes CX X E0) (hr : Room n X.A) : OpR X (compareOp .Eq) (rReflI X.K C sp) := by
  intro pins s σ H x y u v Q I rx ry hq
  obtain ⟨a, dx, fs, rfl, ha, hk, hsp⟩ := hq
  cases ry
  obtain ⟨mA, J, _⟩ := ins_get I.hok ha
  have hI := J.obj
  obtain ⟨od, J, _⟩ := J.look
  have fin : wpAny (model X.prog X.w) X.A (call (.ref f) [.ref a, u]) (PySem.W.CmpBack (EP X pins σ Q)) X.xe s := by
    have r2 : Vals [V.ref a, x] [Value.ref a, u] := .cons rfl (.cons rx .nil)
    have hl := F.len _ _ _ _ hsp
    have b2 := hb s [.ref a, u] I.kIn (by simpa using hl)
    rw [List.append_nil] at b2
    refine wpAny_call (codeAny_mono (F.run X.A X.stack s H ⟨[.ref a, u], []⟩ [.ref a, u] [.ref a, x] _ E0 hr I.env0 b2 r2 hsp) fun r s' hq => ?_)
    cases r with
    | error e => exact hx pins σ H s e s' I hq
    | ok fl =>
      cases fl with
      | ret w =>
        obtain ⟨z, H', I', rz, b, ez, q⟩ := I.after hq
        subst ez
        cases rz
        exact ⟨.bl b, H', I', rfl, q⟩
      | next => exact False.elim hq
      | brk => exact False.elim hq
      | cont => exact False.elim hq
  have inst : ∀ (T : String), PySem.W.mroIn X.K C (.type T) = some false → ∀ (prog : Program) (w : World), PySem.W.Looks (model prog w) s.heap (isInstance (.ref a) (.type T)) false := fun T h prog w => J.type.andThen (PySem.W.looks_mroIn I.kIn h)
  show wpAny (model X.prog X.w) X.A (richCompare .Eq u (.ref a)) (EP X pins σ Q) X.xe s
  cases hk with
  | non =>
    cases rx
    exact rc_refl hr.units0 I.kIn J (show s.TypeIs .none "NoneType" from rfl) D.no PySem.F.slot_NoneType_eq (fun Q' q => PySem.call_gives PySem.F.slot_NoneType_eq rfl PySem.F.entry_NoneType_eq (PySem.F.args_NoneType_eq_2 _ _) (PySem.SeqAt.NoneType___eq___none_ref_0 a) q) T.eq T.fn fin
  | int i =>
    obtain ⟨t, rfl⟩ := rx
    exact rc_refl hr.units0 I.kIn J (show s.TypeIs (.int i t) "int" from rfl) D.it PySem.F.slot_int_eq (fun Q' q => PySem.call_meets PySem.F.slot_int_eq rfl PySem.F.entry_int_eq (PySem.F.args_int_eq_2 _ _) (int_decl i t) ⟨hI, q⟩) T.eq T.fn fin
  | bl b =>
    cases rx
    exact rc_refl hr.units0 I.kIn J (show s.TypeIs (.bool b) "bool" from rfl) D.bo PySem.F.slot_bool_eq (fun Q' q => PySem.call_meets PySem.F.slot_bool_eq rfl PySem.F.entry_int_eq (PySem.F.args_int_eq_2 _ _) (bool_decl b) ⟨hI, q⟩) T.eq T.fn fin
  | str z =>
    obtain ⟨t, rfl⟩ := rx
    exact rc_refl hr.units0 I.kIn J (show s.TypeIs (.str z t) "str" from rfl) D.st PySem.F.slot_str_eq (fun Q' q => PySem.call_meets PySem.F.slot_str_eq rfl PySem.F.entry_str_eq (PySem.F.args_str_eq_2 _ _) (str_decl z t) ⟨hI, q⟩) T.eq T.fn fin
  | @lst p _ h =>
    cases rx
    obtain ⟨its, rv, ⟨o, n', ho, hc, hdn, hd⟩, hlen⟩ := I.list h
    have ty : s.TypeIs (.ref p) "list" := ⟨o, ho, hc⟩
    exact rc_refl hr.units0 I.kIn J ty D.li PySem.F.slot_list_eq (fun Q' q => PySem.call_meets PySem.F.slot_list_eq ty PySem.F.entry_list_eq (PySem.F.args_list_eq_2 _ _) list_decl ⟨inst _ D.li, q⟩) T.eq T.fn fin
  | @tup p _ h =>
    cases rx
    obtain ⟨its, rv, ⟨o, ho, hc, n', hd⟩, hlen⟩ := I.tuple h
    have ty : s.TypeIs (.ref p) "tuple" := ⟨o, ho, hc⟩
    exact rc_refl hr.units0 I.kIn J ty D.tu PySem.F.slot_tuple_eq (fun Q' q => PySem.call_meets PySem.F.slot_tuple_eq ty PySem.F.entry_tuple_eq (PySem.F.args_tuple_eq_2 _ _) tup_decl ⟨inst _ D.tu, q⟩) T.eq T.fn fin
  | @dct p _ h =>
    cases rx
    obtain ⟨_, _, vs, _, o, es, ep, h1, h2, _⟩ := (show ObjOk X.prog X.w H s.heap _ (.dK _) from I.hok _ _ h)
    have ty : s.TypeIs (.ref p) "dict" := ⟨o, h1, h2.1⟩
    exact rc_refl hr.units0 I.kIn J ty D.di PySem.F.slot_dict_eq (fun Q' q => PySem.call_meets PySem.F.slot_dict_eq ty PySem.F.entry_dict_eq (PySem.F.args_dict_eq_2 _ _) dict_decl ⟨inst _ D.di, q⟩) T.eq T.fn fin
/-- two rules for one operator -/
theorem op_or {g : Value → Value → Sem Value} {r1 r2 : R2} (h1 : OpR X g r1) (h2 : OpR X g r2) : OpR X g (fun x y H Q => r1 x y H Q ∨ r2 x y H Q) := fun pins s σ H x y v u Q I rx ry h => h.elim (h1 pins s σ H x y v u Q I rx ry) (h2 pins s σ H x y v u Q I rx ry)
end
end Pf

namespace Pf
open PySem PySem.Spec PyProof.Rows L2
local macro_rules | `(tactic| walk_at "one") => `(tactic| first
  | refine g_var rfl ?_ | refine g_c ?_ | refine g_op ?_ | refine g_rI0 ?_ | refine g_eqI ?_ | refine g_neI ?_ | refine g_eqB ?_ | refine g_neB ?_ | refine g_test ?_ | refine g_tB ?_ | refine g_bl ?_
  | refine g_and ?_ | refine g_or ?_ | refine g_not ?_ | refine g_andV ?_ | refine g_orV ?_ | refine g_notV ?_ | refine g_if ?_ | refine g_un ?_ | refine g_rU ?_ | refine g_chain ?_
  | refine g_ifS ?_ | refine g_next ?_ | refine g_asg ?_ | refine g_name ?_ | refine g_sub ?_ | refine g_ret ?_ | refine g_drop ?_ | refine g_cons ?_ | refine g_nil ?_ | refine g_cb ?_
  | refine g_tup ?_ | refine g_lst ?_ | refine g_sl ?_ | refine g_nopart ?_ | refine g_part ?_ | refine g_part2 ?_ | refine g_call ?_ | (show (∃ k, [V.int _] = [V.int k] ∧ _) ∨ _; refine .inl ⟨_, rfl, ?_⟩) | refine g_yes ?_ | refine g_oFF ?_ | refine g_oTx ?_ | refine g_oFT ?_ | refine g_noTx ?_ | refine g_noFT ?_ | refine g_noFF ?_ | refine g_nT ?_ | refine g_nF ?_ | refine g_sfld ?_ | refine g_fld ?_ | refine g_make ?_ | refine g_lstRg ?_ | refine g_tupRg ?_ | refine g_rg1 ?_ | refine g_lc ?_ | refine g_for ?_ | refine g_iL ?_ | refine g_iT ?_ | refine g_iR1 ?_ | refine g_iR2 ?_ | refine g_iZA ?_ | refine g_bm ?_ | refine g_dget ?_ | refine g_dget2 ?_ | refine g_din ?_ | refine g_dnotin ?_ | refine g_dput ?_ | refine iteT ?_ | refine iteF ?_)
local macro_rules | `(tactic| walk_at "go") => `(tactic| repeat (with_reducible first | walk_at "one" | refine g_seq ?_))
local macro_rules | `(tactic| walk_at "gs") => `(tactic| ((repeat (with_reducible walk_at "one")); try dsimp only))
def topS (i : Nat) : Stmt := PySem.Challenge.pw_takenover_k76_webs_judged.main.body.getD i (.Pass ⟨0, 0, 0, 0⟩)
abbrev s_BadWeb_init : Stmt := inClass (topS 3) 0
theorem sc_BadWeb_init : FnScope ["self", "part"] ["self", "part"] (defScope s_BadWeb_init) := ⟨rfl, rfl, rfl, by decide +kernel, rfl, by decide +kernel, by decide +kernel⟩
abbrev s_is_integer : Stmt := topS 5
theorem sc_is_integer : FnScope ["thing"] ["thing"] (defScope s_is_integer) := ⟨rfl, rfl, rfl, by decide +kernel, rfl, by decide +kernel, by decide +kernel⟩
abbrev s_is_between : Stmt := topS 6
theorem sc_is_between : FnScope ["thing", "least", "most"] ["thing", "least", "most"] (defScope s_is_between) := ⟨rfl, rfl, rfl, by decide +kernel, rfl, by decide +kernel, by decide +kernel⟩
abbrev s_is_number : Stmt := topS 7
theorem sc_is_number : FnScope ["thing", "many"] ["thing", "many"] (defScope s_is_number) := ⟨rfl, rfl, rfl, by decide +kernel, rfl, by decide +kernel, by decide +kernel⟩
abbrev s_is_tuple_of : Stmt := topS 8
theorem sc_is_tuple_of : FnScope ["thing", "many"] ["thing", "many"] (defScope s_is_tuple_of) := ⟨rfl, rfl, rfl, by decide +kernel, rfl, by decide +kernel, by decide +kernel⟩
abbrev s_is_copying : Stmt := topS 12
theorem sc_is_copying : FnScope ["offices", "thing", "x", "y", "sure"] ["offices", "thing"] (defScope s_is_copying) := ⟨rfl, rfl, rfl, by decide +kernel, rfl, by decide +kernel, by decide +kernel⟩
abbrev s_is_row : Stmt := topS 13
theorem sc_is_row : FnScope ["offices", "thing"] ["offices", "thing"] (defScope s_is_row) := ⟨rfl, rfl, rfl, by decide +kernel, rfl, by decide +kernel, by decide +kernel⟩
abbrev s_wrong_part : Stmt := topS 14
theorem sc_wrong_part : FnScope ["offices", "rows", "is_right", "number", "row"] ["offices", "rows", "is_right"] (defScope s_wrong_part) := ⟨rfl, rfl, rfl, by decide +kernel, rfl, by decide +kernel, by decide +kernel⟩
abbrev s_Web_init : Stmt := inClass (topS 16) 0
theorem sc_Web_init : FnScope ["self", "offices", "rows", "part"] ["self", "offices", "rows"] (defScope s_Web_init) := ⟨rfl, rfl, rfl, by decide +kernel, rfl, by decide +kernel, by decide +kernel⟩
abbrev s_Web___eq : Stmt := inClass (topS 16) 1
theorem sc_Web___eq : FnScope ["self", "other"] ["self", "other"] (defScope s_Web___eq) := ⟨rfl, rfl, rfl, by decide +kernel, rfl, by decide +kernel, by decide +kernel⟩
abbrev s_Log_init : Stmt := inClass (topS 18) 0
theorem sc_Log_init : FnScope ["self", "offices", "rows", "part"] ["self", "offices", "rows"] (defScope s_Log_init) := ⟨rfl, rfl, rfl, by decide +kernel, rfl, by decide +kernel, by decide +kernel⟩
abbrev s_law_hand : Stmt := topS 20
theorem sc_law_hand : FnScope ["_law_script", "_law_cells", "_law_cell"] ["_law_script"] (defScope s_law_hand) := ⟨rfl, rfl, rfl, by decide +kernel, rfl, by decide +kernel, by decide +kernel⟩
abbrev s_law_draw : Stmt := topS 21
theorem sc_law_draw : FnScope ["_law_hand_here", "_law_many", "_law_cell", "_law_digit", "_law_number"] ["_law_hand_here", "_law_many"] (defScope s_law_draw) := ⟨rfl, rfl, rfl, by decide +kernel, rfl, by decide +kernel, by decide +kernel⟩
abbrev s_law_web_rows : Stmt := topS 22
theorem sc_law_web_rows : FnScope ["_law_hand_here", "_law_offices", "_law_most", "_law_share", "_law_found", "_law_turn", "_law_one", "_law_other"] ["_law_hand_here", "_law_offices", "_law_most", "_law_share"] (defScope s_law_web_rows) := ⟨rfl, rfl, rfl, by decide +kernel, rfl, by decide +kernel, by decide +kernel⟩
abbrev s_law_deep : Stmt := topS 23
theorem sc_law_deep : FnScope ["_law_kind", "_law_found", "_law_turn"] ["_law_kind"] (defScope s_law_deep) := ⟨rfl, rfl, rfl, by decide +kernel, rfl, by decide +kernel, by decide +kernel⟩
abbrev s_law_is_number : Stmt := topS 24
theorem sc_law_is_number : FnScope ["_law_thing", "_law_least", "_law_most"] ["_law_thing", "_law_least", "_law_most"] (defScope s_law_is_number) := ⟨rfl, rfl, rfl, by decide +kernel, rfl, by decide +kernel, by decide +kernel⟩
abbrev s_law_is_row : Stmt := topS 25
theorem sc_law_is_row : FnScope ["_law_offices", "_law_thing"] ["_law_offices", "_law_thing"] (defScope s_law_is_row) := ⟨rfl, rfl, rfl, by decide +kernel, rfl, by decide +kernel, by decide +kernel⟩
abbrev s_law_due : Stmt := topS 26
theorem sc_law_due : FnScope ["_law_offices", "_law_rows", "_law_at", "_law_row"] ["_law_offices", "_law_rows"] (defScope s_law_due) := ⟨rfl, rfl, rfl, by decide +kernel, rfl, by decide +kernel, by decide +kernel⟩
abbrev s_law_made : Stmt := topS 27
theorem sc_law_made : FnScope ["_law_offices", "_law_rows", "_law_found", "e"] ["_law_offices", "_law_rows"] (defScope s_law_made) := ⟨rfl, rfl, rfl, by decide +kernel, rfl, by decide +kernel, by decide +kernel⟩
abbrev s_law_keeps : Stmt := topS 28
theorem sc_law_keeps : FnScope ["_law_web", "_law_offices", "_law_rows", "_law_row"] ["_law_web", "_law_offices", "_law_rows"] (defScope s_law_keeps) := ⟨rfl, rfl, rfl, by decide +kernel, rfl, by decide +kernel, by decide +kernel⟩
abbrev s_law_is_right : Stmt := topS 29
theorem sc_law_is_right : FnScope ["_law_offices", "_law_rows", "_law_due_here", "_law_word", "_law_got", "_law_good"] ["_law_offices", "_law_rows"] (defScope s_law_is_right) := ⟨rfl, rfl, rfl, by decide +kernel, rfl, by decide +kernel, by decide +kernel⟩
abbrev s_law_bent_offices : Stmt := topS 30
theorem sc_law_bent_offices : FnScope ["_law_hand_here", "_law_deep_here", "_law_odd"] ["_law_hand_here"] (defScope s_law_bent_offices) := ⟨rfl, rfl, rfl, by decide +kernel, rfl, by decide +kernel, by decide +kernel⟩
abbrev s_law_bent_row : Stmt := topS 31
theorem sc_law_bent_row : FnScope ["_law_hand_here", "_law_offices", "_law_row", "_law_kind", "_law_deep_here", "_law_odd", "_law_at", "_law_item"] ["_law_hand_here", "_law_offices", "_law_row"] (defScope s_law_bent_row) := ⟨rfl, rfl, rfl, by decide +kernel, rfl, by decide +kernel, by decide +kernel⟩
abbrev s_law_bent_rows : Stmt := topS 32
theorem sc_law_bent_rows : FnScope ["_law_hand_here", "_law_offices", "_law_rows", "_law_kind", "_law_plain", "_law_deep_here", "_law_odd", "_law_found", "_law_turn", "_law_at", "_law_row"] ["_law_hand_here", "_law_offices", "_law_rows"] (defScope s_law_bent_rows) := ⟨rfl, rfl, rfl, by decide +kernel, rfl, by decide +kernel, by decide +kernel⟩
abbrev s_law_equal_right : Stmt := topS 33
theorem sc_law_equal_right : FnScope ["_law_hand_here", "_law_offices", "_law_rows", "_law_web", "_law_pairs", "_law_at", "_law_one", "_law_other", "_law_sure", "_law_many", "_law_some", "_law_same"] ["_law_hand_here", "_law_offices", "_law_rows"] (defScope s_law_equal_right) := ⟨rfl, rfl, rfl, by decide +kernel, rfl, by decide +kernel, by decide +kernel⟩
abbrev s_law : Stmt := topS 34
theorem sc_law : FnScope ["_law_script", "_law_hand_here", "_law_turn", "_law_offices", "_law_rows", "_law_many"] ["_law_script"] (defScope s_law) := ⟨rfl, rfl, rfl, by decide +kernel, rfl, by decide +kernel, by decide +kernel⟩
/-- where the defs stand behind the top -/
structure Ad where
  f_BadWeb_init : Addr
  d_BadWeb_init : FuncData
  f_is_integer : Addr
  d_is_integer : FuncData
  f_is_between : Addr
  d_is_between : FuncData
  f_is_number : Addr
  d_is_number : FuncData
  f_is_tuple_of : Addr
  d_is_tuple_of : FuncData
  f_is_copying : Addr
  d_is_copying : FuncData
  f_is_row : Addr
  d_is_row : FuncData
  f_wrong_part : Addr
  d_wrong_part : FuncData
  f_Web_init : Addr
  d_Web_init : FuncData
  f_Web___eq : Addr
  d_Web___eq : FuncData
  f_Log_init : Addr
  d_Log_init : FuncData
  f_law_hand : Addr
  d_law_hand : FuncData
  f_law_draw : Addr
  d_law_draw : FuncData
  f_law_web_rows : Addr
  d_law_web_rows : FuncData
  f_law_deep : Addr
  d_law_deep : FuncData
  f_law_is_number : Addr
  d_law_is_number : FuncData
  f_law_is_row : Addr
  d_law_is_row : FuncData
  f_law_due : Addr
  d_law_due : FuncData
  f_law_made : Addr
  d_law_made : FuncData
  f_law_keeps : Addr
  d_law_keeps : FuncData
  f_law_is_right : Addr
  d_law_is_right : FuncData
  f_law_bent_offices : Addr
  d_law_bent_offices : FuncData
  f_law_bent_row : Addr
  d_law_bent_row : FuncData
  f_law_bent_rows : Addr
  d_law_bent_rows : FuncData
  f_law_equal_right : Addr
  d_law_equal_right : FuncData
  f_law : Addr
  d_law : FuncData
  c_Log : Addr
  c_Web : Addr
  c_SheetError : Addr
  c_BadLog : Addr
  c_BadWeb : Addr
/-- what the top has left -/
structure Txt (K : PySem.W.Frag) (mg : Str → Option Value) (a : Ad) : Prop where
  F_BadWeb_init : Fun K "__init__" "BadWeb.__init__" s_BadWeb_init a.f_BadWeb_init a.d_BadWeb_init
  b_BadWeb_init : Binds K a.d_BadWeb_init ["self", "part"] []
  F_is_integer : Fun K "is_integer" "is_integer" s_is_integer a.f_is_integer a.d_is_integer
  g_is_integer : mg "is_integer" = some (.ref a.f_is_integer)
  b_is_integer : Binds K a.d_is_integer ["thing"] []
  F_is_between : Fun K "is_between" "is_between" s_is_between a.f_is_between a.d_is_between
  g_is_between : mg "is_between" = some (.ref a.f_is_between)
  b_is_between : Binds K a.d_is_between ["thing", "least", "most"] []
  F_is_number : Fun K "is_number" "is_number" s_is_number a.f_is_number a.d_is_number
  g_is_number : mg "is_number" = some (.ref a.f_is_number)
  b_is_number : Binds K a.d_is_number ["thing", "many"] []
  F_is_tuple_of : Fun K "is_tuple_of" "is_tuple_of" s_is_tuple_of a.f_is_tuple_of a.d_is_tuple_of
  g_is_tuple_of : mg "is_tuple_of" = some (.ref a.f_is_tuple_of)
  b_is_tuple_of : Binds K a.d_is_tuple_of ["thing", "many"] []
  F_is_copying : Fun K "is_copying" "is_copying" s_is_copying a.f_is_copying a.d_is_copying
  g_is_copying : mg "is_copying" = some (.ref a.f_is_copying)
  b_is_copying : Binds K a.d_is_copying ["offices", "thing"] []
  F_is_row : Fun K "is_row" "is_row" s_is_row a.f_is_row a.d_is_row
  g_is_row : mg "is_row" = some (.ref a.f_is_row)
  b_is_row : Binds K a.d_is_row ["offices", "thing"] []
  F_wrong_part : Fun K "wrong_part" "wrong_part" s_wrong_part a.f_wrong_part a.d_wrong_part
  g_wrong_part : mg "wrong_part" = some (.ref a.f_wrong_part)
  b_wrong_part : Binds K a.d_wrong_part ["offices", "rows", "is_right"] []
  F_Web_init : Fun K "__init__" "Web.__init__" s_Web_init a.f_Web_init a.d_Web_init
  b_Web_init : Binds K a.d_Web_init ["self", "offices", "rows"] []
  F_Web___eq : Fun K "__eq__" "Web.__eq__" s_Web___eq a.f_Web___eq a.d_Web___eq
  b_Web___eq : Binds K a.d_Web___eq ["self", "other"] []
  m_Web___eq : Meth K a.c_Web "__eq__" a.f_Web___eq
  F_Log_init : Fun K "__init__" "Log.__init__" s_Log_init a.f_Log_init a.d_Log_init
  b_Log_init : Binds K a.d_Log_init ["self", "offices", "rows"] []
  F_law_hand : Fun K "_law_hand" "_law_hand" s_law_hand a.f_law_hand a.d_law_hand
  g_law_hand : mg "_law_hand" = some (.ref a.f_law_hand)
  b_law_hand : Binds K a.d_law_hand ["_law_script"] []
  F_law_draw : Fun K "_law_draw" "_law_draw" s_law_draw a.f_law_draw a.d_law_draw
  g_law_draw : mg "_law_draw" = some (.ref a.f_law_draw)
  b_law_draw : Binds K a.d_law_draw ["_law_hand_here", "_law_many"] []
  F_law_web_rows : Fun K "_law_web_rows" "_law_web_rows" s_law_web_rows a.f_law_web_rows a.d_law_web_rows
  g_law_web_rows : mg "_law_web_rows" = some (.ref a.f_law_web_rows)
  b_law_web_rows : Binds K a.d_law_web_rows ["_law_hand_here", "_law_offices", "_law_most", "_law_share"] []
  F_law_deep : Fun K "_law_deep" "_law_deep" s_law_deep a.f_law_deep a.d_law_deep
  g_law_deep : mg "_law_deep" = some (.ref a.f_law_deep)
  b_law_deep : Binds K a.d_law_deep ["_law_kind"] []
  F_law_is_number : Fun K "_law_is_number" "_law_is_number" s_law_is_number a.f_law_is_number a.d_law_is_number
  g_law_is_number : mg "_law_is_number" = some (.ref a.f_law_is_number)
  b_law_is_number : Binds K a.d_law_is_number ["_law_thing", "_law_least", "_law_most"] []
  F_law_is_row : Fun K "_law_is_row" "_law_is_row" s_law_is_row a.f_law_is_row a.d_law_is_row
  g_law_is_row : mg "_law_is_row" = some (.ref a.f_law_is_row)
  b_law_is_row : Binds K a.d_law_is_row ["_law_offices", "_law_thing"] []
  F_law_due : Fun K "_law_due" "_law_due" s_law_due a.f_law_due a.d_law_due
  g_law_due : mg "_law_due" = some (.ref a.f_law_due)
  b_law_due : Binds K a.d_law_due ["_law_offices", "_law_rows"] []
  F_law_made : Fun K "_law_made" "_law_made" s_law_made a.f_law_made a.d_law_made
  g_law_made : mg "_law_made" = some (.ref a.f_law_made)
  b_law_made : Binds K a.d_law_made ["_law_offices", "_law_rows"] []
  F_law_keeps : Fun K "_law_keeps" "_law_keeps" s_law_keeps a.f_law_keeps a.d_law_keeps
  g_law_keeps : mg "_law_keeps" = some (.ref a.f_law_keeps)
  b_law_keeps : Binds K a.d_law_keeps ["_law_web", "_law_offices", "_law_rows"] []
  F_law_is_right : Fun K "_law_is_right" "_law_is_right" s_law_is_right a.f_law_is_right a.d_law_is_right
  g_law_is_right : mg "_law_is_right" = some (.ref a.f_law_is_right)
  b_law_is_right : Binds K a.d_law_is_right ["_law_offices", "_law_rows"] []
  F_law_bent_offices : Fun K "_law_bent_offices" "_law_bent_offices" s_law_bent_offices a.f_law_bent_offices a.d_law_bent_offices
  g_law_bent_offices : mg "_law_bent_offices" = some (.ref a.f_law_bent_offices)
  b_law_bent_offices : Binds K a.d_law_bent_offices ["_law_hand_here"] []
  F_law_bent_row : Fun K "_law_bent_row" "_law_bent_row" s_law_bent_row a.f_law_bent_row a.d_law_bent_row
  g_law_bent_row : mg "_law_bent_row" = some (.ref a.f_law_bent_row)
  b_law_bent_row : Binds K a.d_law_bent_row ["_law_hand_here", "_law_offices", "_law_row"] []
  F_law_bent_rows : Fun K "_law_bent_rows" "_law_bent_rows" s_law_bent_rows a.f_law_bent_rows a.d_law_bent_rows
  g_law_bent_rows : mg "_law_bent_rows" = some (.ref a.f_law_bent_rows)
  b_law_bent_rows : Binds K a.d_law_bent_rows ["_law_hand_here", "_law_offices", "_law_rows"] []
  F_law_equal_right : Fun K "_law_equal_right" "_law_equal_right" s_law_equal_right a.f_law_equal_right a.d_law_equal_right
  g_law_equal_right : mg "_law_equal_right" = some (.ref a.f_law_equal_right)
  b_law_equal_right : Binds K a.d_law_equal_right ["_law_hand_here", "_law_offices", "_law_rows"] []
  F_law : Fun K "law" "law" s_law a.f_law a.d_law
  g_law : mg "law" = some (.ref a.f_law)
  b_law : Binds K a.d_law ["_law_script"] []
  gc_Log : mg "Log" = some (.ref a.c_Log)
  cl_Log : Cls K a.c_Log
  n_Log_offices : NoAttr K a.c_Log "offices"
  n_Log_rows : NoAttr K a.c_Log "rows"
  mk_Log : Mk K a.c_Log a.f_Log_init
  iC_Log : C8.InsC K a.c_Log
  gc_Web : mg "Web" = some (.ref a.c_Web)
  cl_Web : Cls K a.c_Web
  n_Web_offices : NoAttr K a.c_Web "offices"
  n_Web_rows : NoAttr K a.c_Web "rows"
  mk_Web : Mk K a.c_Web a.f_Web_init
  iC_Web : C8.InsC K a.c_Web
  gc_SheetError : mg "SheetError" = some (.ref a.c_SheetError)
  gc_BadLog : mg "BadLog" = some (.ref a.c_BadLog)
  gc_BadWeb : mg "BadWeb" = some (.ref a.c_BadWeb)
  ox_BadWeb : OexC K a.c_BadWeb
  oi_BadWeb : PySem.W.findIn K (.ref a.c_BadWeb) "__init__" = some (some (.ref a.f_BadWeb_init))
  ot_BadWeb : PySem.W.typeIn K (.ref a.f_BadWeb_init) = some (.type "function")
  xc_BadWeb : ExcC K a.c_BadWeb
  xf_BadWeb : XfC K a.c_BadWeb
  nf_BadWeb_part : PySem.W.findIn K (.ref a.c_BadWeb) "part" = some none
  ki_BadWeb_ValueError : PySem.W.mroIn K a.c_BadWeb (.type "ValueError") = some true
  ex_BadWeb_BadWeb : PySem.W.exmOne K (.ref a.c_BadWeb) (.ref a.c_BadWeb) = some true
  mt_NoneType : PySem.W.mroIn K a.c_Log (.type "NoneType") = some false
  mt_tuple : PySem.W.mroIn K a.c_Log (.type "tuple") = some false
  mt_list : PySem.W.mroIn K a.c_Log (.type "list") = some false
  mt_int : PySem.W.mroIn K a.c_Log (.type "int") = some false
  mt_bool : PySem.W.mroIn K a.c_Log (.type "bool") = some false
  mt_str : PySem.W.mroIn K a.c_Log (.type "str") = some false
  mt_dict : PySem.W.mroIn K a.c_Log (.type "dict") = some false
  ne_Web : PySem.W.findIn K (.ref a.c_Web) "__ne__" = some (some (.builtin "object.__ne__"))
  ty_Log : PySem.W.typeIn K (.ref a.c_Log) = some (.type "type")
  ty_Web : PySem.W.typeIn K (.ref a.c_Web) = some (.type "type")
  sb_Web_Web : PySem.W.subIn K (.ref a.c_Web) (.ref a.c_Web) = some true
  sb_Log_Web : PySem.W.subIn K (.ref a.c_Log) (.ref a.c_Web) = some false
  kS : PySem.W.subIn K (.ref a.c_BadWeb) (.ref a.c_SheetError) = some true
  kL : PySem.W.subIn K (.ref a.c_BadWeb) (.ref a.c_BadLog) = some false
  sW : PySem.W.subIn K (.ref a.c_BadWeb) (.ref a.c_BadWeb) = some true
  sS : PySem.W.subIn K (.ref a.c_SheetError) (.ref a.c_SheetError) = some true
  sL : PySem.W.subIn K (.ref a.c_BadLog) (.ref a.c_BadLog) = some true
  sb_Log_Log : PySem.W.subIn K (.ref a.c_Log) (.ref a.c_Log) = some true
  tS : PySem.W.typeIn K (.ref a.c_SheetError) = some (.type "type")
  tL : PySem.W.typeIn K (.ref a.c_BadLog) = some (.type "type")
  nz_Log : a.c_Log ≠ 0
  g_MOST_OFFICES : ∃ t, mg "MOST_OFFICES" = some (.int 12 t)
  g_MOST_ROWS : ∃ t, mg "MOST_ROWS" = some (.int 60 t)
  z_isinstance : mg "isinstance" = none
  z_int : mg "int" = none
  z_bool : mg "bool" = none
  z_tuple : mg "tuple" = none
  z_list : mg "list" = none
  z_len : mg "len" = none
  z_abs : mg "abs" = none
  z_all : mg "all" = none
  z_range : mg "range" = none
  z_enumerate : mg "enumerate" = none
  z_str : mg "str" = none
  z_ValueError : mg "ValueError" = none
section
variable {P : Program} {w : World} {K : PySem.W.Frag} {mg : Str → Option Value} {base : Heap} {a : Ad}
/-! ### the drawn numbers, the other way -/
def sp_law_hand (K : PySem.W.Frag) : Sp := fun vs H Q _ => ∃ (s : Addr) (ns : List Int), vs = [.ref s] ∧ SqL K H s (ns.map V.int) ∧ ns.length ≤ 63 ∧ ∀ H' d c, Same H H' → H d = none → Dice d c H' → Q (.ref d) H'
theorem ok_law_hand (T : Txt K mg a) : FnOk P w K mg base CX0 1 a.f_law_hand a.d_law_hand ["_law_script"] (sp_law_hand K) := by
  refine T.F_law_hand.ok sc_law_hand (fun vs H Q E h => ?_) (fun cdv A outer s H vs Q E hr h => ?_)
  · obtain ⟨s, ns, rfl, _⟩ := h
    rfl
  · obtain ⟨s0, ns, rfl, hS, hlen, q⟩ := h
    refine ⟨_, (pss_cons (ps_setLc (i := 1) (own := [("_law_cell", 2)]) (g := (gName 2)) rfl sc_law_hand.nd rfl rfl (sw_true rfl rfl rfl (by decide +kernel)) (kiList K rfl (pe_slice (kSlL K rfl) (pv 0) po_none (po_some pe_int))) (blkOk_by (own := [("_law_cell", 2)]) (N := ["_law_script", "_law_cells", "_law_cell"]) (sc := defScope s_law_hand) (by decide +kernel)) (fun _ _ _ _ _ => (pg_name (i := 2) sc_law_hand.nd rfl (.inl rfl))) (fun _ _ _ _ _ => pts_nil) (fun _ _ _ _ _ => (pe_callB call_abs (by rfl) T.z_abs (by decide +kernel) (pa_cons (pe_callTy call_int1 (by rfl) T.z_int (by decide +kernel) (pa_cons (pv 2) pa_nil)) pa_nil))))
  (pss_one (ps_ret (pe_lst (pa_cons (pv 1) (pa_cons pe_int (pa_cons pe_int (pa_cons (pe_op op_add pe_int (pe_callB (kLen K rfl) (by rfl) T.z_len (by decide +kernel) (pa_cons (pv 1) pa_nil))) (pa_cons pe_int pa_nil))))))))), ?_⟩
    walk_at "go"
    refine ⟨s0, ns.map V.int, rfl, hS, fun p np => ?_⟩
    walk_at "go"
    refine ⟨p, rfl, ⟨_, SqL.new⟩, fun D nD => ?_⟩
    have npD : p ≠ D := fun e => by
      rw [← e, upd_same] at nD
      cases nD
    have nD0 : H D = none := by
      rw [upd_ne npD.symm] at nD
      exact nD
    have hcl : (cutV (ns.map V.int) none (some 63)).length ≤ 63 := by
      have := cutV_length (ns.map V.int) none (some 63)
      rw [List.length_map] at this
      omega
    refine lc_it (walk_list (K := K) (a := p) (xs := cutV (ns.map V.int) none (some 63))) (fun i H' => Same H H' ∧ H' p = some (.lst (cutV (ns.map V.int) none (some 63))) ∧ ∃ cs : List Int, H' D = some (.lst (cs.map V.int)) ∧ cs.length = i ∧ ∀ x ∈ cs, 0 ≤ x)
      ⟨Same.put (same_new np) nD0, ?_, [], upd_same, rfl, fun x hx => by cases hx⟩ (fun i H' _ h => SqL.at h.2.1) (fun i x H1 H2 hi h hy => ?_) (fun H' h => ?_)
    · rw [upd_ne npD, upd_same]
    · obtain ⟨sm, hp, cs, hD, hl, h0⟩ := h
      obtain ⟨rfl, hx⟩ := hy
      obtain ⟨z, rfl⟩ := cutV_int hx
      refine ⟨rfl, g_yes (iteT ?_)⟩
      refine ⟨.int z, rfl, .inl ⟨z, rfl, z, rfl, cs.map V.int, hD, ?_, Same.put sm nD0, ?_, cs ++ [if z < 0 then -z else z], ?_, ?_, ?_⟩⟩
      · rw [List.length_map, hl]
        exact small1000 (by omega)
      · rw [upd_ne npD]
        exact hp
      · rw [upd_same, List.map_append]
        rfl
      · rw [List.length_append, hl]
        rfl
      · intro x hx
        rcases List.mem_append.mp hx with hx | hx
        · exact h0 x hx
        · rw [List.mem_singleton.mp hx]
          split <;> omega
    · obtain ⟨sm, hp, cs, hD, hl, h0⟩ := h
      walk_at "go"
      refine ⟨_, _, rfl, .inl (SqL.at hD), ?_⟩
      walk_at "go"
      refine ⟨by show 5 ≤ sizeLine; decide, fun d nd => ?_⟩
      refine q _ d D (sm.trans (same_new nd)) ?_ ⟨cs, 0, 0, 1 + (cs.map V.int).length, 0, upd_same, ?_, ?_, h0, by decide, by decide, by omega, by rw [List.length_map]; omega, by decide⟩
      · exact sm.free nd
      · rw [upd_ne (ne_of_none hD nd)]
        exact hD
      · exact ne_of_none hD nd
def sp_law_draw : Sp := fun vs H Q _ => ∃ (d c : Addr) (n : Int), vs = [.ref d, .int n] ∧ Dice d c H ∧ 0 < n ∧ n ≤ 1000000000000 ∧ ∀ H' r, Fr d H H' → Dice d c H' → 0 ≤ r → r < n → Q (.int r) H'
theorem ok_law_draw (T : Txt K mg a) : FnOk P w K mg base CX0 1 a.f_law_draw a.d_law_draw ["_law_hand_here", "_law_many"] sp_law_draw := by
  refine T.F_law_draw.ok sc_law_draw (fun vs H Q E h => ?_) (fun cdv A outer s H vs Q E hr h => ?_)
  · obtain ⟨d, c, n, rfl, _⟩ := h
    rfl
  · obtain ⟨d, c, n, rfl, hD, n0, n1, q⟩ := h
    refine ⟨_, (pss_cons (ps_if (PW.pt (pw_and (pt_cmpR op_eq (pe_ix (kIxL K rfl) (pv 0) pe_int (fun _ _ => rfl)) pe_int (nomark _)) (pw_and1 (pt_cmpR op_lt (pe_ix (kIxL K rfl) (pv 0) pe_int (fun _ _ => rfl)) (pe_callB (kLen K rfl) (by rfl) T.z_len (by decide +kernel) (pa_cons (pe_ix (kIxL K rfl) (pv 0) pe_int (fun _ _ => rfl)) pa_nil)) (nomark _)))))
  (pss_cons (ps_set (i := 2) sc_law_draw.nd rfl (.inl rfl) (pe_ix (kIxL K rfl) (pe_ix (kIxL K rfl) (pv 0) pe_int (fun _ _ => rfl)) (pe_ix (kIxL K rfl) (pv 0) pe_int (fun _ _ => rfl)) (fun _ _ => rfl)))
  (pss_cons (ps_asg (pe_op op_add (pe_ix (kIxL K rfl) (pv 0) pe_int (fun _ _ => rfl)) pe_int) (pg_sub (pv 0) pe_int set_list))
  (pss_cons (ps_asg (pe_op op_mod (pe_callTy call_int1 (by rfl) T.z_int (by decide +kernel) (pa_cons (pe_op op_add (pe_op op_add (pe_op op_mul (pe_ix (kIxL K rfl) (pv 0) pe_int (fun _ _ => rfl)) pe_int) (pv 2)) pe_int) pa_nil)) pe_int) (pg_sub (pv 0) pe_int set_list))
  (pss_one (ps_if (pt_cmpR op_ge (pv 2) (pe_op op_pow pe_int pe_int) (nomark _))
  (pss_one (ps_asg (pv 2) (pg_sub (pv 0) pe_int set_list)))
  pss_nil)))))
  pss_nil)
  (pss_cons (ps_if (pt_cmpR op_gt (pe_ix (kIxL K rfl) (pv 0) pe_int (fun _ _ => rfl)) pe_int (nomark _))
  (pss_cons (ps_set (i := 3) sc_law_draw.nd rfl (.inl rfl) (pe_op op_mod (pe_callTy call_int1 (by rfl) T.z_int (by decide +kernel) (pa_cons (pe_ix (kIxL K rfl) (pv 0) pe_int (fun _ _ => rfl)) pa_nil)) (pv 1)))
  (pss_cons (ps_asg (pe_op op_fdivW (pe_ix (kIxL K rfl) (pv 0) pe_int (fun _ _ => rfl)) (pv 1)) (pg_sub (pv 0) pe_int set_list))
  (pss_one (ps_ret (pv 3)))))
  pss_nil)
  (pss_cons (ps_asg (pe_op op_add (pe_ix (kIxL K rfl) (pv 0) pe_int (fun _ _ => rfl)) pe_int) (pg_sub (pv 0) pe_int set_list))
  (pss_cons (ps_set (i := 4) sc_law_draw.nd rfl (.inl rfl) (pe_op op_mod (pe_callTy call_int1 (by rfl) T.z_int (by decide +kernel) (pa_cons (pe_op op_mul (pe_callTy call_int1 (by rfl) T.z_int (by decide +kernel) (pa_cons (pe_op op_add (pe_ix (kIxL K rfl) (pv 0) pe_int (fun _ _ => rfl)) (pe_op op_mul pe_int (pe_ix (kIxL K rfl) (pv 0) pe_int (fun _ _ => rfl)))) pa_nil)) pe_int) pa_nil)) pe_int))
  (pss_cons (ps_set (i := 4) sc_law_draw.nd rfl (.inl rfl) (pe_op op_mod (pe_callTy call_int1 (by rfl) T.z_int (by decide +kernel) (pa_cons (pe_op op_mul (pv 4) (pe_op op_add (pe_op op_fdiv (pv 4) pe_int) pe_int)) pa_nil)) pe_int))
  (pss_cons (ps_set (i := 4) sc_law_draw.nd rfl (.inl rfl) (pe_op op_mod (pe_callTy call_int1 (by rfl) T.z_int (by decide +kernel) (pa_cons (pe_op op_mul (pv 4) (pe_op op_add (pe_op op_fdiv (pv 4) pe_int) pe_int)) pa_nil)) pe_int))
  (pss_one (ps_ret (pe_op op_mod (pe_callTy call_int1 (by rfl) T.z_int (by decide +kernel) (pa_cons (pe_op op_fdiv (pv 4) pe_int) pa_nil)) (pv 1)))))))))), ?_⟩
    obtain ⟨cs, i, qq, s1, t, h1, h2, ncd, h0, hi, hq, hs, hs2, ht⟩ := hD
    refine seq_cut (fun σ' H' => ∃ y2 i' q' s', σ' = [some (.ref d), some (.int n), y2, none, none] ∧ H' d = some (.lst [.ref c, .int i', .int q', .int s', .int t]) ∧ H' c = some (.lst (cs.map V.int)) ∧ Fr d H H' ∧ 0 ≤ i' ∧ 0 ≤ q' ∧ 0 ≤ s' ∧ s' < 2147483648) ?rest ?first
    case first =>
      intro N hN
      walk_at "go"
      refine g_ixL (SqL.at h1) rfl ?_
      walk_at "go"
      refine g_ite (fun e0 => ?_) (fun e0 => ?_)
      · walk_at "go"
        refine g_ixL (SqL.at h1) rfl ?_
        walk_at "go"
        refine g_ixL (SqL.at h1) rfl ?_
        walk_at "go"
        refine ⟨_, _, rfl, .inl (SqL.at h2), ?_⟩
        walk_at "go"
        refine g_ite (fun e1 => ?_) (fun e1 => ?_)
        · obtain ⟨z, hz, _, ez⟩ := atI_int hi e1
          have z0 := h0 z hz
          walk_at "go"
          refine g_ixL (SqL.at h1) rfl ?_
          walk_at "go"
          refine g_ixL (SqL.at h1) rfl ?_
          walk_at "go"
          refine g_ixL (SqL.at h2) ez ?_
          walk_at "go"
          refine g_ixL (SqL.at h1) rfl ?_
          walk_at "go"
          refine g_setL h1 rfl ?_
          have h1' : upd H d (.lst [.ref c, .int (i + 1), .int qq, .int s1, .int t]) d = some (.lst [.ref c, .int (i + 1), .int qq, .int s1, .int t]) := upd_same
          have h2' : upd H d (.lst [.ref c, .int (i + 1), .int qq, .int s1, .int t]) c = some (.lst (cs.map V.int)) := by rw [upd_ne ncd]; exact h2
          walk_at "go"
          refine g_ixL (SqL.at h1') rfl ?_
          walk_at "go"
          refine g_rI (.inl ⟨by omega, by omega⟩) ?_
          walk_at "go"
          refine g_rI (by decide) ?_
          walk_at "go"
          refine g_setL h1' rfl ?_
          generalize hw : (s1 * 69621 + z + 11) % 2147483629 = w1
          have w0 : 0 ≤ w1 := by rw [← hw]; exact Int.emod_nonneg _ (by decide)
          have w2 : w1 < 2147483629 := by rw [← hw]; exact Int.emod_lt_of_pos _ (by decide)
          have h1'' : upd (upd H d (.lst [.ref c, .int (i + 1), .int qq, .int s1, .int t])) d (.lst [.ref c, .int (i + 1), .int qq, .int w1, .int t]) d = some (.lst [.ref c, .int (i + 1), .int qq, .int w1, .int t]) := upd_same
          have h2'' : upd (upd H d (.lst [.ref c, .int (i + 1), .int qq, .int s1, .int t])) d (.lst [.ref c, .int (i + 1), .int qq, .int w1, .int t]) c = some (.lst (cs.map V.int)) := by rw [upd_ne ncd]; exact h2'
          walk_at "go"
          refine g_rI ⟨by decide, by decide, by decide⟩ ?_
          walk_at "go"
          refine g_ite (fun e2 => ?_) (fun e2 => ?_)
          · walk_at "go"
            refine g_setL h1'' rfl ?_
            refine hN _ _ ⟨_, i + 1, z, w1, rfl, upd_same, by rw [upd_ne ncd]; exact h2'', (Fr.upd.trans Fr.upd).trans Fr.upd, by omega, z0, w0, by omega⟩
          · walk_at "go"
            exact hN _ _ ⟨_, i + 1, qq, w1, rfl, h1'', h2'', Fr.upd.trans Fr.upd, by omega, hq, w0, by omega⟩
        · walk_at "go"
          exact hN _ _ ⟨_, i, qq, s1, rfl, h1, h2, Fr.refl d H, hi, hq, hs, hs2⟩
      · walk_at "go"
        exact hN _ _ ⟨_, i, qq, s1, rfl, h1, h2, Fr.refl d H, hi, hq, hs, hs2⟩
    case rest =>
      rintro σ' H1 ⟨y2, i, qq, s1, rfl, h1, h2, fr, hi, hq, hs, hs2⟩
      walk_at "go"
      refine g_ixL (SqL.at h1) rfl ?_
      walk_at "go"
      refine g_ite (fun e0 => ?_) (fun e0 => ?_)
      · walk_at "go"
        refine g_ixL (SqL.at h1) rfl ?_
        walk_at "go"
        refine g_rI n0 ?_
        walk_at "go"
        refine g_ixL (SqL.at h1) rfl ?_
        walk_at "go"
        refine g_rI (wide_div n0 (b := 60) (by omega) (by decide) (by decide)) ?_
        walk_at "go"
        refine g_setL h1 rfl ?_
        walk_at "go"
        exact q _ _ (fr.trans Fr.upd) ⟨cs, i, _, s1, t, upd_same, by rw [upd_ne ncd]; exact h2, ncd, h0, hi, Int.ediv_nonneg hq (by omega), hs, hs2, ht⟩ (Int.emod_nonneg _ (by omega)) (Int.emod_lt_of_pos _ n0)
      · walk_at "go"
        refine g_ixL (SqL.at h1) rfl ?_
        walk_at "go"
        refine g_setL h1 rfl ?_
        have h1' : upd H1 d (.lst [.ref c, .int i, .int qq, .int s1, .int (t + 1)]) d = some (.lst [.ref c, .int i, .int qq, .int s1, .int (t + 1)]) := upd_same
        walk_at "go"
        refine g_ixL (SqL.at h1') rfl ?_
        walk_at "go"
        refine g_ixL (SqL.at h1') rfl ?_
        walk_at "go"
        refine g_rI (.inl ⟨by decide, by decide⟩) ?_
        walk_at "go"
        refine g_rI (.inr ⟨by decide, by decide⟩) ?_
        walk_at "go"
        refine g_rI (by decide) ?_
        generalize hw : ((s1 + 7919 * (t + 1)) * 48271) % 2147483647 = w1
        have w0 : 0 ≤ w1 := by rw [← hw]; exact Int.emod_nonneg _ (by decide)
        have w2 : w1 < 2147483647 := by rw [← hw]; exact Int.emod_lt_of_pos _ (by decide)
        walk_at "go"
        refine g_rI ⟨by decide, by decide⟩ ?_
        walk_at "go"
        refine g_rI (.inl ⟨by omega, by omega⟩) ?_
        walk_at "go"
        refine g_rI (by decide) ?_
        generalize hm : (w1 * (w1 / 1009 + 69621)) % 2147483647 = m1
        have m0 : 0 ≤ m1 := by rw [← hm]; exact Int.emod_nonneg _ (by decide)
        have m2 : m1 < 2147483647 := by rw [← hm]; exact Int.emod_lt_of_pos _ (by decide)
        walk_at "go"
        refine g_rI ⟨by decide, by decide⟩ ?_
        walk_at "go"
        refine g_rI (.inl ⟨by omega, by omega⟩) ?_
        walk_at "go"
        refine g_rI (by decide) ?_
        walk_at "go"
        refine g_rI ⟨by decide, by decide⟩ ?_
        walk_at "go"
        refine g_rI n0 ?_
        exact q _ _ (fr.trans Fr.upd) ⟨cs, i, qq, s1, t + 1, upd_same, by rw [upd_ne ncd]; exact h2, ncd, h0, hi, hq, hs, hs2, by omega⟩ (Int.emod_nonneg _ (by omega)) (Int.emod_lt_of_pos _ n0)

end

section
variable {P : Program} {w : World} {K : PySem.W.Frag} {mg : Str → Option Value} {base : Heap} {a : Ad}
/-! ### kinds -/
def sp_is_integer (K : PySem.W.Frag) : Sp := fun vs H Q _ => ∃ v b, vs = [v] ∧ IntK K H v b ∧ Q (.bl b) H
theorem ok_is_integer (T : Txt K mg a) : FnOk P w K mg base CX0 1 a.f_is_integer a.d_is_integer ["thing"] (sp_is_integer K) := by
  refine T.F_is_integer.ok sc_is_integer (fun vs H Q E h => ?_) (fun cdv A outer s H vs Q E hr h => ?_)
  · obtain ⟨v, b, rfl, _⟩ := h
    rfl
  · obtain ⟨v, b, rfl, ⟨t, b1, b2, ty, k1, k2, rfl⟩, q⟩ := h
    refine ⟨_, (pss_one (ps_ret (pe_and (pe_callB (kIsi K rfl) (by rfl) T.z_isinstance (by decide +kernel) (pa_cons (pv 0) (pa_cons (pe_bltn (v := .ty "int") (by rfl) T.z_int (by decide +kernel) rfl) pa_nil))) (pe_one (pe_not (pe_callB (kIsi K rfl) (by rfl) T.z_isinstance (by decide +kernel) (pa_cons (pv 0) (pa_cons (pe_bltn (v := .ty "bool") (by rfl) T.z_bool (by decide +kernel) rfl) pa_nil)))))))), ?_⟩
    walk_at "go"
    refine g_isi ty k1 ?_
    walk_at "go"
    cases b1 with
    | true =>
      walk_at "go"
      refine g_isi ty k2 ?_
      walk_at "go"
      exact q
    | false =>
      walk_at "go"
      exact q
def sp_is_between (K : PySem.W.Frag) : Sp := fun vs H Q _ => ∃ v lo hi, vs = [v, .int lo, .int hi] ∧ ((∃ i, v = .int i ∧ Q (.bl (decide (lo ≤ i ∧ i ≤ hi))) H) ∨ (IntK K H v false ∧ Q (.bl false) H))
theorem ok_is_between (T : Txt K mg a) : FnOk P w K mg base CX0 2 a.f_is_between a.d_is_between ["thing", "least", "most"] (sp_is_between K) := by
  refine T.F_is_between.ok sc_is_between (fun vs H Q E h => ?_) (fun cdv A outer s H vs Q E hr h => ?_)
  · obtain ⟨v, lo, hi, rfl, _⟩ := h
    rfl
  · obtain ⟨v, lo, hi, rfl, h⟩ := h
    refine ⟨_, (pss_one (ps_ret (pe_and (pe_call (ok_is_integer T) (hr.mono (by first | decide | omega)) (by rfl) T.g_is_integer T.F_is_integer.kp (T.b_is_integer) .nil pass0 (pa_cons (pv 0) pa_nil)) (pe_one (pe_chain op_le op_le (pv 1) (pv 0) (pv 2)))))), ?_⟩
    rcases h with ⟨i, rfl, q⟩ | ⟨k, q⟩
    · walk_at "go"
      refine ⟨_, _, rfl, IntK.int i, ?_⟩
      walk_at "go"
      refine g_ite (fun e1 => ?_) (fun e1 => ?_)
      · walk_at "go"
        rw [show decide (i ≤ hi) = decide (lo ≤ i ∧ i ≤ hi) from by simp [e1]]
        exact q
      · walk_at "go"
        rw [show false = decide (lo ≤ i ∧ i ≤ hi) from by simp [e1]]
        exact q
    · walk_at "go"
      refine ⟨_, _, rfl, k, ?_⟩
      walk_at "go"
      exact q
def sp_is_number (K : PySem.W.Frag) : Sp := fun vs H Q _ => ∃ v n, vs = [v, .int n] ∧ ((∃ i, v = .int i ∧ Q (.bl (decide (0 ≤ i ∧ i < n))) H) ∨ (IntK K H v false ∧ Q (.bl false) H))
theorem ok_is_number (T : Txt K mg a) : FnOk P w K mg base CX0 3 a.f_is_number a.d_is_number ["thing", "many"] (sp_is_number K) := by
  refine T.F_is_number.ok sc_is_number (fun vs H Q E h => ?_) (fun cdv A outer s H vs Q E hr h => ?_)
  · obtain ⟨v, n, rfl, _⟩ := h
    rfl
  · obtain ⟨v, n, rfl, h⟩ := h
    refine ⟨_, (pss_one (ps_ret (pe_call (ok_is_between T) (hr.mono (by first | decide | omega)) (by rfl) T.g_is_between T.F_is_between.kp (T.b_is_between) .nil pass0 (pa_cons (pv 0) (pa_cons pe_int (pa_cons (pe_op op_sub (pv 1) pe_int) pa_nil)))))), ?_⟩
    rcases h with ⟨i, rfl, q⟩ | ⟨k, q⟩
    · walk_at "go"
      refine ⟨_, _, _, rfl, .inl ⟨i, rfl, ?_⟩⟩
      rw [show decide (0 ≤ i ∧ i ≤ n - 1) = decide (0 ≤ i ∧ i < n) from by
        rw [Bool.eq_iff_iff, decide_eq_true_iff, decide_eq_true_iff]; omega]
      exact q
    · walk_at "go"
      exact ⟨_, _, _, rfl, .inr ⟨k, q⟩⟩

end

section
variable {P : Program} {w : World} {K : PySem.W.Frag} {mg : Str → Option Value} {base : Heap} {a : Ad}
/-! ### data at a place, isinstance of two kinds -/
theorem DpAll.get {K : PySem.W.Frag} {H : Hp} {vs : List V} {ds : List PyData} {i : Nat} {v : V} (h : DpAll K H vs ds) (e : vs[i]? = some v) : ∃ d, ds[i]? = some d ∧ Dp K H v d := by
  have hl : i < ds.length := by rw [← DpAll.len h]; exact (List.getElem?_eq_some_iff.mp e).1
  exact ⟨_, List.getElem?_eq_getElem hl, DpAll.at h e (List.getElem?_eq_getElem hl)⟩
theorem g_isiT {K : PySem.W.Frag} {H : Hp} {Q : VK} {x : V} {p : Addr} {n m : String} {t : Value} {b b2 : Bool} (hp : H p = some (.tup [.ty n, .ty m])) (ty : TyX K H x t) (k : PySem.W.kitOne K t (.type n) = some b) (k2 : PySem.W.kitOne K t (.type m) = some b2) (q : Q (.bl (b || b2)) H) : rIsiT K [x, .ref p] H Q :=
  ⟨x, p, _, t, [.type n, .type m], _, rfl, hp, .cons (.ty n) (.cons (.ty m) .nil), ty, kitAny2 k k2, q⟩

end

section
variable {P : Program} {w : World} {K : PySem.W.Frag} {mg : Str → Option Value} {base : Heap} {a : Ad}
/-! ### rows, logs -/
def sp_is_tuple_of (K : PySem.W.Frag) : Sp := fun vs H Q _ => ∃ v n, vs = [v, .int n] ∧ ((∃ p xs, v = .ref p ∧ SqT K H p xs ∧ Q (.bl (decide ((xs.length : Int) = n))) H) ∨ (∃ t, TyX K H v t ∧ PySem.W.kitOne K t (.type "tuple") = some false ∧ Q (.bl false) H))
theorem TyX.tup {K : PySem.W.Frag} {H : Hp} {p : Addr} {xs : List V} (h : SqT K H p xs) : TyX K H (.ref p) (.type "tuple") := by
  rcases h with (q | ⟨o, q⟩) | ⟨o, its, n, e, c, _⟩
  · exact .base (.tup q)
  · exact .fTuple q
  · exact .kTuple e c
theorem ok_is_tuple_of (T : Txt K mg a) : FnOk P w K mg base CX0 1 a.f_is_tuple_of a.d_is_tuple_of ["thing", "many"] (sp_is_tuple_of K) := by
  refine T.F_is_tuple_of.ok sc_is_tuple_of (fun vs H Q E h => ?_) (fun cdv A outer s H vs Q E hr h => ?_)
  · obtain ⟨v, n, rfl, _⟩ := h
    rfl
  · obtain ⟨v, n, rfl, h⟩ := h
    refine ⟨_, (pss_one (ps_ret (pe_and (pe_callB (kIsi K rfl) (by rfl) T.z_isinstance (by decide +kernel) (pa_cons (pv 0) (pa_cons (pe_bltn (v := .ty "tuple") (by rfl) T.z_tuple (by decide +kernel) rfl) pa_nil))) (pe_one (pe_cmpR op_eq (pe_callB (kLen K rfl) (by rfl) T.z_len (by decide +kernel) (pa_cons (pv 0) pa_nil)) (pv 1) (nomark _)))))), ?_⟩
    rcases h with ⟨p, xs, rfl, hp, q⟩ | ⟨t, ty, k, q⟩
    · walk_at "go"
      refine g_isi (TyX.tup hp) (b := true) (kit_ty (a := "tuple") (by decide +kernel)) ?_
      walk_at "go"
      refine ⟨_, _, rfl, .inr hp, ?_⟩
      walk_at "go"
      exact q
    · walk_at "go"
      refine g_isi ty k ?_
      walk_at "go"
      exact q
theorem g_enT {K : PySem.W.Frag} {σ : L2.St} {H : Hp} {R : It → Hp → Prop} {ta : TA} (q : ta σ H fun vs H1 => ∃ p xs, vs = [.ref p] ∧ SqT K H1 p xs ∧ R (IteT K p) H1) : (fun σ H R => ta σ H fun vs H1 => ∃ p xs, vs = [.ref p] ∧ SqT K H1 p xs ∧ R (IteT K p) H1 : TI) σ H R := q

end

section
variable {P : Program} {w : World} {K : PySem.W.Frag} {mg : Str → Option Value} {base : Heap} {a : Ad}
/-! ### things: numbers among them, and what can be a post -/
theorem small100k {n : Nat} (h : n ≤ 100000) : n < sizeLine := Nat.lt_of_le_of_lt h (by decide)
theorem ownC (T : Txt K mg a) : OwnC K a.c_Log := fun _ => ⟨T.iC_Log, T.mt_tuple, T.mt_list, T.mt_int, T.mt_bool, T.mt_str⟩
theorem g_num {d C : Addr} {H : Hp} {Q : VK} {E : XK} {v : V} {n m : Int} (c : OwnC K C) (h : Th K d C H v) (e : m = n + 1) (q : Q (.bl (wholeV n v)) H) : sp_is_number K [v, .int m] H Q E := by
  subst e
  rcases h.num c with ⟨i, rfl⟩ | ⟨hne, k⟩
  · refine ⟨_, _, rfl, .inl ⟨i, rfl, ?_⟩⟩
    rw [show decide (0 ≤ i ∧ i < n + 1) = wholeV n (.int i) from by
      show _ = decide (0 ≤ i ∧ i ≤ n)
      rw [Bool.eq_iff_iff, decide_eq_true_iff, decide_eq_true_iff]; omega]
    exact q
  · rw [wholeV_not hne] at q
    exact ⟨_, _, rfl, .inr ⟨k, q⟩⟩
/-- what stands in the middle of a post -/
def PartV (K : PySem.W.Frag) (d C : Addr) (H : Hp) (m : Nat) (v : V) : Option (List V) → Prop
  | none => Nt d C H v
  | some ys => ∃ q, v = .ref q ∧ SqT K H q ys ∧ ys.length ≤ m ∧ ∀ y ∈ ys, Th K d C H y
section
variable {d C : Addr} {H H' : Hp} {m m' : Nat} {v : V}
theorem PartV.fr (f : Fr d H H') (x : Tx H H') (hm : m ≤ m') : ∀ {pt : Option (List V)}, PartV K d C H m v pt → PartV K d C H' m' v pt
  | none, h => Nt.fr f h
  | some ys, ⟨q, e, hq, hl, ha⟩ => ⟨q, e, x.seq hq, Nat.le_trans hl hm, fun y hy => (ha y hy).fr f x⟩
end
theorem Th.bool {d C : Addr} {H : Hp} {v : V} (c : OwnC K C) (h : Th K d C H v) : (∃ b, v = .bl b) ∨ ((∀ b, v ≠ .bl b) ∧ ∃ t, TyX K H v t ∧ PySem.W.kitOne K t (.type "bool") = some false) := by
  rcases h with h | ⟨p, xs, rfl, h⟩
  · cases h with
    | int i => exact .inr ⟨(fun s z => by cases z), _, .base (.int i), kit_ty (by decide +kernel)⟩
    | bl b => exact .inl ⟨b, rfl⟩
    | str s => exact .inr ⟨(fun s z => by cases z), _, .base (.str s), kit_ty (by decide +kernel)⟩
    | non => exact .inr ⟨(fun s z => by cases z), _, .base .non, kit_ty (by decide +kernel)⟩
    | lst e n => exact .inr ⟨(fun s z => by cases z), _, .base (.lst e), kit_ty (by decide +kernel)⟩
    | dct e n => exact .inr ⟨(fun s z => by cases z), _, .base (.dK e), kit_ty (by decide +kernel)⟩
    | own e n z0 => exact .inr ⟨(fun s z => by cases z), _, .base (.ins e (c z0).ic.cl (c z0).ic.ha (c z0).ic.hn (c z0).ic.htk (c z0).ic.hm), kit_own (by decide +kernel) (c z0).bo⟩
  · exact .inr ⟨(fun s z => by cases z), _, TyX.tup' h, kit_ty (by decide +kernel)⟩
def intV : V → Option Int
  | .int i => some i
  | _ => none
def blV : V → Option Bool
  | .bl b => some b
  | _ => none
theorem intV_none {v : V} (h : ∀ i, v ≠ .int i) : intV v = none := by
  cases v <;> first | rfl | exact absurd rfl (h _)
theorem blV_none {v : V} (h : ∀ i, v ≠ .bl i) : blV v = none := by
  cases v <;> first | rfl | exact absurd rfl (h _)
theorem g_pick {H : Hp} {Q : VK} {L : Addr} {zs : List V} {k : Int} (hL : H L = some (.lst zs)) (k0 : 0 ≤ k) (k1 : k.toNat < zs.length) (q : ∀ z, z ∈ zs → Q z H) : rIxL K (.ref L) (.int k) H Q := by
  have gz := List.getElem?_eq_getElem k1
  exact g_ixL (SqL.at hL) (atI_at k0 gz) (q _ (List.mem_of_getElem? gz))
/-- deep things -/
def Q1 (K : PySem.W.Frag) (d C : Addr) (H : Hp) (v : V) : Prop := Nt d C H v ∨ ∃ p x, v = .ref p ∧ SqT K H p [x] ∧ Th K d C H x
def Q2 (K : PySem.W.Frag) (d C : Addr) (H : Hp) (v : V) : Prop := Nt d C H v ∨ ∃ p x, v = .ref p ∧ SqT K H p [x] ∧ Q1 K d C H x
section
variable {d C : Addr} {H H' : Hp} {v : V}
theorem Q1.th (h : Q1 K d C H v) : Th K d C H v := by
  rcases h with h | ⟨p, x, rfl, h, _⟩
  · exact .inl h
  · exact .tup h
theorem Q2.q1 (h : Q2 K d C H v) : Q1 K d C H v := by
  rcases h with h | ⟨p, x, rfl, h, hx⟩
  · exact .inl h
  · exact .inr ⟨p, x, rfl, h, hx.th⟩
theorem Q1.fr (f : Fr d H H') (x : Tx H H') (h : Q1 K d C H v) : Q1 K d C H' v := by
  rcases h with h | ⟨p, y, rfl, h, hy⟩
  · exact .inl (h.fr f)
  · exact .inr ⟨p, y, rfl, x.seq h, hy.fr f x⟩
theorem Q2.fr (f : Fr d H H') (x : Tx H H') (h : Q2 K d C H v) : Q2 K d C H' v := by
  rcases h with h | ⟨p, y, rfl, h, hy⟩
  · exact .inl (h.fr f)
  · exact .inr ⟨p, y, rfl, x.seq h, hy.fr f x⟩
theorem Q1.pt (h : Q1 K d C H v) : ∃ pt, PartV K d C H 10 v pt := by
  rcases h with h | ⟨p, y, rfl, h, hy⟩
  · exact ⟨none, h⟩
  · exact ⟨some [y], p, rfl, h, by show 1 ≤ 10; decide, fun z hz => by rw [List.mem_singleton.mp hz]; exact hy⟩
end

end

section
variable {P : Program} {w : World} {K : PySem.W.Frag} {mg : Str → Option Value} {base : Heap} {a : Ad}
/-! ### rows and webs judged, of any things -/
def WebRow (n : Int) (r : Row) : Prop := 0 ≤ r.1 ∧ r.1 < n ∧ 0 ≤ r.2.1 ∧ r.2.1 < n ∧ r.1 ≠ r.2.1
/-- two unlike offices and a flag | of neighbours, too -/
def copyB (n : Int) : Option (List V) → Bool
  | some [x0, x1, x2] => match intV x0, intV x1, blV x2 with
    | some i, some j, some _ => decide (0 ≤ i ∧ i < n ∧ 0 ≤ j ∧ j < n ∧ i ≠ j)
    | _, _, _ => false
  | _ => false
theorem wholeV_n {n i : Int} : wholeV (n - 1) (.int i) = decide (0 ≤ i ∧ i < n) := by
  show decide (0 ≤ i ∧ i ≤ n - 1) = _
  rw [Bool.eq_iff_iff, decide_eq_true_iff, decide_eq_true_iff]
  omega
theorem of3 {ys : List V} (h : ((ys.length : Nat) : Int) = 3) : ∃ x0 x1 x2, ys = [x0, x1, x2] := by
  match ys, h with
  | [x0, x1, x2], _ => exact ⟨x0, x1, x2, rfl⟩
  | [], h => exact absurd h (by simp)
  | [_], h => exact absurd h (by simp)
  | [_, _], h => exact absurd h (by simp)
  | _ :: _ :: _ :: _ :: _, h => exact absurd h (by simp only [List.length_cons]; omega)
theorem not3 {n : Int} {ys : List V} (h : ¬ ((ys.length : Nat) : Int) = 3) : copyB n (some ys) = false := by
  match ys, h with
  | [x0, x1, x2], h => exact absurd rfl h
  | [], _ => exact rfl
  | [_], _ => exact rfl
  | [_, _], _ => exact rfl
  | _ :: _ :: _ :: _ :: _, _ => exact rfl
def sp_is_copying (K : PySem.W.Frag) (C : Addr) : Sp := fun vs H Q _ => ∃ d v n m pt, vs = [.int n, v] ∧ PartV K d C H m v pt ∧ Q (.bl (copyB n pt)) H
theorem ok_is_copying (T : Txt K mg a) : FnOk P w K mg base CX0 4 a.f_is_copying a.d_is_copying ["offices", "thing"] (sp_is_copying K a.c_Log) := by
  refine T.F_is_copying.ok sc_is_copying (fun vs H Q E h => ?_) (fun cdv A outer s H vs Q E hr h => ?_)
  · obtain ⟨d, v, n, m, pt, rfl, _⟩ := h
    rfl
  · obtain ⟨d, v, n, m, pt, rfl, hv, q⟩ := h
    refine ⟨_, (pss_cons (ps_if (pt_not (pt_val (pe_call (ok_is_tuple_of T) (hr.mono (by first | decide | omega)) (by rfl) T.g_is_tuple_of T.F_is_tuple_of.kp (T.b_is_tuple_of) .nil pass0 (pa_cons (pv 1) (pa_cons pe_int pa_nil)))))
  (pss_one (ps_ret pe_bl))
  pss_nil)
  (pss_cons (ps_asg (pv 1) (kgTup K rfl rfl (pgs_cons (pg_name (i := 2) sc_is_copying.nd rfl (.inl rfl)) (pgs_cons (pg_name (i := 3) sc_is_copying.nd rfl (.inl rfl)) (pgs_cons (pg_name (i := 4) sc_is_copying.nd rfl (.inl rfl)) pgs_nil)))))
  (pss_cons (ps_if (PW.pt (pw_or (pt_not (pt_val (pe_call (ok_is_number T) (hr.mono (by first | decide | omega)) (by rfl) T.g_is_number T.F_is_number.kp (T.b_is_number) .nil pass0 (pa_cons (pv 2) (pa_cons (pv 0) pa_nil))))) (pw_or1 (pt_not (pt_val (pe_call (ok_is_number T) (hr.mono (by first | decide | omega)) (by rfl) T.g_is_number T.F_is_number.kp (T.b_is_number) .nil pass0 (pa_cons (pv 3) (pa_cons (pv 0) pa_nil))))))))
  (pss_one (ps_ret pe_bl))
  pss_nil)
  (pss_one (ps_ret (pe_and (pe_cmpR op_ne (pv 2) (pv 3) (nomark _)) (pe_one (pe_callB (kIsi K rfl) (by rfl) T.z_isinstance (by decide +kernel) (pa_cons (pv 4) (pa_cons (pe_bltn (v := .ty "bool") (by rfl) T.z_bool (by decide +kernel) rfl) pa_nil)))))))))), ?_⟩
    walk_at "go"
    cases pt with
    | none =>
      obtain ⟨t, t1, t2⟩ := Nt.tup (ownC T) hv
      refine ⟨_, _, rfl, .inr ⟨t, t1, t2, ?_⟩⟩
      walk_at "go"
      exact q
    | some ys =>
      obtain ⟨p, rfl, hp, _, hth⟩ := hv
      refine ⟨_, _, rfl, .inl ⟨p, _, rfl, hp, ?_⟩⟩
      by_cases h3 : ((ys.length : Nat) : Int) = 3
      case neg =>
        rw [decide_eq_false h3]
        rw [not3 h3] at q
        walk_at "go"
        exact q
      obtain ⟨x0, x1, x2, rfl⟩ := of3 h3
      rw [decide_eq_true h3]
      have h0 := hth x0 (by simp)
      have h1 := hth x1 (by simp)
      have h2 := hth x2 (by simp)
      walk_at "go"
      refine ⟨p, _, rfl, hp, rfl, _, _, rfl, _, _, rfl, _, _, rfl, rfl, ?_⟩
      walk_at "go"
      refine g_num (ownC T) h0 (show n = n - 1 + 1 by omega) ?_
      rcases h0.num (ownC T) with ⟨i, rfl⟩ | ⟨n0, _⟩
      case inr =>
        rw [wholeV_not n0]
        walk_at "go"
        rw [show copyB n (some [x0, x1, x2]) = false from by simp only [copyB, intV_none n0]] at q
        exact q
      by_cases e0 : 0 ≤ i ∧ i < n
      case neg =>
        rw [wholeV_n, decide_eq_false e0]
        walk_at "go"
        rw [show copyB n (some [.int i, x1, x2]) = false from by
          unfold copyB intV
          cases x1 <;> cases x2 <;> first | rfl | exact decide_eq_false (fun z => e0 ⟨z.1, z.2.1⟩)] at q
        exact q
      rw [wholeV_n, decide_eq_true e0]
      walk_at "go"
      refine g_num (ownC T) h1 (show n = n - 1 + 1 by omega) ?_
      rcases h1.num (ownC T) with ⟨j, rfl⟩ | ⟨n1, _⟩
      case inr =>
        rw [wholeV_not n1]
        walk_at "go"
        rw [show copyB n (some [.int i, x1, x2]) = false from by simp only [copyB, intV_none n1]; rfl] at q
        exact q
      by_cases e1 : 0 ≤ j ∧ j < n
      case neg =>
        rw [wholeV_n, decide_eq_false e1]
        walk_at "go"
        rw [show copyB n (some [.int i, .int j, x2]) = false from by
          unfold copyB intV
          cases x2 <;> first | rfl | exact decide_eq_false (fun z => e1 ⟨z.2.2.1, z.2.2.2.1⟩)] at q
        exact q
      rw [wholeV_n, decide_eq_true e1]
      walk_at "go"
      by_cases e2 : i = j
      · rw [decide_eq_true e2]
        walk_at "go"
        rw [show copyB n (some [.int i, .int j, x2]) = false from by
          unfold copyB intV
          cases x2 <;> first | rfl | exact decide_eq_false (fun z => z.2.2.2.2 e2)] at q
        exact q
      · rw [decide_eq_false e2]
        walk_at "go"
        rcases h2.bool (ownC T) with ⟨b, rfl⟩ | ⟨n2, t, t1, t2⟩
        · refine g_isi (b := true) (.base (.bl _)) (kit_ty (a := "bool") (by decide +kernel)) ?_
          rw [show copyB n (some [.int i, .int j, .bl b]) = true from decide_eq_true ⟨e0.1, e0.2, e1.1, e1.2, e2⟩] at q
          exact q
        · refine g_isi t1 t2 ?_
          rw [show copyB n (some [.int i, .int j, x2]) = false from by simp only [copyB, blV_none n2]; rfl] at q
          exact q
theorem ok_is_row (T : Txt K mg a) : FnOk P w K mg base CX0 5 a.f_is_row a.d_is_row ["offices", "thing"] (fun _ _ _ _ => False) :=
  T.F_is_row.ok sc_is_row (fun vs H Q E h => h.elim) (fun cdv A outer s H vs Q E hr h => h.elim)
/-- things, each a row or none -/
inductive PtAll (K : PySem.W.Frag) (d C : Addr) (H : Hp) (m : Nat) : List V → List (Option (List V)) → Prop
  | nil : PtAll K d C H m [] []
  | cons {x : V} {pt : Option (List V)} {xs : List V} {pts : List (Option (List V))} (h : PartV K d C H m x pt) (t : PtAll K d C H m xs pts) : PtAll K d C H m (x :: xs) (pt :: pts)
section
variable {d C : Addr} {H H' : Hp} {m m' : Nat}
theorem PtAll.len : ∀ {xs : List V} {pts : List (Option (List V))}, PtAll K d C H m xs pts → xs.length = pts.length
  | _, _, .nil => rfl
  | _, _, .cons _ t => by rw [List.length_cons, List.length_cons, t.len]
theorem PtAll.get : ∀ {xs : List V} {pts : List (Option (List V))}, PtAll K d C H m xs pts → ∀ {i : Nat} {x : V} {pt : Option (List V)}, xs[i]? = some x → pts[i]? = some pt → PartV K d C H m x pt
  | _, _, .nil, _, _, _, h, _ => by simp at h
  | _, _, .cons a t, 0, _, _, h, k => by cases h; cases k; exact a
  | _, _, .cons a t, i + 1, _, _, h, k => t.get (i := i) (by simpa using h) (by simpa using k)
theorem PtAll.app : ∀ {xs ys : List V} {pts qts : List (Option (List V))}, PtAll K d C H m xs pts → PtAll K d C H m ys qts → PtAll K d C H m (xs ++ ys) (pts ++ qts)
  | _, _, _, _, .nil, b => b
  | _, _, _, _, .cons a t, b => .cons a (t.app b)
theorem PtAll.take : ∀ {xs : List V} {pts : List (Option (List V))} (n : Nat), PtAll K d C H m xs pts → PtAll K d C H m (xs.take n) (pts.take n)
  | _, _, 0, _ => .nil
  | _, _, n + 1, .nil => .nil
  | _, _, n + 1, .cons a t => .cons a (t.take n)
theorem PtAll.drop : ∀ {xs : List V} {pts : List (Option (List V))} (n : Nat), PtAll K d C H m xs pts → PtAll K d C H m (xs.drop n) (pts.drop n)
  | _, _, 0, h => h
  | _, _, n + 1, .nil => .nil
  | _, _, n + 1, .cons a t => t.drop n
theorem PtAll.rep {xs : List V} {pts : List (Option (List V))} (h : PtAll K d C H m xs pts) : ∀ n : Nat, PtAll K d C H m (List.replicate n xs).flatten (List.replicate n pts).flatten
  | 0 => .nil
  | n + 1 => by
    rw [List.replicate_succ, List.replicate_succ, List.flatten_cons, List.flatten_cons]
    exact h.app (h.rep n)
theorem PtAll.fr (f : Fr d H H') (x : Tx H H') (hm : m ≤ m') : ∀ {xs : List V} {pts : List (Option (List V))}, PtAll K d C H m xs pts → PtAll K d C H' m' xs pts
  | _, _, .nil => .nil
  | _, _, .cons a t => .cons (a.fr f x hm) (t.fr f x hm)
end
/-- what can be given as rows -/
def RowsV (K : PySem.W.Frag) (d C : Addr) (H : Hp) (m : Nat) (v : V) : Option (List (Option (List V))) → Prop
  | none => Nt d C H v
  | some pts => ∃ q xs, v = .ref q ∧ SqT K H q xs ∧ PtAll K d C H m xs pts
theorem RowsV.fr {d C : Addr} {H H' : Hp} {m m' : Nat} {v : V} (f : Fr d H H') (x : Tx H H') (hm : m ≤ m') : ∀ {sh : Option (List (Option (List V)))}, RowsV K d C H m v sh → RowsV K d C H' m' v sh
  | none, h => Nt.fr f h
  | some pts, ⟨q, xs, e, hq, ha⟩ => ⟨q, xs, e, x.seq hq, ha.fr f x hm⟩
/-- the first wrong row's number -/
def firstBad (n : Int) (pts : List (Option (List V))) : Option Nat := pts.findIdx? fun pt => !copyB n pt
def partF : Option Nat → V
  | some i => .int (i : Nat)
  | none => .non
def partR (n : Int) : Option (List (Option (List V))) → V
  | none => .str "rows"
  | some pts => if 60 < pts.length then .str "rows" else partF (firstBad n pts)
theorem partR_some {n : Int} {pts : List (Option (List V))} : partR n (some pts) = if 60 < pts.length then .str "rows" else partF (firstBad n pts) := rfl
def partOf (o : V) (sh : Option (List (Option (List V)))) : V := match intV o with
  | none => .str "offices"
  | some n => if 1 ≤ n ∧ n ≤ 12 then partR n sh else .str "offices"
theorem first_at {n : Int} {pts : List (Option (List V))} {i : Nat} {pt : Option (List V)} (g : pts[i]? = some pt) (hb : copyB n pt = false) (h : ∀ j pt', j < i → pts[j]? = some pt' → copyB n pt' = true) : firstBad n pts = some i := by
  unfold firstBad
  have hi := (List.getElem?_eq_some_iff.mp g).1
  rw [List.findIdx?_eq_some_iff_getElem]
  refine ⟨hi, ?_, fun j hj => ?_⟩
  · rw [(List.getElem?_eq_some_iff.mp g).2, hb]
    rfl
  · rw [h j _ hj (List.getElem?_eq_getElem (Nat.lt_trans hj hi))]
    simp
theorem first_none {n : Int} {pts : List (Option (List V))} (h : ∀ (j : Nat) pt', pts[j]? = some pt' → copyB n pt' = true) : firstBad n pts = none := by
  unfold firstBad
  rw [List.findIdx?_eq_none_iff]
  intro x hx
  obtain ⟨j, hj⟩ := List.mem_iff_getElem?.mp hx
  rw [h j x hj]
  rfl
/-- a right row among things | right rows -/
def rowPt (r : Row) : Option (List V) := some [.int r.1, .int r.2.1, .bl r.2.2]
theorem pt_row {d C : Addr} {H : Hp} {v : V} {r : Row} (h : Dp K H v (rowD r)) : PartV K d C H 10 v (rowPt r) := by
  obtain ⟨p, rfl, hp⟩ := of_row h
  refine ⟨p, rfl, hp, by show 3 ≤ 10; decide, fun y hy => ?_⟩
  simp only [List.mem_cons, List.not_mem_nil, or_false] at hy
  rcases hy with rfl | rfl | rfl
  · exact .int _
  · exact .int _
  · exact .inl (.bl _)
theorem pt_rows {d C : Addr} {H : Hp} : ∀ {rs : List Row} {xs : List V}, DpAll K H xs (rs.map rowD) → PtAll K d C H 10 xs (rs.map rowPt)
  | [], _, h => by cases h; exact .nil
  | r :: rs, _, h => by
    cases h with
    | cons a t => exact .cons (pt_row a) (pt_rows t)
theorem copyB_good {n : Int} {r : Row} (g : WebRow n r) : copyB n (rowPt r) = true := decide_eq_true g
theorem of_copyB {d C : Addr} {H : Hp} {m : Nat} {n : Int} {x : V} {pt : Option (List V)} (h : PartV K d C H m x pt) (b : copyB n pt = true) : ∃ r, Dp K H x (rowD r) ∧ WebRow n r := by
  obtain ⟨x0, x1, x2, rfl⟩ : ∃ x0 x1 x2, pt = some [x0, x1, x2] := by
    unfold copyB at b
    split at b
    · exact ⟨_, _, _, rfl⟩
    · cases b
  obtain ⟨i, j, f, rfl, rfl, rfl, hc⟩ : ∃ i j b, x0 = .int i ∧ x1 = .int j ∧ x2 = .bl b ∧ (0 ≤ i ∧ i < n ∧ 0 ≤ j ∧ j < n ∧ i ≠ j) := by
    unfold copyB intV blV at b
    cases x0 <;> cases x1 <;> cases x2 <;> first | exact ⟨_, _, _, rfl, rfl, rfl, of_decide_eq_true b⟩ | cases b
  obtain ⟨p, rfl, hp, _, _⟩ := h
  exact ⟨(i, j, f), dp_row hp, hc⟩
theorem of_rowsB {d C : Addr} {H : Hp} {m : Nat} {n : Int} : ∀ {xs : List V} {pts : List (Option (List V))}, PtAll K d C H m xs pts → (∀ pt ∈ pts, copyB n pt = true) → ∃ rs : List Row, DpAll K H xs (rs.map rowD) ∧ rs.length = pts.length
  | _, _, .nil, _ => ⟨[], .nil, rfl⟩
  | _, _, .cons a t, hb => by
    obtain ⟨r, hr, _⟩ := of_copyB a (hb _ (List.mem_cons_self ..))
    obtain ⟨rs, hrs, hl⟩ := of_rowsB t fun pt hpt => hb pt (List.mem_cons_of_mem _ hpt)
    exact ⟨r :: rs, .cons hr hrs, by rw [List.length_cons, List.length_cons, hl]⟩
theorem of_partNon {d C : Addr} {H : Hp} {m : Nat} {o v : V} {sh : Option (List (Option (List V)))} (hv : RowsV K d C H m v sh) (e : partOf o sh = .non) : ∃ (n : Int) (rs : List Row), o = .int n ∧ Dp K H v (rowsD rs) ∧ rs.length ≤ 60 := by
  unfold partOf at e
  cases o with
  | int n =>
    simp only [intV] at e
    by_cases hn : 1 ≤ n ∧ n ≤ 12
    · rw [if_pos hn] at e
      cases sh with
      | none => cases e
      | some pts =>
        obtain ⟨q, xs, rfl, hq, ha⟩ := hv
        rw [partR_some] at e
        by_cases h60 : 60 < pts.length
        · rw [if_pos h60] at e; cases e
        · rw [if_neg h60] at e
          cases hf : firstBad n pts with
          | some i => rw [hf] at e; cases e
          | none =>
            unfold firstBad at hf
            rw [List.findIdx?_eq_none_iff] at hf
            obtain ⟨rs, hrs, hl⟩ := of_rowsB (n := n) ha fun pt hpt => by have := hf pt hpt; simpa using this
            exact ⟨n, rs, rfl, .tup hq hrs, by omega⟩
    · rw [if_neg hn] at e; cases e
  | _ => cases e

/-! ### Log(n, ()) alone -/
def sp_wrong_part0 (K : PySem.W.Frag) (f : Addr) : Sp := fun vs H Q _ => ∃ n p, vs = [.int n, .ref p, .ref f] ∧ SqT K H p [] ∧ 1 ≤ n ∧ n ≤ 12 ∧ Q .non H
theorem ok_wrong_part0 (T : Txt K mg a) : FnOk P w K mg base CX0 6 a.f_wrong_part a.d_wrong_part ["offices", "rows", "is_right"] (sp_wrong_part0 K a.f_is_row) := by
  refine T.F_wrong_part.ok sc_wrong_part (fun vs H Q E h => ?_) (fun cdv A outer s H vs Q E hr h => ?_)
  · obtain ⟨n, p, rfl, _⟩ := h
    rfl
  · obtain ⟨n, p, rfl, hp, n1, n2, q⟩ := h
    refine ⟨_, (pss_cons (ps_if (pt_not (pt_val (pe_call (ok_is_between T) (hr.mono (by first | decide | omega)) (by rfl) T.g_is_between T.F_is_between.kp (T.b_is_between) .nil pass0 (pa_cons (pv 0) (pa_cons pe_int (pa_cons (pe_glob (v := .int 12) rfl T.g_MOST_OFFICES.choose_spec ⟨_, rfl⟩) pa_nil))))))
  (pss_one (ps_ret pe_str))
  pss_nil)
  (pss_cons (ps_if (PW.pt (pw_or (pt_not (pt_val (pe_callB (kIsi K rfl) (by rfl) T.z_isinstance (by decide +kernel) (pa_cons (pv 1) (pa_cons (pe_bltn (v := .ty "tuple") (by rfl) T.z_tuple (by decide +kernel) rfl) pa_nil))))) (pw_or1 (pt_cmpR op_gt (pe_callB (kLen K rfl) (by rfl) T.z_len (by decide +kernel) (pa_cons (pv 1) pa_nil)) (pe_glob (v := .int 60) rfl T.g_MOST_ROWS.choose_spec ⟨_, rfl⟩) (nomark _)))))
  (pss_one (ps_ret pe_str))
  pss_nil)
  (pss_cons (ps_for PassesOwn.never rfl (kiEnumT K rfl (by rfl) T.z_enumerate (pa_cons (pv 1) pa_nil)) (kgTup K rfl rfl (pgs_cons (pg_name (i := 3) sc_wrong_part.nd rfl (.inl rfl)) (pgs_cons (pg_name (i := 4) sc_wrong_part.nd rfl (.inl rfl)) pgs_nil)))
  (pss_one (ps_if (pt_not (pt_val (pe_callL (i := 2) (ok_is_row T) (hr.mono (by first | decide | omega)) (by rfl) (by first | exact Or.inl rfl | exact Or.inr (Or.inl rfl) | exact Or.inr (Or.inr rfl)) T.F_is_row.kp (T.b_is_row) .nil pass0 (pa_cons (pv 0) (pa_cons (pv 4) pa_nil)))))
  (pss_one (ps_ret (pv 3)))
  pss_nil)))
  (pss_one (ps_ret pe_non))))), ?_⟩
    walk_at "go"
    refine ⟨_, _, _, rfl, .inl ⟨_, rfl, ?_⟩⟩
    rw [decide_eq_true (show 1 ≤ n ∧ n ≤ 12 from ⟨n1, n2⟩)]
    walk_at "go"
    refine g_isi (TyX.tup hp) (b := true) (kit_ty (a := "tuple") (by decide +kernel)) ?_
    walk_at "go"
    refine ⟨_, _, rfl, .inr hp, ?_⟩
    walk_at "go"
    rw [decide_eq_false (show ¬ (60 : Int) < (([] : List V).length : Nat) by decide)]
    walk_at "go"
    refine ⟨p, [], rfl, hp, ?_⟩
    refine for_it (walk_enumT (K := K) (p := p) (xs := [])) (fun i σ H' => σ = [some (.int n), some (.ref p), some (.ref a.f_is_row), none, none] ∧ H' = H) ⟨rfl, rfl⟩ (fun i σ H' _ hP => ?_) (fun i z σ H1 H1' hi hP hy => ?_) (fun σ H' hP => ?_)
    · obtain ⟨_, rfl⟩ := hP
      exact hp
    · exact absurd hi (Nat.not_lt_zero i)
    · obtain ⟨rfl, rfl⟩ := hP
      walk_at "go"
      exact q
def sp_Log_init (K : PySem.W.Frag) (C : Addr) : Sp := fun vs H Q _ => ∃ x dx n p, vs = [.ref x, .int n, .ref p] ∧ H x = some (.ins C dx []) ∧ SqT K H p [] ∧ 1 ≤ n ∧ n ≤ 12 ∧ ∀ H', Fr x H H' → H' x = some (.ins C dx [("offices", .int n), ("rows", .ref p)]) → Q .non H'
theorem ok_Log_init (T : Txt K mg a) : FnOk P w K mg base CX0 7 a.f_Log_init a.d_Log_init ["self", "offices", "rows"] (sp_Log_init K a.c_Log) := by
  refine T.F_Log_init.ok sc_Log_init (fun vs H Q E h => ?_) (fun cdv A outer s H vs Q E hr h => ?_)
  · obtain ⟨x, dx, n, p, rfl, _⟩ := h
    rfl
  · obtain ⟨x, dx, n, p, rfl, hx, hp, n1, n2, q⟩ := h
    refine ⟨_, (pss_cons (ps_set (i := 3) sc_Log_init.nd rfl (.inl rfl) (pe_call (ok_wrong_part0 T) (hr.mono (by first | decide | omega)) (by rfl) T.g_wrong_part T.F_wrong_part.kp (T.b_wrong_part) .nil pass0 (pa_cons (pv 1) (pa_cons (pv 2) (pa_cons (pe_glob (v := .ref a.f_is_row) rfl T.g_is_row rfl) pa_nil)))))
  (pss_cons (ps_if (pt_cmpR op_notN (pv 3) pe_non (nomark _))
  (pss_one ps_never)
  pss_nil)
  (pss_cons (ksFld K rfl (pv 0) (pv 1) rfl)
  (pss_one (ksFld K rfl (pv 0) (pv 2) rfl))))), ?_⟩
    walk_at "go"
    refine ⟨n, p, rfl, hp, n1, n2, ?_⟩
    walk_at "go"
    refine ⟨rfl, ?_⟩
    rw [decide_eq_true (show V.non = V.non from rfl)]
    walk_at "go"
    refine ⟨x, _, dx, [], rfl, hx, T.cl_Log, T.n_Log_offices, by decide, ?_⟩
    walk_at "go"
    refine ⟨x, _, dx, _, rfl, upd_same, T.cl_Log, T.n_Log_rows, by show (1 : Nat) < 1000; decide, ?_⟩
    exact q _ (fun b o nb e => by rw [upd_ne nb, upd_ne nb]; exact e) upd_same

end

section
variable {P : Program} {w : World} {K : PySem.W.Frag} {mg : Str → Option Value} {base : Heap} {a : Ad}
/-! ### BadWeb(part), wrong_part, Log(offices, rows), of any things -/
def sp_BadWeb_init (K : PySem.W.Frag) (C : Addr) : Sp := fun vs H Q _ => ∃ e v, vs = [.ref e, v] ∧ H e = some (exo e C none) ∧ ∀ dx, H dx = none → dx ≠ e → Q .non (upd (upd H dx (exd dx [("part", v)])) e (exo e C (some dx)))
theorem ok_BadWeb_init (T : Txt K mg a) : FnOk P w K mg base CX0 1 a.f_BadWeb_init a.d_BadWeb_init ["self", "part"] (sp_BadWeb_init K a.c_BadWeb) := by
  refine T.F_BadWeb_init.ok sc_BadWeb_init (fun vs H Q E h => ?_) (fun cdv A outer s H vs Q E hr h => ?_)
  · obtain ⟨e, v, rfl, _⟩ := h
    rfl
  · obtain ⟨e, v, rfl, he, q⟩ := h
    refine ⟨_, (pss_one (ps_ost (pv 0) (pv 1))), ?_⟩
    walk_at "go"
    refine g_ost ?_
    walk_at "go"
    exact ⟨e, _, rfl, T.ox_BadWeb, T.nf_BadWeb_part, .inl ⟨he, fun dx n ne => q dx n ne⟩⟩
def sp_wrong_part (K : PySem.W.Frag) (C f : Addr) : Sp := fun vs H Q _ => ∃ d o v m sh, vs = [o, v, .ref f] ∧ Th K d C H o ∧ RowsV K d C H m v sh ∧ ∀ H', Same H H' → Q (partOf o sh) H'
theorem ok_wrong_part (T : Txt K mg a) : FnOk P w K mg base CX0 6 a.f_wrong_part a.d_wrong_part ["offices", "rows", "is_right"] (sp_wrong_part K a.c_Log a.f_is_copying) := by
  refine T.F_wrong_part.ok sc_wrong_part (fun vs H Q E h => ?_) (fun cdv A outer s H vs Q E hr h => ?_)
  · obtain ⟨d, o, v, m, sh, rfl, _⟩ := h
    rfl
  · obtain ⟨d, o, v, m, sh, rfl, ho, hv, q⟩ := h
    refine ⟨_, (pss_cons (ps_if (pt_not (pt_val (pe_call (ok_is_between T) (hr.mono (by first | decide | omega)) (by rfl) T.g_is_between T.F_is_between.kp (T.b_is_between) .nil pass0 (pa_cons (pv 0) (pa_cons pe_int (pa_cons (pe_glob (v := .int 12) rfl T.g_MOST_OFFICES.choose_spec ⟨_, rfl⟩) pa_nil))))))
  (pss_one (ps_ret pe_str))
  pss_nil)
  (pss_cons (ps_if (PW.pt (pw_or (pt_not (pt_val (pe_callB (kIsi K rfl) (by rfl) T.z_isinstance (by decide +kernel) (pa_cons (pv 1) (pa_cons (pe_bltn (v := .ty "tuple") (by rfl) T.z_tuple (by decide +kernel) rfl) pa_nil))))) (pw_or1 (pt_cmpR op_gt (pe_callB (kLen K rfl) (by rfl) T.z_len (by decide +kernel) (pa_cons (pv 1) pa_nil)) (pe_glob (v := .int 60) rfl T.g_MOST_ROWS.choose_spec ⟨_, rfl⟩) (nomark _)))))
  (pss_one (ps_ret pe_str))
  pss_nil)
  (pss_cons (ps_for PassesOwn.never rfl (kiEnumT K rfl (by rfl) T.z_enumerate (pa_cons (pv 1) pa_nil)) (kgTup K rfl rfl (pgs_cons (pg_name (i := 3) sc_wrong_part.nd rfl (.inl rfl)) (pgs_cons (pg_name (i := 4) sc_wrong_part.nd rfl (.inl rfl)) pgs_nil)))
  (pss_one (ps_if (pt_not (pt_val (pe_callL (i := 2) (ok_is_copying T) (hr.mono (by first | decide | omega)) (by rfl) (by first | exact Or.inl rfl | exact Or.inr (Or.inl rfl) | exact Or.inr (Or.inr rfl)) T.F_is_copying.kp (T.b_is_copying) .nil pass0 (pa_cons (pv 0) (pa_cons (pv 4) pa_nil)))))
  (pss_one (ps_ret (pv 3)))
  pss_nil)))
  (pss_one (ps_ret pe_non))))), ?_⟩
    walk_at "go"
    rcases ho.num (ownC T) with ⟨n, rfl⟩ | ⟨hne, hk⟩
    case inr =>
      refine ⟨_, _, _, rfl, .inr ⟨hk, ?_⟩⟩
      walk_at "go"
      rw [show partOf o sh = .str "offices" from by unfold partOf; rw [intV_none hne]] at q
      exact q _ (Same.refl _)
    by_cases hn : 1 ≤ n ∧ n ≤ 12
    case neg =>
      refine ⟨_, _, _, rfl, .inl ⟨_, rfl, ?_⟩⟩
      rw [decide_eq_false hn]
      walk_at "go"
      rw [show partOf (.int n) sh = .str "offices" from if_neg hn] at q
      exact q _ (Same.refl _)
    have hp1 : partOf (.int n) sh = partR n sh := if_pos hn
    rw [hp1] at q
    refine ⟨_, _, _, rfl, .inl ⟨_, rfl, ?_⟩⟩
    rw [decide_eq_true hn]
    walk_at "go"
    cases sh with
    | none =>
      obtain ⟨t, t1, t2⟩ := Nt.tup (ownC T) hv
      refine g_isi t1 t2 ?_
      walk_at "go"
      exact q _ (Same.refl _)
    | some pts =>
      obtain ⟨p, xs, rfl, hp, hx⟩ := hv
      have hl := hx.len
      refine g_isi (TyX.tup hp) (b := true) (kit_ty (a := "tuple") (by decide +kernel)) ?_
      walk_at "go"
      refine ⟨_, _, rfl, .inr hp, ?_⟩
      walk_at "go"
      rw [partR_some] at q
      by_cases h60 : 60 < pts.length
      · rw [if_pos h60] at q
        rw [decide_eq_true (show (60 : Int) < (xs.length : Nat) by omega)]
        walk_at "go"
        exact q _ (Same.refl _)
      rw [if_neg h60] at q
      rw [decide_eq_false (show ¬ (60 : Int) < (xs.length : Nat) by omega)]
      walk_at "go"
      refine ⟨p, xs, rfl, hp, ?_⟩
      refine for_it (walk_enumT (K := K) (p := p) (xs := xs)) (fun i σ H' => ∃ y3 y4, σ = [some (.int n), some (.ref p), some (.ref a.f_is_copying), y3, y4] ∧ Same H H' ∧ ∀ j pt, j < i → pts[j]? = some pt → copyB n pt = true) ⟨_, _, rfl, Same.refl _, fun j _ h => absurd h (Nat.not_lt_zero j)⟩ (fun i σ H' _ hP => ?_) (fun i z σ H1 H1' hi hP hy => ?_) (fun σ H' hP => ?_)
      · obtain ⟨y3, y4, _, s1, _⟩ := hP
        exact (Tx.of s1).seq hp
      · obtain ⟨y3, y4, rfl, s1, hb⟩ := hP
        obtain ⟨Tp, x1, y1, rfl, nT, rfl, e1, e2⟩ := hy
        cases e1
        have gp := List.getElem?_eq_getElem (show i < pts.length by have := (List.getElem?_eq_some_iff.mp e2).1; omega)
        generalize pts[i] = pt at gp
        have hpt := hx.get e2 gp
        refine ⟨Tp, _, rfl, SqT.new, rfl, _, _, rfl, _, _, rfl, rfl, ?_⟩
        walk_at "go"
        refine ⟨rfl, ?_⟩
        walk_at "go"
        have sT := s1.trans (same_new (o := .tup [V.int (i : Nat), y1]) nT)
        refine ⟨d, y1, n, m, pt, rfl, hpt.fr (Fr.of sT) (Tx.of sT) (Nat.le_refl _), ?_⟩
        cases hr1 : copyB n pt with
        | true =>
          walk_at "go"
          refine ⟨_, _, rfl, sT, fun j pt' hj gj => ?_⟩
          rcases Nat.lt_succ_iff_lt_or_eq.mp hj with hj | rfl
          · exact hb j pt' hj gj
          · rw [gp] at gj
            cases gj
            exact hr1
        | false =>
          walk_at "go"
          rw [first_at gp hr1 hb] at q
          exact q _ sT
      · obtain ⟨y3, y4, rfl, s1, hb⟩ := hP
        walk_at "go"
        rw [first_none (fun j pt hj => hb j pt (by have := (List.getElem?_eq_some_iff.mp hj).1; omega) hj)] at q
        exact q _ s1
def sp_Web_init (K : PySem.W.Frag) (C CL CB : Addr) : Sp := fun vs H Q E => ∃ x dx d o v m sh, vs = [.ref x, o, v] ∧ H x = some (.ins C dx []) ∧ Th K d CL H o ∧ RowsV K d CL H m v sh ∧
  ((partOf o sh = .non ∧ ∀ H', Fr x H H' → H' x = some (.ins C dx [("offices", o), ("rows", v)]) → Q .non H') ∨ (partOf o sh ≠ .non ∧ ∀ H' dd, Same H H' → H' dd = some (.xd [("part", partOf o sh)]) → E (.ref CB) (some dd) H'))
theorem ok_Web_init (T : Txt K mg a) : FnOk P w K mg base (L2.CX P w) 7 a.f_Web_init a.d_Web_init ["self", "offices", "rows"] (sp_Web_init K a.c_Web a.c_Log a.c_BadWeb) := by
  refine T.F_Web_init.okX sc_Web_init (fun vs H Q E h => ?_) (fun cdv A outer s H vs Q E hr h => ?_)
  · obtain ⟨x, dx, d, o, v, m, sh, rfl, _⟩ := h
    rfl
  · obtain ⟨x, dx, d, o, v, m, sh, rfl, hx, ho, hv, q⟩ := h
    refine ⟨_, (pss_cons (ps_set (i := 3) sc_Web_init.nd rfl (.inl rfl) (pe_call (ok_wrong_part T) (hr.mono (by first | decide | omega)) (by rfl) T.g_wrong_part T.F_wrong_part.kp (T.b_wrong_part) .nil pass0 (pa_cons (pv 1) (pa_cons (pv 2) (pa_cons (pe_glob (v := .ref a.f_is_copying) rfl T.g_is_copying rfl) pa_nil)))))
  (pss_cons (ps_if (pt_cmpR op_notN (pv 3) pe_non (nomark _))
  (pss_one (ps_raise rfl (takes_of rfl rfl rfl rfl) (pmk_oex T.ox_BadWeb T.oi_BadWeb T.ot_BadWeb (ok_BadWeb_init T) (hr.mono (by first | decide | omega)) T.b_BadWeb_init .nil pass0 (by rfl) T.gc_BadWeb (pa_cons (pv 3) pa_nil))))
  pss_nil)
  (pss_cons (ksFld K rfl (pv 0) (pv 1) rfl)
  (pss_one (ksFld K rfl (pv 0) (pv 2) rfl))))), ?_⟩
    walk_at "go"
    refine ⟨d, o, v, m, sh, rfl, ho, hv, fun H1 s1 => ?_⟩
    walk_at "go"
    generalize partOf o sh = pv at q
    refine ⟨rfl, ?_⟩
    rcases q with ⟨rfl, q⟩ | ⟨hne, q⟩
    · rw [decide_eq_true (show V.non = V.non from rfl)]
      walk_at "go"
      refine ⟨x, _, dx, [], rfl, s1 _ _ hx, T.cl_Web, T.n_Web_offices, by decide, ?_⟩
      walk_at "go"
      refine ⟨x, _, dx, _, rfl, upd_same, T.cl_Web, T.n_Web_rows, by show (1 : Nat) < 1000; decide, ?_⟩
      exact q _ (fun b o nb e => by rw [upd_ne nb, upd_ne nb]; exact s1 b o e) upd_same
    · rw [decide_eq_false hne]
      walk_at "go"
      refine g_mko ?_
      walk_at "go"
      refine ⟨by show 1 ≤ 1000; decide, fun e ne => ⟨e, pv, rfl, upd_same, fun dd n nd => ⟨rfl, dd, _, upd_same, ?_, ?_, q _ dd (fun b o hb => ?_) upd_same⟩⟩⟩
      · rw [upd_ne nd, upd_same]
      · rw [upd_ne nd] at n
        exact n
      · have hb1 := s1 b o hb
        have be : b ≠ e := fun z => by rw [z, ne] at hb1; cases hb1
        have bd : b ≠ dd := fun z => by
          rw [upd_ne nd] at n
          rw [z, n] at hb1
          cases hb1
        rw [upd_ne bd, del_ne be, upd_ne be, upd_ne bd, upd_ne be]
        exact hb1

end

section
variable {P : Program} {w : World} {K : PySem.W.Frag} {mg : Str → Option Value} {base : Heap} {a : Ad}
/-! ### the law's own look at rows and webs -/
def numB (lo hi : Int) : V → Bool
  | .int i => decide (lo ≤ i ∧ i ≤ hi)
  | _ => false
theorem numB_not {lo hi : Int} {v : V} (h : ∀ i, v ≠ .int i) : numB lo hi v = false := by
  cases v <;> first | rfl | exact absurd rfl (h _)
def sp_law_is_number (K : PySem.W.Frag) (C : Addr) : Sp := fun vs H Q _ => ∃ d v lo hi, vs = [v, .int lo, .int hi] ∧ Th K d C H v ∧ Q (.bl (numB lo hi v)) H
theorem ok_law_is_number (T : Txt K mg a) : FnOk P w K mg base CX0 1 a.f_law_is_number a.d_law_is_number ["_law_thing", "_law_least", "_law_most"] (sp_law_is_number K a.c_Log) := by
  refine T.F_law_is_number.ok sc_law_is_number (fun vs H Q E h => ?_) (fun cdv A outer s H vs Q E hr h => ?_)
  · obtain ⟨d, v, lo, hi, rfl, _⟩ := h
    rfl
  · obtain ⟨d, v, lo, hi, rfl, hv, q⟩ := h
    refine ⟨_, (pss_one (ps_ret (pe_and (pe_callB (kIsi K rfl) (by rfl) T.z_isinstance (by decide +kernel) (pa_cons (pv 0) (pa_cons (pe_bltn (v := .ty "int") (by rfl) T.z_int (by decide +kernel) rfl) pa_nil))) (pe_and (pe_not (pe_callB (kIsi K rfl) (by rfl) T.z_isinstance (by decide +kernel) (pa_cons (pv 0) (pa_cons (pe_bltn (v := .ty "bool") (by rfl) T.z_bool (by decide +kernel) rfl) pa_nil)))) (pe_one (pe_chain op_le op_le (pv 1) (pv 0) (pv 2))))))), ?_⟩
    rcases hv.num (ownC T) with ⟨i, rfl⟩ | ⟨hne, t, b1, b2, ty, k1, k2, e⟩
    · walk_at "go"
      refine g_isi (b := true) (.base (.int _)) (kit_ty (a := "int") (by decide +kernel)) ?_
      walk_at "go"
      refine g_isi (b := false) (.base (.int _)) (kit_ty (a := "int") (by decide +kernel)) ?_
      walk_at "go"
      have q' : Q (.bl (decide (lo ≤ i ∧ i ≤ hi))) H := q
      refine g_ite (fun e1 => ?_) (fun e1 => ?_)
      · walk_at "go"
        rw [show decide (i ≤ hi) = decide (lo ≤ i ∧ i ≤ hi) from by simp [e1]]
        exact q'
      · walk_at "go"
        rw [show false = decide (lo ≤ i ∧ i ≤ hi) from by simp [e1]]
        exact q'
    · rw [numB_not hne] at q
      walk_at "go"
      refine g_isi ty k1 ?_
      cases b1 with
      | false =>
        walk_at "go"
        exact q
      | true =>
        cases b2 with
        | false => cases e
        | true =>
          walk_at "go"
          refine g_isi ty k2 ?_
          walk_at "go"
          exact q
theorem copyB_0 {n : Int} {x0 x1 x2 : V} (h : numB 0 (n - 1) x0 = false) : copyB n (some [x0, x1, x2]) = false := by
  unfold copyB intV
  cases x0 <;> try rfl
  have h' := of_decide_eq_false h
  cases x1 <;> try rfl
  cases x2 <;> try rfl
  exact decide_eq_false (fun z => h' (by omega))
theorem copyB_1 {n : Int} {x0 x1 x2 : V} (h : numB 0 (n - 1) x1 = false) : copyB n (some [x0, x1, x2]) = false := by
  unfold copyB intV
  cases x1 <;> cases x0 <;> try rfl
  have h' := of_decide_eq_false h
  cases x2 <;> try rfl
  exact decide_eq_false (fun z => h' (by omega))
theorem copyB_2 {n : Int} {x0 x1 x2 : V} (h : ∀ i, x2 ≠ .bl i) : copyB n (some [x0, x1, x2]) = false := by
  unfold copyB
  cases x0 <;> cases x1 <;> cases x2 <;> first | rfl | exact absurd rfl (h _)
theorem of_numB {lo hi : Int} {v : V} (h : numB lo hi v = true) : ∃ i, v = .int i ∧ lo ≤ i ∧ i ≤ hi := by
  cases v <;> first | exact ⟨_, rfl, (of_decide_eq_true h).1, (of_decide_eq_true h).2⟩ | cases h
def sp_law_is_row (K : PySem.W.Frag) (C : Addr) : Sp := fun vs H Q _ => ∃ d v n m pt, vs = [.int n, v] ∧ PartV K d C H m v pt ∧ Q (.bl (copyB n pt)) H
theorem ok_law_is_row (T : Txt K mg a) : FnOk P w K mg base CX0 2 a.f_law_is_row a.d_law_is_row ["_law_offices", "_law_thing"] (sp_law_is_row K a.c_Log) := by
  refine T.F_law_is_row.ok sc_law_is_row (fun vs H Q E h => ?_) (fun cdv A outer s H vs Q E hr h => ?_)
  · obtain ⟨d, v, n, m, pt, rfl, _⟩ := h
    rfl
  · obtain ⟨d, v, n, m, pt, rfl, hv, q⟩ := h
    refine ⟨_, (pss_cons (ps_if (PW.pt (pw_or (pt_not (pt_val (pe_callB (kIsi K rfl) (by rfl) T.z_isinstance (by decide +kernel) (pa_cons (pv 1) (pa_cons (pe_bltn (v := .ty "tuple") (by rfl) T.z_tuple (by decide +kernel) rfl) pa_nil))))) (pw_or (pt_cmpR op_ne (pe_callB (kLen K rfl) (by rfl) T.z_len (by decide +kernel) (pa_cons (pv 1) pa_nil)) pe_int (nomark _)) (pw_or1 (pt_not (pt_val (pe_callB (kIsi K rfl) (by rfl) T.z_isinstance (by decide +kernel) (pa_cons (pe_ix (kIxT K rfl) (pv 1) pe_int (fun _ _ => rfl)) (pa_cons (pe_bltn (v := .ty "bool") (by rfl) T.z_bool (by decide +kernel) rfl) pa_nil)))))))))
  (pss_one (ps_ret pe_bl))
  pss_nil)
  (pss_cons (ps_if (PW.pt (pw_or (pt_not (pt_val (pe_call (ok_law_is_number T) (hr.mono (by first | decide | omega)) (by rfl) T.g_law_is_number T.F_law_is_number.kp (T.b_law_is_number) .nil pass0 (pa_cons (pe_ix (kIxT K rfl) (pv 1) pe_int (fun _ _ => rfl)) (pa_cons pe_int (pa_cons (pe_op op_sub (pv 0) pe_int) pa_nil)))))) (pw_or1 (pt_not (pt_val (pe_call (ok_law_is_number T) (hr.mono (by first | decide | omega)) (by rfl) T.g_law_is_number T.F_law_is_number.kp (T.b_law_is_number) .nil pass0 (pa_cons (pe_ix (kIxT K rfl) (pv 1) pe_int (fun _ _ => rfl)) (pa_cons pe_int (pa_cons (pe_op op_sub (pv 0) pe_int) pa_nil)))))))))
  (pss_one (ps_ret pe_bl))
  pss_nil)
  (pss_one (ps_ret (pe_cmpR op_ne (pe_ix (kIxT K rfl) (pv 1) pe_int (fun _ _ => rfl)) (pe_ix (kIxT K rfl) (pv 1) pe_int (fun _ _ => rfl)) (nomark _)))))), ?_⟩
    walk_at "go"
    cases pt with
    | none =>
      obtain ⟨t, t1, t2⟩ := Nt.tup (ownC T) hv
      refine g_isi t1 t2 ?_
      walk_at "go"
      exact q
    | some ys =>
      obtain ⟨p, rfl, hp, _, hth⟩ := hv
      refine g_isi (TyX.tup hp) (b := true) (kit_ty (a := "tuple") (by decide +kernel)) ?_
      walk_at "go"
      refine ⟨_, _, rfl, .inr hp, ?_⟩
      walk_at "go"
      by_cases h3 : ((ys.length : Nat) : Int) = 3
      case neg =>
        rw [decide_eq_false h3]
        rw [not3 h3] at q
        walk_at "go"
        exact q
      obtain ⟨x0, x1, x2, rfl⟩ := of3 h3
      rw [decide_eq_true h3]
      have h0 := hth x0 (by simp)
      have h1 := hth x1 (by simp)
      have h2 := hth x2 (by simp)
      walk_at "go"
      refine g_ixT hp (v := x2) rfl ?_
      walk_at "go"
      rcases h2.bool (ownC T) with ⟨b, rfl⟩ | ⟨n2, t, t1, t2⟩
      case inr =>
        refine g_isi t1 t2 ?_
        rw [copyB_2 n2] at q
        walk_at "go"
        exact q
      refine g_isi (b := true) (.base (.bl _)) (kit_ty (a := "bool") (by decide +kernel)) ?_
      walk_at "go"
      refine g_ixT hp (v := x0) rfl ?_
      walk_at "go"
      refine ⟨d, x0, _, _, rfl, h0, ?_⟩
      cases b0 : numB 0 (n - 1) x0 with
      | false =>
        rw [copyB_0 b0] at q
        walk_at "go"
        exact q
      | true =>
      walk_at "go"
      refine g_ixT hp (v := x1) rfl ?_
      walk_at "go"
      refine ⟨d, x1, _, _, rfl, h1, ?_⟩
      cases b1 : numB 0 (n - 1) x1 with
      | false =>
        rw [copyB_1 b1] at q
        walk_at "go"
        exact q
      | true =>
      obtain ⟨i, rfl, i0, i1⟩ := of_numB b0
      obtain ⟨j, rfl, j0, j1⟩ := of_numB b1
      walk_at "go"
      refine g_ixT hp (v := .int i) rfl ?_
      walk_at "go"
      refine g_ixT hp (v := .int j) rfl ?_
      have q' : Q (.bl (decide (0 ≤ i ∧ i < n ∧ 0 ≤ j ∧ j < n ∧ i ≠ j))) H := q
      walk_at "go"
      rw [show (!decide (i = j)) = decide (0 ≤ i ∧ i < n ∧ 0 ≤ j ∧ j < n ∧ i ≠ j) from by
        by_cases e : i = j
        · rw [decide_eq_true e, decide_eq_false (fun z => z.2.2.2.2 e)]
          rfl
        · rw [decide_eq_false e, decide_eq_true ⟨i0, by omega, j0, by omega, e⟩]
          rfl]
      exact q'
def sp_law_due (K : PySem.W.Frag) (C : Addr) : Sp := fun vs H Q _ => ∃ d o v m sh, vs = [o, v] ∧ Th K d C H o ∧ RowsV K d C H m v sh ∧ (∀ pts, sh = some pts → pts.length ≤ 1000) ∧ ∀ H', Same H H' → Q (partOf o sh) H'
theorem ok_law_due (T : Txt K mg a) : FnOk P w K mg base CX0 3 a.f_law_due a.d_law_due ["_law_offices", "_law_rows"] (sp_law_due K a.c_Log) := by
  refine T.F_law_due.ok sc_law_due (fun vs H Q E h => ?_) (fun cdv A outer s H vs Q E hr h => ?_)
  · obtain ⟨d, o, v, m, sh, rfl, _⟩ := h
    rfl
  · obtain ⟨d, o, v, m, sh, rfl, ho, hv, hmax, q⟩ := h
    refine ⟨_, (pss_cons (ps_if (pt_not (pt_val (pe_call (ok_law_is_number T) (hr.mono (by first | decide | omega)) (by rfl) T.g_law_is_number T.F_law_is_number.kp (T.b_law_is_number) .nil pass0 (pa_cons (pv 0) (pa_cons pe_int (pa_cons pe_int pa_nil))))))
  (pss_one (ps_ret pe_str))
  pss_nil)
  (pss_cons (ps_if (PW.pt (pw_or (pt_not (pt_val (pe_callB (kIsi K rfl) (by rfl) T.z_isinstance (by decide +kernel) (pa_cons (pv 1) (pa_cons (pe_bltn (v := .ty "tuple") (by rfl) T.z_tuple (by decide +kernel) rfl) pa_nil))))) (pw_or1 (pt_cmpR op_gt (pe_callB (kLen K rfl) (by rfl) T.z_len (by decide +kernel) (pa_cons (pv 1) pa_nil)) pe_int (nomark _)))))
  (pss_one (ps_ret pe_str))
  pss_nil)
  (pss_cons (ps_for PassesOwn.never rfl (kiEnumT K rfl (by rfl) T.z_enumerate (pa_cons (pv 1) pa_nil)) (kgTup K rfl rfl (pgs_cons (pg_name (i := 2) sc_law_due.nd rfl (.inl rfl)) (pgs_cons (pg_name (i := 3) sc_law_due.nd rfl (.inl rfl)) pgs_nil)))
  (pss_one (ps_if (pt_not (pt_val (pe_call (ok_law_is_row T) (hr.mono (by first | decide | omega)) (by rfl) T.g_law_is_row T.F_law_is_row.kp (T.b_law_is_row) .nil pass0 (pa_cons (pv 0) (pa_cons (pv 3) pa_nil)))))
  (pss_one (ps_ret (pv 2)))
  pss_nil)))
  (pss_one (ps_ret pe_non))))), ?_⟩
    walk_at "go"
    refine ⟨d, o, 1, 12, rfl, ho, ?_⟩
    cases bo : numB 1 12 o with
    | false =>
      walk_at "go"
      rw [show partOf o sh = .str "offices" from by
        unfold partOf
        cases o <;> first | rfl | exact if_neg (of_decide_eq_false bo)] at q
      exact q _ (Same.refl _)
    | true =>
    obtain ⟨n, rfl, n1, n2⟩ := of_numB bo
    walk_at "go"
    rw [show partOf (.int n) sh = partR n sh from if_pos ⟨n1, n2⟩] at q
    cases sh with
    | none =>
      obtain ⟨t, t1, t2⟩ := Nt.tup (ownC T) hv
      refine g_isi t1 t2 ?_
      walk_at "go"
      exact q _ (Same.refl _)
    | some pts =>
      obtain ⟨p, xs, rfl, hp, hx⟩ := hv
      have hl := hx.len
      have hm := hmax pts rfl
      refine g_isi (TyX.tup hp) (b := true) (kit_ty (a := "tuple") (by decide +kernel)) ?_
      walk_at "go"
      refine ⟨_, _, rfl, .inr hp, ?_⟩
      walk_at "go"
      rw [partR_some] at q
      by_cases h60 : 60 < pts.length
      · rw [if_pos h60] at q
        rw [decide_eq_true (show (60 : Int) < (xs.length : Nat) by omega)]
        walk_at "go"
        exact q _ (Same.refl _)
      rw [if_neg h60] at q
      rw [decide_eq_false (show ¬ (60 : Int) < (xs.length : Nat) by omega)]
      walk_at "go"
      refine ⟨p, xs, rfl, hp, ?_⟩
      refine for_it (walk_enumT (K := K) (p := p) (xs := xs)) (fun i σ H' => ∃ y3 y4, σ = [some (.int n), some (.ref p), y3, y4] ∧ Same H H' ∧ ∀ j pt, j < i → pts[j]? = some pt → copyB n pt = true) ⟨_, _, rfl, Same.refl _, fun j _ h => absurd h (Nat.not_lt_zero j)⟩ (fun i σ H' _ hP => ?_) (fun i z σ H1 H1' hi hP hy => ?_) (fun σ H' hP => ?_)
      · obtain ⟨y3, y4, _, s1, _⟩ := hP
        exact (Tx.of s1).seq hp
      · obtain ⟨y3, y4, rfl, s1, hb⟩ := hP
        obtain ⟨Tp, x1, y1, rfl, nT, rfl, e1, e2⟩ := hy
        cases e1
        have gp := List.getElem?_eq_getElem (show i < pts.length by have := (List.getElem?_eq_some_iff.mp e2).1; omega)
        generalize pts[i] = pt at gp
        have hpt := hx.get e2 gp
        refine ⟨Tp, _, rfl, SqT.new, rfl, _, _, rfl, _, _, rfl, rfl, ?_⟩
        walk_at "go"
        have sT := s1.trans (same_new (o := .tup [V.int (i : Nat), y1]) nT)
        refine ⟨d, y1, n, m, pt, rfl, hpt.fr (Fr.of sT) (Tx.of sT) (Nat.le_refl _), ?_⟩
        cases hr1 : copyB n pt with
        | true =>
          walk_at "go"
          refine ⟨_, _, rfl, sT, fun j pt' hj gj => ?_⟩
          rcases Nat.lt_succ_iff_lt_or_eq.mp hj with hj | rfl
          · exact hb j pt' hj gj
          · rw [gp] at gj
            cases gj
            exact hr1
        | false =>
          walk_at "go"
          rw [first_at gp hr1 hb] at q
          exact q _ sT
      · obtain ⟨y3, y4, rfl, s1, hb⟩ := hP
        walk_at "go"
        rw [first_none (fun j pt hj => hb j pt (by have := (List.getElem?_eq_some_iff.mp hj).1; omega) hj)] at q
        exact q _ s1
/-- of an own class above another one -/
theorem kit_up {K : PySem.W.Frag} {C D : Addr} (h1 : PySem.W.subIn K (.ref C) (.ref D) = some true) (h3 : PySem.W.subIn K (.ref D) (.ref D) = some true) (h4 : PySem.W.typeIn K (.ref D) = some (.type "type")) :
    PySem.W.kitOne K (.ref C) (.ref D) = some true := by
  unfold PySem.W.kitOne PySem.W.kitCls
  by_cases e : ((Value.ref C == Value.ref D) = true)
  · rw [if_pos e]
  rw [if_neg e]
  have h5 : (PySem.W.clsIn K D).isSome = true := by
    have h3' : PySem.W.mroIn K D (.ref D) = some true := h3
    unfold PySem.W.mroIn at h3'
    cases e : PySem.W.clsIn K D with
    | none => rw [e] at h3'; cases h3'
    | some c => rfl
  show (if ((PySem.W.clsIn K D).isSome && PySem.W.typeIn K (.ref D) == some (.type "type")) = true then PySem.W.subIn K (.ref C) (.ref D) else none) = some true
  rw [h5, h4, if_pos (by first | rfl | decide | simp)]
  exact h1
def sp_law_made (K : PySem.W.Frag) (C CW : Addr) : Sp := fun vs H Q _ => ∃ d o v m sh, vs = [o, v] ∧ Th K d C H o ∧ RowsV K d C H m v sh ∧
  ((partOf o sh = .non ∧ ∀ H' t x dx n p rs, o = .int n → v = .ref p → Dp K H' v (rowsD rs) → Same H H' → rs.length ≤ 60 → SqT K H' t [.str (Str.ofString "web"), .ref x, .bl true] → H' x = some (.ins CW dx [("offices", o), ("rows", v)]) → Q (.ref t) H') ∨
   (partOf o sh ≠ .non ∧ ∀ H' t, Same H H' → SqT K H' t [.str (Str.ofString "bad"), partOf o sh, .bl true] → Q (.ref t) H'))
theorem g_xf {ea : Addr} {cls : Value} {de : Option Addr} {C : Addr} {f : Str} {te : TE} {σ : L2.St} {H : Hp} {Q : VK} (q : te σ H fun x H1 => x = .ref ea ∧ cls = .ref C ∧ ∃ (dd : Addr) (fs : List (Str × V)) (v : V), de = some dd ∧ H1 dd = some (.xd fs) ∧ fs.lookup f = some v ∧ Q v H1) : tXf ea cls de C f te σ H Q := q
set_option maxHeartbeats 4000000 in
theorem ok_law_made (T : Txt K mg a) : FnOk P w K mg base CX0 9 a.f_law_made a.d_law_made ["_law_offices", "_law_rows"] (sp_law_made K a.c_Log a.c_Web) := by
  refine T.F_law_made.ok sc_law_made (fun vs H Q E h => ?_) (fun cdv A outer s H vs Q E hr h => ?_)
  · obtain ⟨d, o, v, m, sh, rfl, _⟩ := h
    rfl
  · obtain ⟨d, o, v, m, sh, rfl, ho, hv, q⟩ := h
    refine ⟨_, (pss_cons (ps_set (i := 2) sc_law_made.nd rfl (.inl rfl) (pe_tup (pa_cons pe_str (pa_cons pe_non (pa_cons pe_bl pa_nil)))))
  (pss_cons (ps_try_as (i := 3) rfl rfl sc_law_made.nd rfl rfl ⟨rfl, by decide, .inl T.gc_BadWeb⟩ takes0 (fun W pn xe tk _ => (pss_one (ps_set (i := 2) sc_law_made.nd rfl (.inl rfl) (pe_tup (pa_cons pe_str (pa_cons (pe_makeS T.mk_Web (ok_Web_init T) (hr.mono (by first | decide | omega)) (by rfl) T.gc_Web T.b_Web_init (fun σ => passAt tk σ) (pa_cons (pv 0) (pa_cons (pv 1) pa_nil))) (pa_cons pe_bl pa_nil)))))))
  (fun ea oe cls de pn hz hf => (pss_one (ps_set (i := 2) sc_law_made.nd rfl (.inl rfl) (pe_tup (pa_cons pe_str (pa_cons (pe_xf T.xf_BadWeb T.nf_BadWeb_part hz hf (pv 3)) (pa_cons (pe_and (pe_callB (call_isX hz hf) (by rfl) T.z_isinstance (by decide +kernel) (pa_cons (pv 3) (pa_cons (pe_glob (v := .ref a.c_SheetError) rfl T.gc_SheetError rfl) pa_nil))) (pe_and (pe_callB (call_isX hz hf) (by rfl) T.z_isinstance (by decide +kernel) (pa_cons (pv 3) (pa_cons (pe_bltn (v := .ty "ValueError") (by rfl) T.z_ValueError (by decide +kernel) rfl) pa_nil))) (pe_one (pe_not (pe_callB (call_isX hz hf) (by rfl) T.z_isinstance (by decide +kernel) (pa_cons (pv 3) (pa_cons (pe_glob (v := .ref a.c_BadLog) rfl T.gc_BadLog rfl) pa_nil))))))) pa_nil))))))))
  (pss_one (ps_ret (pv 2))))), ?_⟩
    walk_at "go"
    refine ⟨by show 3 ≤ sizeLine; decide, fun t0 n0 => ?_⟩
    have s0 := same_new (o := .tup [.str (Str.ofString "odd"), .non, .bl false]) n0
    walk_at "go"
    refine g_makeS ?_
    walk_at "go"
    intro x dx nx ndx nxd
    have sx0 := (same_new (o := .own x) ndx).trans (same_new (o := .ins a.c_Web dx []) (by rw [upd_ne nxd.symm]; exact nx))
    have sx := s0.trans sx0
    refine ⟨x, dx, d, o, v, m, sh, rfl, upd_same, ho.fr (Fr.of sx) (Tx.of sx), hv.fr (Fr.of sx) (Tx.of sx) (Nat.le_refl _), ?_⟩
    rcases q with ⟨hpn, q⟩ | ⟨hpn, q⟩
    · refine .inl ⟨hpn, fun H2 f2 hx2 => ⟨rfl, ?_⟩⟩
      obtain ⟨n, rs, rfl, hrs, hrl⟩ := of_partNon hv hpn
      obtain ⟨p, xs, rfl, hp, ha⟩ := of_tup hrs
      have s2 : Same H H2 := fun b o e => f2 b o (fun z => by
        have e1 := s0 b o e
        rw [z, nx] at e1
        cases e1) (sx b o e)
      have hrs2 := Dp.same s2 _ _ hrs
      walk_at "go"
      refine ⟨by show 3 ≤ sizeLine; decide, fun t1 n1 => ?_⟩
      walk_at "go"
      have s1 := same_new (o := .tup [.str (Str.ofString "web"), .ref x, .bl true]) n1
      exact q _ t1 x dx n p rs rfl rfl (Dp.same s1 _ _ hrs2) (s2.trans s1) hrl SqT.new (s1 _ _ hx2)
    · refine .inr ⟨hpn, fun H2 dd s2 hdd => ?_⟩
      refine ⟨true, T.ex_BadWeb_BadWeb, fun _ e he => ?_, fun z => nomatch z⟩
      walk_at "go"
      refine g_xf ?_
      walk_at "go"
      refine ⟨rfl, rfl, dd, _, partOf o sh, rfl, hdd, rfl, ?_⟩
      walk_at "go"
      refine ⟨_, _, _, true, rfl, rfl, T.xc_BadWeb, fun u r => r, fun dd' e => by cases e; exact ⟨_, hdd⟩, kit_up T.kS T.sS T.tS, ?_⟩
      walk_at "go"
      refine ⟨_, _, _, true, rfl, rfl, T.xc_BadWeb, fun u r => r, fun dd' e => by cases e; exact ⟨_, hdd⟩, kit_own (by decide +kernel) T.ki_BadWeb_ValueError, ?_⟩
      walk_at "go"
      refine ⟨_, _, _, false, rfl, rfl, T.xc_BadWeb, fun u r => r, fun dd' e => by cases e; exact ⟨_, hdd⟩, kit_two T.kL T.sW T.sL T.tL, ?_⟩
      walk_at "go"
      refine ⟨by show 3 ≤ sizeLine; decide, fun t2 n2 => ?_⟩
      walk_at "go"
      exact q _ _ ((sx.trans s2).trans (same_new n2)) SqT.new
/-- whether a web keeps what it was made of -/
def sp_law_keeps (K : PySem.W.Frag) (CW : Addr) : Sp := fun vs H Q _ => ∃ x dx n p rs, vs = [.ref x, .int n, .ref p] ∧ H x = some (.ins CW dx [("offices", .int n), ("rows", .ref p)]) ∧ Dp K H (.ref p) (rowsD rs) ∧ rs.length ≤ 60 ∧ ∀ H', Same H H' → Q (.bl true) H'
theorem ok_law_keeps (T : Txt K mg a) : FnOk P w K mg base CX0 1 a.f_law_keeps a.d_law_keeps ["_law_web", "_law_offices", "_law_rows"] (sp_law_keeps K a.c_Web) := by
  refine T.F_law_keeps.ok sc_law_keeps (fun vs H Q E h => ?_) (fun cdv A outer s H vs Q E hr h => ?_)
  · obtain ⟨x, dx, n, p, rs, rfl, _⟩ := h
    rfl
  · obtain ⟨x, dx, n, p, rs, rfl, hx, hrs, hl60, q⟩ := h
    obtain ⟨_, xs, e, hp, ha⟩ := of_tup hrs
    cases e
    have hl := DpAll.len ha
    rw [List.length_map] at hl
    refine ⟨_, (pss_cons (ps_if (PW.pt (pw_or (pt_val (pe_callB (kIsi K rfl) (by rfl) T.z_isinstance (by decide +kernel) (pa_cons (kpFld K rfl (pv 0) rfl) (pa_cons (pe_bltn (v := .ty "bool") (by rfl) T.z_bool (by decide +kernel) rfl) pa_nil)))) (pw_or1 (pt_cmpR op_ne (kpFld K rfl (pv 0) rfl) (pv 1) (nomark _)))))
  (pss_one (ps_ret pe_bl))
  pss_nil)
  (pss_cons (ps_if (PW.pt (pw_or (pt_not (pt_val (pe_callB (kIsi K rfl) (by rfl) T.z_isinstance (by decide +kernel) (pa_cons (kpFld K rfl (pv 0) rfl) (pa_cons (pe_bltn (v := .ty "tuple") (by rfl) T.z_tuple (by decide +kernel) rfl) pa_nil))))) (pw_or1 (pt_cmpR (kNeD K rfl hr.units) (kpFld K rfl (pv 0) rfl) (pv 2) (nomark _)))))
  (pss_one (ps_ret pe_bl))
  pss_nil)
  (pss_one (ps_ret (pe_callB (kAll K rfl rfl) (by rfl) T.z_all (by decide +kernel) (pa_cons (pe_lc (own := [("_law_row", 3)]) (g := (gName 3)) rfl sc_law_keeps.nd (kiTup K rfl (kpFld K rfl (pv 0) rfl)) (blkOk_by (own := [("_law_row", 3)]) (N := ["_law_web", "_law_offices", "_law_rows", "_law_row"]) (sc := defScope s_law_keeps) (by decide +kernel)) (fun _ _ _ _ _ => (pg_name (i := 3) sc_law_keeps.nd rfl (.inl rfl))) (fun _ _ _ _ _ => pts_nil) (fun _ _ _ _ _ => (pe_and (pe_callB (kIsi K rfl) (by rfl) T.z_isinstance (by decide +kernel) (pa_cons (pv 3) (pa_cons (pe_bltn (v := .ty "tuple") (by rfl) T.z_tuple (by decide +kernel) rfl) pa_nil))) (pe_one (pe_callB (kIsi K rfl) (by rfl) T.z_isinstance (by decide +kernel) (pa_cons (pe_ix (kIxT K rfl) (pv 3) pe_int (fun _ _ => rfl)) (pa_cons (pe_bltn (v := .ty "bool") (by rfl) T.z_bool (by decide +kernel) rfl) pa_nil))))))) pa_nil)))))), ?_⟩
    walk_at "go"
    refine ⟨_, _, _, _, _, rfl, hx, T.cl_Web, T.n_Web_offices, rfl, ?_⟩
    walk_at "go"
    refine g_isi (b := false) (.base (.int _)) (kit_ty (a := "int") (by decide +kernel)) ?_
    walk_at "go"
    refine ⟨_, _, _, _, _, rfl, hx, T.cl_Web, T.n_Web_offices, rfl, ?_⟩
    walk_at "go"
    rw [decide_eq_true (show n = n from rfl)]
    walk_at "go"
    refine ⟨_, _, _, _, _, rfl, hx, T.cl_Web, T.n_Web_rows, rfl, ?_⟩
    walk_at "go"
    refine g_isi (TyX.tup hp) (b := true) (kit_ty (a := "tuple") (by decide +kernel)) ?_
    walk_at "go"
    refine ⟨_, _, _, _, _, rfl, hx, T.cl_Web, T.n_Web_rows, rfl, ?_⟩
    walk_at "go"
    refine ⟨_, _, hrs, hrs, shaped_rowsD rs, shaped_rowsD rs, ?_⟩
    rw [eqv_self (shaped_rowsD rs)]
    walk_at "go"
    refine ⟨_, _, _, _, _, rfl, hx, T.cl_Web, T.n_Web_rows, rfl, ?_⟩
    walk_at "go"
    refine ⟨p, rfl, ⟨_, hp⟩, fun D nD => ?_⟩
    refine lc_same (H0 := H) (walk_tup (K := K) (a := p) (xs := xs)) (fun i => (List.replicate i true).map V.bl) rfl (fun i hi => ?_) (Same.refl H) nD nD (fun H' s => (Tx.of s).seq hp) (fun i x1 H2 H3 C Cn hi s hy hC hN => ?_) (fun H' s hD => ?_)
    · rw [List.length_map, List.length_replicate]
      exact small100k (by omega)
    · obtain ⟨rfl, hxx⟩ := hy
      obtain ⟨dd, gd, rd⟩ := DpAll.get (Dp.sameAll s _ _ ha) hxx
      obtain ⟨r, gr, rfl⟩ := map_at gd
      obtain ⟨rp, rfl, hrp⟩ := of_row rd
      refine ⟨rfl, ?_⟩
      walk_at "go"
      refine g_isi (TyX.tup hrp) (b := true) (kit_ty (a := "tuple") (by decide +kernel)) ?_
      walk_at "go"
      refine g_ixT hrp (v := .bl r.2.2) rfl ?_
      refine g_isi (b := true) (.base (.bl _)) (kit_ty (a := "bool") (by decide +kernel)) ?_
      exact hC _ _ (Same.refl _) (by rw [List.replicate_succ', List.map_append]; rfl)
    · walk_at "go"
      refine ⟨D, _, rfl, SqL.at hD, ?_⟩
      rw [List.all_replicate, show (if xs.length = 0 then true else id true) = true from by split <;> rfl]
      exact q _ s
def PartC (pv : V) : Prop := pv = .non ∨ pv = .str "offices" ∨ pv = .str "rows" ∨ ∃ i, pv = .int i
theorem part_cases (o : V) (sh : Option (List (Option (List V)))) : PartC (partOf o sh) := by
  unfold partOf
  split
  · exact .inr (.inl rfl)
  · split
    · cases sh with
      | none => exact .inr (.inr (.inl rfl))
      | some pts =>
        rw [partR_some]
        split
        · exact .inr (.inr (.inl rfl))
        · cases firstBad _ pts with
          | none => exact .inl rfl
          | some i => exact .inr (.inr (.inr ⟨_, rfl⟩))
    · exact .inr (.inl rfl)
def sp_law_is_right (K : PySem.W.Frag) (C : Addr) : Sp := fun vs H Q _ => ∃ d o v m sh, vs = [o, v] ∧ Th K d C H o ∧ RowsV K d C H m v sh ∧ (∀ pts, sh = some pts → pts.length ≤ 1000) ∧ ∀ H', Same H H' → Q (.bl true) H'
set_option maxHeartbeats 4000000 in
theorem ok_law_is_right (T : Txt K mg a) : FnOk P w K mg base CX0 10 a.f_law_is_right a.d_law_is_right ["_law_offices", "_law_rows"] (sp_law_is_right K a.c_Log) := by
  refine T.F_law_is_right.ok sc_law_is_right (fun vs H Q E h => ?_) (fun cdv A outer s H vs Q E hr h => ?_)
  · obtain ⟨d, o, v, m, sh, rfl, _⟩ := h
    rfl
  · obtain ⟨d, o, v, m, sh, rfl, ho, hv, hmax, q⟩ := h
    refine ⟨_, (pss_cons (ps_set (i := 2) sc_law_is_right.nd rfl (.inl rfl) (pe_call (ok_law_due T) (hr.mono (by first | decide | omega)) (by rfl) T.g_law_due T.F_law_due.kp (T.b_law_due) .nil pass0 (pa_cons (pv 0) (pa_cons (pv 1) pa_nil))))
  (pss_cons (ps_asg (pe_call (ok_law_made T) (hr.mono (by first | decide | omega)) (by rfl) T.g_law_made T.F_law_made.kp (T.b_law_made) .nil pass0 (pa_cons (pv 0) (pa_cons (pv 1) pa_nil))) (kgTup K rfl rfl (pgs_cons (pg_name (i := 3) sc_law_is_right.nd rfl (.inl rfl)) (pgs_cons (pg_name (i := 4) sc_law_is_right.nd rfl (.inl rfl)) (pgs_cons (pg_name (i := 5) sc_law_is_right.nd rfl (.inl rfl)) pgs_nil)))))
  (pss_cons (ps_if (pt_cmpR op_isN (pv 2) pe_non (nomark _))
  (pss_one (ps_ret (pe_and (pe_cmpR op_eq (pv 3) pe_str (nomark _)) (pe_one (pe_call (ok_law_keeps T) (hr.mono (by first | decide | omega)) (by rfl) T.g_law_keeps T.F_law_keeps.kp (T.b_law_keeps) .nil pass0 (pa_cons (pv 4) (pa_cons (pv 0) (pa_cons (pv 1) pa_nil))))))))
  pss_nil)
  (pss_cons (ps_if (PW.pt (pw_or (pt_cmpR op_ne (pv 3) pe_str (nomark _)) (pw_or (pt_not (pt_val (pv 5))) (pw_or (pt_val (pe_callB (kIsi K rfl) (by rfl) T.z_isinstance (by decide +kernel) (pa_cons (pv 4) (pa_cons (pe_bltn (v := .ty "bool") (by rfl) T.z_bool (by decide +kernel) rfl) pa_nil)))) (pw_or1 (pt_cmpR op_ne (pe_callB (kIsi K rfl) (by rfl) T.z_isinstance (by decide +kernel) (pa_cons (pv 4) (pa_cons (pe_bltn (v := .ty "str") (by rfl) T.z_str (by decide +kernel) rfl) pa_nil))) (pe_callB (kIsi K rfl) (by rfl) T.z_isinstance (by decide +kernel) (pa_cons (pv 2) (pa_cons (pe_bltn (v := .ty "str") (by rfl) T.z_str (by decide +kernel) rfl) pa_nil))) (nomark _)))))))
  (pss_one (ps_ret pe_bl))
  pss_nil)
  (pss_one (ps_ret (pe_cmpR (kEqD K rfl hr.units) (pv 4) (pv 2) (nomark _)))))))), ?_⟩
    walk_at "go"
    refine ⟨d, o, v, m, sh, rfl, ho, hv, hmax, fun H1 s1 => ?_⟩
    walk_at "go"
    refine ⟨d, o, v, m, sh, rfl, ho.fr (Fr.of s1) (Tx.of s1), hv.fr (Fr.of s1) (Tx.of s1) (Nat.le_refl _), ?_⟩
    have hpc := part_cases o sh
    by_cases hpn : partOf o sh = .non
    · refine .inl ⟨hpn, fun H2 t x dx n p rs eo ev hrs s2 hrl ht hx => ?_⟩
      subst eo ev
      refine ⟨t, _, rfl, ht, rfl, _, _, rfl, _, _, rfl, _, _, rfl, rfl, ?_⟩
      rw [hpn]
      walk_at "go"
      refine ⟨rfl, ?_⟩
      rw [decide_eq_true (show V.non = V.non from rfl)]
      walk_at "go"
      refine ⟨rfl, ?_⟩
      rw [decide_eq_true rfl]
      walk_at "go"
      refine ⟨x, dx, n, p, rs, rfl, hx, hrs, hrl, fun H3 s3 => ?_⟩
      exact q _ (s1.trans (s2.trans s3))
    · refine .inr ⟨hpn, fun H2 t s2 ht => ?_⟩
      refine ⟨t, _, rfl, ht, rfl, _, _, rfl, _, _, rfl, _, _, rfl, rfl, ?_⟩
      walk_at "go"
      generalize partOf o sh = pv at hpc hpn
      refine ⟨rfl, ?_⟩
      rw [decide_eq_false hpn]
      walk_at "go"
      refine ⟨rfl, ?_⟩
      rw [decide_eq_true (show V.str (Str.ofString "bad") = V.str (Str.ofString "bad") from rfl)]
      walk_at "go"
      obtain ⟨t1, t2, b, k1, k2, k3, dp⟩ : ∃ t1 t2 b, TyX K H2 pv t1 ∧ PySem.W.kitOne K t1 (.type "bool") = some false ∧ TyX K H2 pv t2 ∧ PySem.W.kitOne K t2 (.type "str") = some b ∧ ∃ D, Dp K H2 pv D ∧ SeqAt.shaped D = true := by
        rcases hpc with e | rfl | rfl | ⟨i, rfl⟩
        · exact absurd e hpn
        · exact ⟨_, _, true, .base (.str _), kit_ty (by decide +kernel), .base (.str _), kit_ty (by decide +kernel), .str (Str.ofString "offices"), .str _, by decide +kernel⟩
        · exact ⟨_, _, true, .base (.str _), kit_ty (by decide +kernel), .base (.str _), kit_ty (by decide +kernel), .str (Str.ofString "rows"), .str _, by decide +kernel⟩
        · exact ⟨_, _, false, .base (.int _), kit_ty (by decide +kernel), .base (.int _), kit_ty (by decide +kernel), .int i, .int _, rfl⟩
      obtain ⟨k4, D, dp, sD⟩ := dp
      refine g_isi k1 k2 ?_
      walk_at "go"
      refine g_isi k3 k4 ?_
      walk_at "go"
      refine g_isi k3 k4 ?_
      walk_at "go"
      rw [show (!(b == b)) = false from by cases b <;> rfl]
      walk_at "go"
      refine ⟨D, D, dp, dp, sD, sD, ?_⟩
      rw [eqv_self sD]
      exact q _ (s1.trans s2)

end

section
variable {P : Program} {w : World} {K : PySem.W.Frag} {mg : Str → Option Value} {base : Heap} {a : Ad}
/-! ### deep things, rows bent -/
theorem g_disp1 {tk tv : TE} {σ : L2.St} {H : Hp} {Q : VK} (q : ∀ p, H p = none → tk σ (upd H p (.dK [])) fun x H1 => tv σ H1 fun y H2 => H2 p = some (.dK []) ∧ ∃ kvs : List (Key × V), [(x, y)] = kvs.map (fun kv => (kV kv.1, kv.2)) ∧ kvs.length ≤ 15 ∧ Q (.ref p) (upd H2 p (.dK (mergeK [] kvs)))) : tDisp [(tk, tv)] σ H Q := q
section
variable {d C : Addr} {H : Hp} {m : Nat}
theorem splice {ys : List V} {x : V} {i j : Nat} (hy : ∀ y ∈ ys, Th K d C H y) (hx : Th K d C H x) : ∀ y ∈ ys.take i ++ [x] ++ ys.drop j, Th K d C H y := fun y h => by
  rcases List.mem_append.mp h with h | h
  · rcases List.mem_append.mp h with h | h
    · exact hy y (List.mem_of_mem_take h)
    · rw [List.mem_singleton.mp h]; exact hx
  · exact hy y (List.mem_of_mem_drop h)
theorem Q2.rows {v : V} (h : Q2 K d C H v) : ∃ sh, RowsV K d C H 10 v sh ∧ ∀ pts, sh = some pts → pts.length ≤ 1000 := by
  rcases h with h | ⟨p, y, rfl, h, hy⟩
  · exact ⟨none, h, fun pts e => by cases e⟩
  · obtain ⟨pt, hpt⟩ := hy.pt
    exact ⟨some [pt], ⟨p, _, rfl, h, .cons hpt .nil⟩, fun pts e => by cases e; show 1 ≤ 1000; decide⟩
end
def sp_law_web_rows (K : PySem.W.Frag) : Sp := fun vs H Q _ => ∃ (d c : Addr) (n m sh : Int), vs = [.ref d, .int n, .int m, .int sh] ∧ Dice d c H ∧ 1 ≤ n ∧ n ≤ 12 ∧ 0 ≤ m ∧ m ≤ 60 ∧ ∀ H' v rs, Fr d H H' → Dice d c H' → Dp K H' v (rowsD rs) → (∀ r ∈ rs, WebRow n r) → rs.length ≤ 60 → Q v H'
theorem ok_law_web_rows (T : Txt K mg a) : FnOk P w K mg base CX0 3 a.f_law_web_rows a.d_law_web_rows ["_law_hand_here", "_law_offices", "_law_most", "_law_share"] (sp_law_web_rows K) := by
  refine T.F_law_web_rows.ok sc_law_web_rows (fun vs H Q E h => ?_) (fun cdv A outer s H vs Q E hr h => ?_)
  · obtain ⟨d, c, n, m, sh, rfl, _⟩ := h
    rfl
  · obtain ⟨d, c, n, m, sh, rfl, hD, n1, n12, m0, m60, q⟩ := h
    refine ⟨_, (pss_cons (ps_if (pt_cmpR op_eq (pv 1) pe_int (nomark _))
  (pss_one (ps_ret (pe_tup pa_nil)))
  pss_nil)
  (pss_cons (ps_set (i := 4) sc_law_web_rows.nd rfl (.inl rfl) (pe_lst pa_nil))
  (pss_cons (ps_for PassesOwn.never rfl (pi_range1 rfl T.z_range (pa_cons (pe_call (ok_law_draw T) (hr.mono (by first | decide | omega)) (by rfl) T.g_law_draw T.F_law_draw.kp (T.b_law_draw) .nil pass0 (pa_cons (pv 0) (pa_cons (pe_op op_add (pv 2) pe_int) pa_nil))) pa_nil)) (pg_name (i := 5) sc_law_web_rows.nd rfl (.inl rfl))
  (pss_cons (ps_set (i := 6) sc_law_web_rows.nd rfl (.inl rfl) (pe_call (ok_law_draw T) (hr.mono (by first | decide | omega)) (by rfl) T.g_law_draw T.F_law_draw.kp (T.b_law_draw) .nil pass0 (pa_cons (pv 0) (pa_cons (pv 1) pa_nil))))
  (pss_cons (ps_set (i := 7) sc_law_web_rows.nd rfl (.inl rfl) (pe_op op_mod (pe_callTy call_int1 (by rfl) T.z_int (by decide +kernel) (pa_cons (pe_op op_add (pe_op op_add (pv 6) pe_int) (pe_call (ok_law_draw T) (hr.mono (by first | decide | omega)) (by rfl) T.g_law_draw T.F_law_draw.kp (T.b_law_draw) .nil pass0 (pa_cons (pv 0) (pa_cons (pe_op op_sub (pv 1) pe_int) pa_nil)))) pa_nil)) (pv 1)))
  (pss_one (ps_expr (pe_bm PySem.F.plainAttrs_list PySem.F.slot_list_append PySem.F.type_list_append mt_append (pv 4) (pa_cons (pe_tup (pa_cons (pv 6) (pa_cons (pv 7) (pa_cons (pe_cmpR op_lt (pe_call (ok_law_draw T) (hr.mono (by first | decide | omega)) (by rfl) T.g_law_draw T.F_law_draw.kp (T.b_law_draw) .nil pass0 (pa_cons (pv 0) (pa_cons pe_int pa_nil))) (pv 3) (nomark _)) pa_nil)))) pa_nil)))))))
  (pss_one (ps_ret (pe_callTy (kTupOf K rfl) (by rfl) T.z_tuple (by decide +kernel) (pa_cons (pv 4) pa_nil))))))), ?_⟩
    walk_at "go"
    refine g_ite (fun e0 => ?_) (fun e0 => ?_)
    · walk_at "go"
      refine ⟨by show 0 ≤ sizeLine; decide, fun p np => ?_⟩
      exact q _ _ [] (Fr.new np) (hD.new np) (.tup SqT.new .nil) (fun r h => by cases h) (by decide)
    walk_at "go"
    refine ⟨by show 0 ≤ sizeLine; decide, fun F nF => ?_⟩
    walk_at "go"
    have nFd : F ≠ d := hD.nd nF
    refine ⟨d, c, m + 1, rfl, hD.new nF, by omega, by omega, fun H1 k f1 hD1 k0 k1 => ?_⟩
    walk_at "go"
    refine ⟨_, rfl, by omega, by omega, ?_⟩
    refine for_it walk_rng0 (fun i σ H' => ∃ (y5 y6 y7 : Option V) (xs : List V) (rs : List Row), σ = [some (.ref d), some (.int n), some (.int m), some (.int sh), some (.ref F), y5, y6, y7] ∧ Fr d H H' ∧ Dice d c H' ∧ H' F = some (.lst xs) ∧ DpAll K H' xs (rs.map rowD) ∧ (∀ r ∈ rs, WebRow n r) ∧ rs.length = i) ⟨_, _, _, [], [], rfl, (Fr.new nF).trans f1, hD1, f1 _ _ nFd upd_same, .nil, (fun r h => by cases h), rfl⟩ (fun _ _ _ _ _ => trivial) (fun i z σ H2 H2' hi hP hy => ?_) (fun σ H' hP => ?_)
    · obtain ⟨y5, y6, y7, xs, rs, rfl, F2, hD2, hF, hxs, hg, hl⟩ := hP
      obtain ⟨rfl, rfl⟩ := hy
      walk_at "go"
      refine ⟨d, c, n, rfl, hD2, by omega, by omega, fun H3 x f3 hD3 x0 x1 => ?_⟩
      walk_at "go"
      refine ⟨d, c, n - 1, rfl, hD3, by omega, by omega, fun H4 y f4 hD4 y0 y1 => ?_⟩
      walk_at "go"
      refine g_rI (show 0 < n by omega) ?_
      have hm0 := Int.emod_nonneg (x + 1 + y) (show n ≠ 0 by omega)
      have hm1 := Int.emod_lt_of_pos (x + 1 + y) (show 0 < n by omega)
      have hne : x ≠ (x + 1 + y) % n := by
        intro e
        by_cases hb : x + 1 + y < n
        · rw [Int.emod_eq_of_lt (by omega) hb] at e
          omega
        · have : (x + 1 + y) % n = (x + 1 + y - n) % n := (Int.sub_emod_right (x + 1 + y) n).symm
          rw [this, Int.emod_eq_of_lt (by omega) (by omega)] at e
          omega
      generalize (x + 1 + y) % n = y' at hm0 hm1 hne
      have f24 := f3.trans f4
      have hF4 := f24 _ _ nFd hF
      walk_at "go"
      refine ⟨.inl ⟨rfl, _, SqL.at hF4⟩, ?_⟩
      walk_at "go"
      refine ⟨d, c, 12, rfl, hD4, by decide, by decide, fun H5 z f5 hD5 z0 z1 => ?_⟩
      walk_at "go"
      refine ⟨by show 3 ≤ sizeLine; decide, fun t nt => ?_⟩
      walk_at "go"
      have f25 := f24.trans f5
      have hF5 := f25 _ _ nFd hF
      have s6 := same_new (o := .tup [.int x, .int y', .bl (decide (z < sh))]) nt
      have hxl := DpAll.len hxs
      rw [List.length_map] at hxl
      have hxs6 := Dp.sameAll s6 _ _ (Dp.txAll (hD2.tx f25) _ _ (imAll_map im_rowD _) hxs)
      refine ⟨F, xs, .ref t, rfl, rfl, s6 _ _ hF5, Nat.lt_of_le_of_lt (show xs.length ≤ 1000 by omega) (by decide), ?_⟩
      refine ⟨_, _, _, xs ++ [.ref t], rs ++ [(x, y', decide (z < sh))], rfl, fun b o nb e => ?_, ?_, upd_same, ?_, fun r hr => ?_, by rw [List.length_append, hl]; rfl⟩
      · have nbF : b ≠ F := fun e' => by rw [e', nF] at e; cases e
        rw [upd_ne nbF]
        exact s6 _ _ (f25 _ _ nb (F2 _ _ nb e))
      · exact (hD5.fr s6).put nFd (hD.nc nF)
      · rw [List.map_append]
        exact Dp.txAll (Tx.lst (s6 _ _ hF5)) _ _ (by rw [← List.map_append]; exact imAll_map im_rowD _) (DpAll.snoc hxs6 (dp_row (r := (x, y', decide (z < sh))) SqT.new))
      · rcases List.mem_append.mp hr with hr | hr
        · exact hg r hr
        · rw [List.mem_singleton.mp hr]
          exact ⟨x0, x1, hm0, hm1, hne⟩
    · obtain ⟨y5, y6, y7, xs, rs, rfl, F2, hD2, hF, hxs, hg, hl⟩ := hP
      walk_at "go"
      refine ⟨F, xs, rfl, .inl ⟨SqL.at hF, fun p np => ?_⟩⟩
      exact q _ _ rs (F2.trans (Fr.new np)) (hD2.new np) (.tup SqT.new (Dp.sameAll (same_new np) _ _ hxs)) hg (by omega)
def sp_law_deep (K : PySem.W.Frag) (C : Addr) : Sp := fun vs H Q _ => ∃ d c k, vs = [.int k] ∧ Dice d c H ∧ 0 ≤ k ∧ k < 4 ∧ ∀ H' v, Same H H' → Q2 K d C H' v → Q v H'
set_option maxHeartbeats 4000000 in
theorem ok_law_deep (T : Txt K mg a) : FnOk P w K mg base CX0 2 a.f_law_deep a.d_law_deep ["_law_kind"] (sp_law_deep K a.c_Log) := by
  refine T.F_law_deep.ok sc_law_deep (fun vs H Q E h => ?_) (fun cdv A outer s H vs Q E hr h => ?_)
  · obtain ⟨d, c, k, rfl, _⟩ := h
    rfl
  · obtain ⟨d, c, k, rfl, hD, k0, k1, q⟩ := h
    refine ⟨_, (pss_cons (ps_set (i := 1) sc_law_deep.nd rfl (.inl rfl) (pe_ix (kIxL K rfl) (pe_lst (pa_cons pe_non (pa_cons pe_str pa_nil))) (pe_callTy call_int1 (by rfl) T.z_int (by decide +kernel) (pa_cons (pe_cmpR op_gt (pv 0) pe_int (nomark _)) pa_nil)) (fun _ _ => rfl)))
  (pss_cons (ps_for PassesOwn.never rfl (pi_range1 rfl T.z_range (pa_cons pe_int pa_nil)) (pg_name (i := 2) sc_law_deep.nd rfl (.inl rfl))
  (pss_one (ps_set (i := 1) sc_law_deep.nd rfl (.inl rfl) (pe_ix (kIxL K rfl) (pe_lst (pa_cons (pe_tup (pa_cons (pv 1) pa_nil)) (pa_cons (pe_lst (pa_cons (pv 1) pa_nil)) (pa_cons (pe_disp (pps_cons pe_str (pv 1) pps_nil) rfl rfl (by decide) (by decide)) pa_nil)))) (pe_op op_mod (pe_callTy call_int1 (by rfl) T.z_int (by decide +kernel) (pa_cons (pv 0) pa_nil)) pe_int) (fun _ _ => rfl)))))
  (pss_one (ps_ret (pv 1))))), ?_⟩
    walk_at "go"
    refine ⟨by show 2 ≤ sizeLine; decide, fun L nL => ?_⟩
    walk_at "go"
    refine .inr ⟨_, rfl, ?_⟩
    obtain ⟨z, hz, hz1⟩ : ∃ z, atI [V.non, .str (Str.ofString "a")] (if decide (1 < k) = true then 1 else 0) = some z ∧ Q2 K d a.c_Log (upd H L (.lst [V.non, .str (Str.ofString "a")])) z := by
      by_cases e : 1 < k
      · rw [decide_eq_true e]
        exact ⟨_, rfl, .inl (.str _)⟩
      · rw [decide_eq_false e]
        exact ⟨_, rfl, .inl .non⟩
    refine g_ixL SqL.new hz ?_
    walk_at "go"
    refine ⟨_, rfl, by decide, by decide, ?_⟩
    refine for_it walk_rng0 (fun i σ H' => ∃ v y2, σ = [some (.int k), some v, y2] ∧ Same H H' ∧ Q2 K d a.c_Log H' v) ⟨_, _, rfl, same_new nL, hz1⟩ (fun _ _ _ _ _ => trivial) (fun i z σ H3 H3' hi hP hy => ?_) (fun σ H' hP => ?_)
    · obtain ⟨v, y2, rfl, s3, hv3⟩ := hP
      obtain ⟨rfl, rfl⟩ := hy
      walk_at "go"
      refine ⟨by show 1 ≤ sizeLine; decide, fun t1 n1 => ?_⟩
      walk_at "go"
      refine ⟨by show 1 ≤ sizeLine; decide, fun l2 n2 => ?_⟩
      walk_at "go"
      refine g_disp1 (fun m5 n5 => ?_)
      walk_at "go"
      refine ⟨upd_same, [(.inr "a", v)], rfl, by show 1 ≤ 15; decide, ?_⟩
      walk_at "go"
      refine ⟨by show 3 ≤ sizeLine; decide, fun L6 n6 => ?_⟩
      walk_at "go"
      refine g_rI (show (0 : Int) < 3 by decide) ?_
      have s1 := same_new (o := .tup [v]) n1
      have s2 := same_new (o := .lst [v]) n2
      have s5 : Same _ (upd (upd (upd (upd H3' t1 (HO.tup [v])) l2 (HO.lst [v])) m5 (HO.dK [])) m5 (HO.dK (mergeK [] [(Sum.inr ("a"), v)]))) := Same.put (same_new n5) n5
      have s6 := same_new (o := .lst [V.ref t1, V.ref l2, V.ref m5]) n6
      have hD3 := hD.fr s3
      have nl2 : l2 ≠ d := (hD3.fr s1).nd n2
      have nm5 : m5 ≠ d := (hD3.fr (s1.trans s2)).nd n5
      refine g_pick (upd_same) (Int.emod_nonneg _ (by decide)) (by have := Int.emod_lt_of_pos k (show (0 : Int) < 3 by decide); have := Int.emod_nonneg k (show (3 : Int) ≠ 0 by decide); show (k % 3).toNat < 3; omega) (fun z hz => ?_)
      have sz := s1.trans (s2.trans (s5.trans s6))
      have hv7 := (hv3.fr (Fr.of sz) (Tx.of sz)).q1
      have hz7 : Q2 K d a.c_Log (upd (upd (upd (upd (upd H3' t1 (HO.tup [v])) l2 (HO.lst [v])) m5 (HO.dK [])) m5 (HO.dK (mergeK [] [(Sum.inr ("a"), v)]))) L6 (HO.lst [V.ref t1, V.ref l2, V.ref m5])) z := by
        simp only [List.mem_cons, List.not_mem_nil, or_false] at hz
        rcases hz with rfl | rfl | rfl
        · exact .inr ⟨t1, v, rfl, (Tx.of (s2.trans (s5.trans s6))).seq SqT.new, hv7⟩
        · exact .inl (.lst ((s5.trans s6) _ _ upd_same) nl2)
        · exact .inl (.dct (s6 _ _ upd_same) nm5)
      walk_at "go"
      exact ⟨z, _, rfl, s3.trans sz, hz7⟩
    · obtain ⟨v, y2, rfl, s3, hv3⟩ := hP
      walk_at "go"
      exact q _ _ s3 hv3
def sp_law_bent_offices (K : PySem.W.Frag) (C : Addr) : Sp := fun vs H Q _ => ∃ d c, vs = [.ref d] ∧ Dice d c H ∧ ∀ H' v, Fr d H H' → Dice d c H' → Th K d C H' v → Q v H'
theorem ok_law_bent_offices (T : Txt K mg a) : FnOk P w K mg base CX0 3 a.f_law_bent_offices a.d_law_bent_offices ["_law_hand_here"] (sp_law_bent_offices K a.c_Log) := by
  refine T.F_law_bent_offices.ok sc_law_bent_offices (fun vs H Q E h => ?_) (fun cdv A outer s H vs Q E hr h => ?_)
  · obtain ⟨d, c, rfl, _⟩ := h
    rfl
  · obtain ⟨d, c, rfl, hD, q⟩ := h
    refine ⟨_, (pss_cons (ps_set (i := 1) sc_law_bent_offices.nd rfl (.inl rfl) (pe_call (ok_law_deep T) (hr.mono (by first | decide | omega)) (by rfl) T.g_law_deep T.F_law_deep.kp (T.b_law_deep) .nil pass0 (pa_cons (pe_call (ok_law_draw T) (hr.mono (by first | decide | omega)) (by rfl) T.g_law_draw T.F_law_draw.kp (T.b_law_draw) .nil pass0 (pa_cons (pv 0) (pa_cons pe_int pa_nil))) pa_nil)))
  (pss_cons (ps_set (i := 2) sc_law_bent_offices.nd rfl (.inl rfl) (pe_lst (pa_cons pe_int (pa_cons pe_int (pa_cons (pe_un un_neg pe_int) (pa_cons pe_bl (pa_cons pe_bl (pa_cons pe_non (pa_cons pe_str (pa_cons (pe_tup (pa_cons pe_int pa_nil)) (pa_cons (pe_lst (pa_cons pe_int pa_nil)) (pa_cons pe_dnewK (pa_cons (pe_op op_pow pe_int pe_int) (pa_cons (pe_un un_neg (pe_op op_pow pe_int pe_int)) (pa_cons (pv 1) (pa_cons pe_int (pa_cons pe_int pa_nil)))))))))))))))))
  (pss_one (ps_ret (pe_ix (kIxL K rfl) (pv 2) (pe_call (ok_law_draw T) (hr.mono (by first | decide | omega)) (by rfl) T.g_law_draw T.F_law_draw.kp (T.b_law_draw) .nil pass0 (pa_cons (pv 0) (pa_cons pe_int pa_nil))) (fun _ _ => rfl)))))), ?_⟩
    walk_at "go"
    refine ⟨d, c, 4, rfl, hD, by decide, by decide, fun H1 k f1 hD1 k0 k1 => ?_⟩
    refine ⟨d, c, k, rfl, hD1, k0, by omega, fun H2 vd s2 hvd => ?_⟩
    have hD2 := hD1.fr s2
    walk_at "go"
    refine ⟨by show 1 ≤ sizeLine; decide, fun t3 n3 => ?_⟩
    walk_at "go"
    refine ⟨by show 1 ≤ sizeLine; decide, fun l4 n4 => ?_⟩
    walk_at "go"
    refine fun m5 n5 => ?_
    walk_at "go"
    refine g_rI ⟨by decide, by decide, by decide⟩ ?_
    walk_at "go"
    refine g_rI ⟨by decide, by decide, by decide⟩ ?_
    walk_at "go"
    refine ⟨by show 15 ≤ sizeLine; decide, fun L6 n6 => ?_⟩
    walk_at "go"
    have s3 := same_new (o := .tup [V.int 3]) n3
    have s4 := same_new (o := .lst [V.int 3]) n4
    have s5 := same_new (o := .dK []) n5
    have hD3 := hD2.fr s3
    have nl4 : l4 ≠ d := hD3.nd n4
    have hD4 := hD3.fr s4
    have nm5 : m5 ≠ d := hD4.nd n5
    have hD5 := hD4.fr s5
    have nL6 : L6 ≠ d := hD5.nd n6
    refine ⟨d, c, 15, rfl, hD5.new n6, by decide, by decide, fun H7 k7 f7 hD7 k70 k71 => ?_⟩
    refine g_pick (f7 _ _ nL6 upd_same) k70 (by show k7.toNat < 15; omega) (fun z hz => ?_)
    have f67 := (Fr.new n6).trans f7
    have x67 := hD5.tx f67
    have s45 := s4.trans s5
    have s35 := s3.trans s45
    have hz7 : Th K d a.c_Log H7 z := by
      simp only [List.mem_cons, List.not_mem_nil, or_false] at hz
      rcases hz with rfl | rfl | rfl | rfl | rfl | rfl | rfl | rfl | rfl | rfl | rfl | rfl | rfl | rfl | rfl
      · exact .int _
      · exact .int _
      · exact .int _
      · exact .inl (.bl _)
      · exact .inl (.bl _)
      · exact .inl .non
      · exact .inl (.str _)
      · exact .tup (((Tx.of s45).trans x67).seq SqT.new)
      · exact .inl (.lst (f67 _ _ nl4 (s5 _ _ upd_same)) nl4)
      · exact .inl (.dct (f67 _ _ nm5 upd_same) nm5)
      · exact .int _
      · exact .int _
      · exact (hvd.fr ((Fr.of s35).trans f67) ((Tx.of s35).trans x67)).q1.th
      · exact .int _
      · exact .int _
    exact q _ _ (((f1.trans (Fr.of s2)).trans (Fr.of s35)).trans f67) hD7 hz7

end

section
variable {P : Program} {w : World} {K : PySem.W.Frag} {mg : Str → Option Value} {base : Heap} {a : Ad}
/-! ### rows of a web bent -/
def sp_law_bent_row (K : PySem.W.Frag) (C : Addr) : Sp := fun vs H Q _ => ∃ (d c : Addr) (n : Int) (rv : V) (r : Row), vs = [.ref d, .int n, rv] ∧ Dice d c H ∧ Dp K H rv (rowD r) ∧ ∀ H' v pt, Fr d H H' → Dice d c H' → PartV K d C H' 10 v pt → Q v H'
set_option maxHeartbeats 4000000 in
theorem ok_law_bent_row (T : Txt K mg a) : FnOk P w K mg base CX0 10 a.f_law_bent_row a.d_law_bent_row ["_law_hand_here", "_law_offices", "_law_row"] (sp_law_bent_row K a.c_Log) := by
  refine T.F_law_bent_row.ok sc_law_bent_row (fun vs H Q E h => ?_) (fun cdv A outer s H vs Q E hr h => ?_)
  · obtain ⟨d, c, n, rv, r, rfl, _⟩ := h
    rfl
  · obtain ⟨d, c, n, rv, r, rfl, hD, hrv, q⟩ := h
    obtain ⟨p, rfl, hp⟩ := of_row hrv
    have small : ∀ {x : Nat}, x ≤ 2000 → x ≤ sizeLine := fun h => Nat.le_trans h (by decide)
    refine ⟨_, (pss_cons (ps_set (i := 3) sc_law_bent_row.nd rfl (.inl rfl) (pe_call (ok_law_draw T) (hr.mono (by first | decide | omega)) (by rfl) T.g_law_draw T.F_law_draw.kp (T.b_law_draw) .nil pass0 (pa_cons (pv 0) (pa_cons pe_int pa_nil))))
  (pss_cons (ps_set (i := 4) sc_law_bent_row.nd rfl (.inl rfl) (pe_call (ok_law_deep T) (hr.mono (by first | decide | omega)) (by rfl) T.g_law_deep T.F_law_deep.kp (T.b_law_deep) .nil pass0 (pa_cons (pe_call (ok_law_draw T) (hr.mono (by first | decide | omega)) (by rfl) T.g_law_draw T.F_law_draw.kp (T.b_law_draw) .nil pass0 (pa_cons (pv 0) (pa_cons pe_int pa_nil))) pa_nil)))
  (pss_cons (ps_if (pt_cmpR op_eq (pv 3) pe_int (nomark _))
  (pss_cons (ps_set (i := 5) sc_law_bent_row.nd rfl (.inl rfl) (pe_lst (pa_cons (pe_slice (kSlA K rfl) (pv 2) po_none (po_some pe_int)) (pa_cons (pe_op (kCatA K rfl) (pv 2) (pe_tup (pa_cons pe_bl pa_nil))) (pa_cons (pe_callTy (kLstOf K rfl) (by rfl) T.z_list (by decide +kernel) (pa_cons (pv 2) pa_nil)) (pa_cons pe_non (pa_cons pe_int (pa_cons pe_str (pa_cons (pe_tup pa_nil) (pa_cons (pv 4) (pa_cons pe_dnewK (pa_cons (pe_tup (pa_cons (pv 2) pa_nil)) (pa_cons (pe_make T.mk_Log (ok_Log_init T) (hr.mono (by first | decide | omega)) (by rfl) T.gc_Log T.b_Log_init .nil pass0 (pa_cons pe_int (pa_cons (pe_tup pa_nil) pa_nil))) (pa_cons pe_bl pa_nil))))))))))))))
  (pss_one (ps_ret (pe_ix (kIxL K rfl) (pv 5) (pe_call (ok_law_draw T) (hr.mono (by first | decide | omega)) (by rfl) T.g_law_draw T.F_law_draw.kp (T.b_law_draw) .nil pass0 (pa_cons (pv 0) (pa_cons pe_int pa_nil))) (fun _ _ => rfl)))))
  pss_nil)
  (pss_cons (ps_set (i := 6) sc_law_bent_row.nd rfl (.inl rfl) (pe_call (ok_law_draw T) (hr.mono (by first | decide | omega)) (by rfl) T.g_law_draw T.F_law_draw.kp (T.b_law_draw) .nil pass0 (pa_cons (pv 0) (pa_cons pe_int pa_nil))))
  (pss_cons (ps_set (i := 7) sc_law_bent_row.nd rfl (.inl rfl) (pe_ix (kIxL K rfl) (pe_lst (pa_cons (pe_un un_neg pe_int) (pa_cons (pv 1) (pa_cons pe_non (pa_cons pe_str (pa_cons (pe_tup (pa_cons pe_int pa_nil)) (pa_cons (pe_op op_pow pe_int pe_int) (pa_cons (pv 4) (pa_cons pe_bl (pa_cons pe_bl (pa_cons pe_int (pa_cons pe_int (pa_cons (pe_ix (kIxT K rfl) (pv 2) pe_int (fun _ _ => rfl)) (pa_cons (pe_ix (kIxT K rfl) (pv 2) pe_int (fun _ _ => rfl)) pa_nil)))))))))))))) (pe_call (ok_law_draw T) (hr.mono (by first | decide | omega)) (by rfl) T.g_law_draw T.F_law_draw.kp (T.b_law_draw) .nil pass0 (pa_cons (pv 0) (pa_cons pe_int pa_nil))) (fun _ _ => rfl)))
  (pss_one (ps_ret (pe_op (kCatA K rfl) (pe_op (kCatA K rfl) (pe_slice (kSlA K rfl) (pv 2) po_none (po_some (pv 6))) (pe_tup (pa_cons (pv 7) pa_nil))) (pe_slice (kSlA K rfl) (pv 2) (po_some (pe_op op_add (pv 6) pe_int)) po_none))))))))), ?_⟩
    walk_at "go"
    refine ⟨d, c, 3, rfl, hD, by decide, by decide, fun H1 kd f1 hD1 kd0 kd1 => ?_⟩
    walk_at "go"
    refine ⟨d, c, 4, rfl, hD1, by decide, by decide, fun H2 k2 f2 hD2 k20 k21 => ?_⟩
    refine ⟨d, c, k2, rfl, hD2, k20, by omega, fun H3 vd s3 hvd => ?_⟩
    have hD3 := hD2.fr s3
    have F3 : Fr d H H3 := (f1.trans f2).trans (Fr.of s3)
    have gp := (hD.tx F3).seq hp
    have gs : ∀ {H' : Hp}, ∀ y ∈ [V.int r.1, V.int r.2.1, V.bl r.2.2], Th K d a.c_Log H' y := fun y hy => by
      simp only [List.mem_cons, List.not_mem_nil, or_false] at hy
      rcases hy with rfl | rfl | rfl
      · exact .int _
      · exact .int _
      · exact .inl (.bl _)
    walk_at "go"
    refine g_ite (fun e0 => ?_) (fun e0 => ?_)
    · walk_at "go"
      refine g_slA gp (fun p2 H5 s5 h5 => ?_)
      have h5b := h5
      rw [show (2 : Int) = ((2 : Nat) : Int) from rfl, cutV_take] at h5b
      walk_at "go"
      refine ⟨by show 1 ≤ sizeLine; decide, fun p3 n3 => ?_⟩
      refine g_catA ((Tx.new n3).seq ((Tx.of s5).seq gp)) SqT.new (small (by show 4 ≤ 2000; decide)) (fun p4 H6 s6 h6 => ?_)
      walk_at "go"
      have s56 : Same H5 H6 := fun b_ o_ e_ => s6 _ _ (same_new n3 _ _ e_)
      have s36 := s5.trans s56
      have gp6 := (Tx.of s36).seq gp
      refine ⟨_, _, rfl, .inr gp6, fun l1 n1 => ?_⟩
      have s7a := same_new (o := .lst [.int r.1, .int r.2.1, .bl r.2.2]) n1
      have hD6 := hD3.fr s36
      have nl1 : l1 ≠ d := hD6.nd n1
      walk_at "go"
      refine ⟨Nat.zero_le _, fun t7 n7 => ?_⟩
      have s7 := same_new (o := .tup []) n7
      walk_at "go"
      refine fun m8 n8 => ?_
      have s8 := same_new (o := .dK []) n8
      have nm8 : m8 ≠ d := ((hD6.fr s7a).fr s7).nd n8
      walk_at "go"
      refine ⟨by show 1 ≤ sizeLine; decide, fun t9 n9 => ?_⟩
      have s9 := same_new (o := .tup [.ref p]) n9
      walk_at "go"
      refine ⟨Nat.zero_le _, fun t10 n10 => ?_⟩
      have s10 := same_new (o := .tup []) n10
      walk_at "go"
      intro x dx nx ndx nxd
      refine ⟨x, dx, 2, t10, rfl, upd_same, (Tx.of ((same_new (o := .own x) ndx).trans (same_new (o := .ins a.c_Log dx []) (by rw [upd_ne nxd.symm]; exact nx)))).seq SqT.new, by decide, by decide, fun H11 f11 hx11 => ⟨rfl, ?_⟩⟩
      have s11 := log_made nx ndx f11
      have s37 := s36.trans s7a
      have s38 := s37.trans (s7.trans s8)
      have s310 := s38.trans (s9.trans s10)
      have hD10 := hD3.fr s310
      have nxd2 : x ≠ d := hD10.nd nx
      have hD11 := hD10.fr s11
      walk_at "go"
      refine ⟨by show 12 ≤ sizeLine; decide, fun L nL => ?_⟩
      walk_at "go"
      have nLd : L ≠ d := hD11.nd nL
      refine ⟨d, c, 12, rfl, hD11.new nL, by decide, by decide, fun H13 k13 f13 hD13 k130 k131 => ?_⟩
      refine g_pick (f13 _ _ nLd upd_same) k130 (by show k13.toNat < 12; omega) (fun z hz => ?_)
      have fz := (Fr.new nL).trans f13
      have xz := hD11.tx fz
      have s812 := (s9.trans s10).trans s11
      have s712 := s8.trans s812
      have s3z := (Fr.of (s310.trans s11)).trans fz
      have X3z := (Tx.of (s310.trans s11)).trans xz
      obtain ⟨pt, hpt⟩ : ∃ pt, PartV K d a.c_Log H13 10 z pt := by
        simp only [List.mem_cons, List.not_mem_nil, or_false] at hz
        rcases hz with rfl | rfl | rfl | rfl | rfl | rfl | rfl | rfl | rfl | rfl | rfl | rfl
        · exact ⟨some _, p2, rfl, xz.seq ((Tx.of (s56.trans (s7a.trans (s7.trans s712)))).seq h5b), by show 2 ≤ 10; decide, fun y hy => gs y (List.mem_of_mem_take hy)⟩
        · exact ⟨some _, p4, rfl, xz.seq ((Tx.of (s7a.trans (s7.trans s712))).seq h6), by show 4 ≤ 10; decide, fun y hy => by
            rcases List.mem_append.mp hy with hy | hy
            · exact gs y hy
            · rw [List.mem_singleton.mp hy]; exact .inl (.bl _)⟩
        · exact ⟨none, .lst (fz _ _ nl1 ((s7.trans s712) _ _ upd_same)) nl1⟩
        · exact ⟨none, .non⟩
        · exact ⟨none, .int _⟩
        · exact ⟨none, .str _⟩
        · exact ⟨some [], t7, rfl, xz.seq ((Tx.of s712).seq SqT.new), Nat.zero_le _, fun y hy => by cases hy⟩
        · exact (hvd.fr s3z X3z).q1.pt
        · exact ⟨none, .dct (fz _ _ nm8 (s812 _ _ upd_same)) nm8⟩
        · exact ⟨some _, t9, rfl, xz.seq ((Tx.of (s10.trans s11)).seq SqT.new), by show 1 ≤ 10; decide, fun y hy => by
            rw [List.mem_singleton.mp hy]
            exact .tup (X3z.seq gp)⟩
        · exact ⟨none, .own (fz _ _ nxd2 hx11) nxd2 T.nz_Log⟩
        · exact ⟨none, .bl _⟩
      exact q _ _ pt (F3.trans s3z) hD13 hpt
    · walk_at "go"
      refine ⟨d, c, 3, rfl, hD3, by decide, by decide, fun H4 at_ f4 hD4 at0 at1 => ?_⟩
      walk_at "go"
      refine ⟨by show 1 ≤ sizeLine; decide, fun t0 n0 => ?_⟩
      walk_at "go"
      refine g_rI ⟨by decide, by decide, by decide⟩ ?_
      have X4 := (hD3.tx f4).trans (Tx.new n0 (o := .tup [.int 0]))
      walk_at "go"
      refine g_ixT (X4.seq gp) (v := .int r.1) rfl ?_
      walk_at "go"
      refine g_ixT (X4.seq gp) (v := .int r.2.1) rfl ?_
      walk_at "go"
      refine ⟨by show 13 ≤ sizeLine; decide, fun L nL => ?_⟩
      walk_at "go"
      have hD5 := hD4.new (o := .tup [.int 0]) n0
      have nLd : L ≠ d := hD5.nd nL
      refine ⟨d, c, 13, rfl, hD5.new nL, by decide, by decide, fun H6 k6 f6 hD6 k60 k61 => ?_⟩
      refine g_pick (f6 _ _ nLd upd_same) k60 (by show k6.toNat < 13; omega) (fun odd hodd => ?_)
      have f56 := (Fr.new nL).trans f6
      have x56 := hD5.tx f56
      have f36 := (f4.trans (Fr.new n0)).trans f56
      have x36 := X4.trans x56
      have hodd6 : Th K d a.c_Log H6 odd := by
        simp only [List.mem_cons, List.not_mem_nil, or_false] at hodd
        rcases hodd with rfl | rfl | rfl | rfl | rfl | rfl | rfl | rfl | rfl | rfl | rfl | rfl | rfl
        · exact .int _
        · exact .int _
        · exact .inl .non
        · exact .inl (.str _)
        · exact .tup (x56.seq SqT.new)
        · exact .int _
        · exact (hvd.fr f36 x36).q1.th
        · exact .inl (.bl _)
        · exact .inl (.bl _)
        · exact .int _
        · exact .int _
        · exact .int _
        · exact .int _
      have gp6 := x36.seq gp
      have eat : at_ = ((at_.toNat : Nat) : Int) := by omega
      walk_at "go"
      refine g_slA gp6 (fun p2 H7 s7 h7 => ?_)
      rw [eat, cutV_take] at h7
      walk_at "go"
      refine ⟨by show 1 ≤ sizeLine; decide, fun p3 n3 => ?_⟩
      refine g_catA ((Tx.new n3).seq h7) SqT.new (small (by simp only [List.length_take, List.length_cons, List.length_nil]; omega)) (fun p4 H8 s8 h8 => ?_)
      walk_at "go"
      have s68 : Same H6 H8 := fun b_ o_ e_ => s8 _ _ (same_new n3 _ _ (s7 _ _ e_))
      refine g_slA ((Tx.of s68).seq gp6) (fun p5 H9 s9 h9 => ?_)
      rw [show at_ + 1 = ((at_.toNat + 1 : Nat) : Int) by omega, cutV_drop] at h9
      refine g_catA ((Tx.of s9).seq h8) h9 (small (by simp only [List.length_append, List.length_take, List.length_drop, List.length_cons, List.length_nil]; omega)) (fun p6 H10 s10 h10 => ?_)
      have s6a : Same H6 H10 := s68.trans (s9.trans s10)
      walk_at "go"
      exact q _ _ (some _) ((F3.trans f36).trans (Fr.of s6a)) (hD6.fr s6a) ⟨p6, rfl, h10, by simp only [List.length_append, List.length_take, List.length_drop, List.length_cons, List.length_nil]; omega, splice (fun y hy => gs y hy) (hodd6.fr (Fr.of s6a) (Tx.of s6a))⟩
def sp_law_bent_rows (K : PySem.W.Frag) (C : Addr) : Sp := fun vs H Q _ => ∃ (d c : Addr) (n : Int) (rv : V) (rs : List Row), vs = [.ref d, .int n, rv] ∧ Dice d c H ∧ Dp K H rv (rowsD rs) ∧ rs.length ≤ 60 ∧ ∀ H' v sh, Fr d H H' → Dice d c H' → RowsV K d C H' 10 v sh → (∀ pts, sh = some pts → pts.length ≤ 1000) → Q v H'
set_option maxHeartbeats 8000000 in
theorem ok_law_bent_rows (T : Txt K mg a) : FnOk P w K mg base CX0 11 a.f_law_bent_rows a.d_law_bent_rows ["_law_hand_here", "_law_offices", "_law_rows"] (sp_law_bent_rows K a.c_Log) := by
  refine T.F_law_bent_rows.ok sc_law_bent_rows (fun vs H Q E h => ?_) (fun cdv A outer s H vs Q E hr h => ?_)
  · obtain ⟨d, c, n, rv, rs, rfl, _⟩ := h
    rfl
  · obtain ⟨d, c, n, rv, rs, rfl, hD, hrv, hmax, q⟩ := h
    obtain ⟨p, ys, rfl, hp, ha⟩ := of_tup hrv
    have hl := DpAll.len ha
    rw [List.length_map] at hl
    have hpts : ∀ {H' : Hp}, Fr d H H' → Tx H H' → PtAll K d a.c_Log H' 10 ys (rs.map rowPt) := fun f x => (pt_rows ha).fr f x (Nat.le_refl _)
    have small : ∀ {x : Nat}, x ≤ 2000 → x ≤ sizeLine := fun h => Nat.le_trans h (by decide)
    refine ⟨_, (pss_cons (ps_set (i := 3) sc_law_bent_rows.nd rfl (.inl rfl) (pe_call (ok_law_draw T) (hr.mono (by first | decide | omega)) (by rfl) T.g_law_draw T.F_law_draw.kp (T.b_law_draw) .nil pass0 (pa_cons (pv 0) (pa_cons pe_int pa_nil))))
  (pss_cons (ps_if (pt_cmpR op_eq (pv 3) pe_int (nomark _))
  (pss_one (ps_ret (pv 2)))
  pss_nil)
  (pss_cons (ps_set (i := 4) sc_law_bent_rows.nd rfl (.inl rfl) (pe_tup (pa_cons pe_int (pa_cons pe_int (pa_cons pe_bl pa_nil)))))
  (pss_cons (ps_set (i := 5) sc_law_bent_rows.nd rfl (.inl rfl) (pe_call (ok_law_deep T) (hr.mono (by first | decide | omega)) (by rfl) T.g_law_deep T.F_law_deep.kp (T.b_law_deep) .nil pass0 (pa_cons (pe_call (ok_law_draw T) (hr.mono (by first | decide | omega)) (by rfl) T.g_law_draw T.F_law_draw.kp (T.b_law_draw) .nil pass0 (pa_cons (pv 0) (pa_cons pe_int pa_nil))) pa_nil)))
  (pss_cons (ps_if (pt_cmpR op_eq (pv 3) pe_int (nomark _))
  (pss_cons (ps_set (i := 6) sc_law_bent_rows.nd rfl (.inl rfl) (pe_lst (pa_cons (pe_callTy (kLstOf K rfl) (by rfl) T.z_list (by decide +kernel) (pa_cons (pv 2) pa_nil)) (pa_cons (pe_op (kRepA K rfl) (pe_tup (pa_cons (pv 4) pa_nil)) pe_int) (pa_cons (pe_op (kRepA K rfl) (pe_tup (pa_cons (pv 4) pa_nil)) pe_int) (pa_cons (pe_op (kCatA K rfl) (pe_op (kRepA K rfl) (pe_tup (pa_cons (pv 4) pa_nil)) pe_int) (pe_tup (pa_cons pe_non pa_nil))) (pa_cons pe_non (pa_cons pe_str (pa_cons pe_dnewK (pa_cons pe_int (pa_cons (pv 5) (pa_cons (pv 4) pa_nil))))))))))))
  (pss_one (ps_ret (pe_ix (kIxL K rfl) (pv 6) (pe_call (ok_law_draw T) (hr.mono (by first | decide | omega)) (by rfl) T.g_law_draw T.F_law_draw.kp (T.b_law_draw) .nil pass0 (pa_cons (pv 0) (pa_cons pe_int pa_nil))) (fun _ _ => rfl)))))
  pss_nil)
  (pss_cons (ps_set (i := 7) sc_law_bent_rows.nd rfl (.inl rfl) (pv 2))
  (pss_cons (ps_for PassesOwn.never rfl (pi_range1 rfl T.z_range (pa_cons (pe_op op_add pe_int (pe_call (ok_law_draw T) (hr.mono (by first | decide | omega)) (by rfl) T.g_law_draw T.F_law_draw.kp (T.b_law_draw) .nil pass0 (pa_cons (pv 0) (pa_cons pe_int pa_nil)))) pa_nil)) (pg_name (i := 8) sc_law_bent_rows.nd rfl (.inl rfl))
  (pss_cons (ps_set (i := 9) sc_law_bent_rows.nd rfl (.inl rfl) (pe_call (ok_law_draw T) (hr.mono (by first | decide | omega)) (by rfl) T.g_law_draw T.F_law_draw.kp (T.b_law_draw) .nil pass0 (pa_cons (pv 0) (pa_cons (pe_op op_add (pe_callB (kLen K rfl) (by rfl) T.z_len (by decide +kernel) (pa_cons (pv 2) pa_nil)) pe_int) pa_nil))))
  (pss_cons (ps_set (i := 10) sc_law_bent_rows.nd rfl (.inl rfl) (pv 4))
  (pss_cons (ps_if (pt_cmpR op_lt (pv 9) (pe_callB (kLen K rfl) (by rfl) T.z_len (by decide +kernel) (pa_cons (pv 2) pa_nil)) (nomark _))
  (pss_one (ps_set (i := 10) sc_law_bent_rows.nd rfl (.inl rfl) (pe_ix (kIxT K rfl) (pv 2) (pv 9) (fun _ _ => rfl))))
  pss_nil)
  (pss_one (ps_set (i := 7) sc_law_bent_rows.nd rfl (.inl rfl) (pe_op (kCatA K rfl) (pe_op (kCatA K rfl) (pe_slice (kSlA K rfl) (pv 7) po_none (po_some (pv 9))) (pe_tup (pa_cons (pe_call (ok_law_bent_row T) (hr.mono (by first | decide | omega)) (by rfl) T.g_law_bent_row T.F_law_bent_row.kp (T.b_law_bent_row) .nil pass0 (pa_cons (pv 0) (pa_cons (pv 1) (pa_cons (pv 10) pa_nil)))) pa_nil))) (pe_slice (kSlA K rfl) (pv 7) (po_some (pe_op op_add (pv 9) pe_int)) po_none))))))))
  (pss_one (ps_ret (pv 7)))))))))), ?_⟩
    walk_at "go"
    refine ⟨d, c, 5, rfl, hD, by decide, by decide, fun H1 kd f1 hD1 kd0 kd1 => ?_⟩
    have X1 := hD.tx f1
    walk_at "go"
    refine g_ite (fun e0 => ?_) (fun e0 => ?_)
    · walk_at "go"
      exact q _ _ (some (rs.map rowPt)) f1 hD1 ⟨p, ys, rfl, X1.seq hp, hpts f1 X1⟩ (fun pts e => by cases e; rw [List.length_map]; omega)
    walk_at "go"
    refine ⟨by show 3 ≤ sizeLine; decide, fun tp np => ?_⟩
    have s2 := same_new (o := .tup [.int 0, .int 1, .bl false]) np
    have hD2 := hD1.fr s2
    walk_at "go"
    refine ⟨d, c, 4, rfl, hD2, by decide, by decide, fun H3 k3 f3 hD3 k30 k31 => ?_⟩
    refine ⟨d, c, k3, rfl, hD3, k30, by omega, fun H4 vd s4 hvd => ?_⟩
    have hD4 := hD3.fr s4
    have f24 := f3.trans (Fr.of s4)
    have F4 := (f1.trans (Fr.of s2)).trans f24
    have X4 := hD.tx F4
    have gp := X4.seq hp
    have hpl : PartV K d a.c_Log H4 10 (.ref tp) (rowPt (0, 1, false)) := pt_row (dp_row ((hD2.tx f24).seq SqT.new))
    walk_at "go"
    refine g_ite (fun e1 => ?_) (fun e1 => ?_)
    · walk_at "go"
      refine ⟨_, _, rfl, .inr gp, fun l1 n1 => ?_⟩
      have s5 := same_new (o := .lst ys) n1
      have nl1 : l1 ≠ d := hD4.nd n1
      walk_at "go"
      refine ⟨by show 1 ≤ sizeLine; decide, fun t6 n6 => ?_⟩
      have s6 := same_new (o := .tup [.ref tp]) n6
      refine ⟨t6, 60, [.ref tp], rfl, rfl, SqT.new, by decide, by decide, by show 1 ≤ 1000; decide, fun p7 H7 s7 h7 => ?_⟩
      walk_at "go"
      refine ⟨by show 1 ≤ sizeLine; decide, fun t8 n8 => ?_⟩
      have s8 := same_new (o := .tup [.ref tp]) n8
      refine ⟨t8, 61, [.ref tp], rfl, rfl, SqT.new, by decide, by decide, by show 1 ≤ 1000; decide, fun p9 H9 s9 h9 => ?_⟩
      walk_at "go"
      refine ⟨by show 1 ≤ sizeLine; decide, fun t10 n10 => ?_⟩
      have s10 := same_new (o := .tup [.ref tp]) n10
      refine ⟨t10, 60, [.ref tp], rfl, rfl, SqT.new, by decide, by decide, by show 1 ≤ 1000; decide, fun p11 H11 s11 h11 => ?_⟩
      walk_at "go"
      refine ⟨by show 1 ≤ sizeLine; decide, fun t12 n12 => ?_⟩
      have s12 := same_new (o := .tup [.non]) n12
      refine g_catA ((Tx.of s12).seq h11) SqT.new (small (by rw [show ((List.replicate (60 : Int).toNat [V.ref tp]).flatten).length = 60 from by simp]; show 61 ≤ 2000; decide)) (fun p13 H13 s13 h13 => ?_)
      walk_at "go"
      refine fun m14 n14 => ?_
      have s14 := same_new (o := .dK []) n14
      have s79 := s8.trans s9
      have s911 := s10.trans s11
      have s113 : Same H11 H13 := fun b_ o_ e_ => s13 _ _ (s12 _ _ e_)
      have s713 := s79.trans (s911.trans s113)
      have s413 := s5.trans (s6.trans (s7.trans s713))
      have hD13 := hD4.fr s413
      have nm14 : m14 ≠ d := hD13.nd n14
      have hD14 := hD13.fr s14
      walk_at "go"
      refine ⟨by show 10 ≤ sizeLine; decide, fun L15 n15 => ?_⟩
      walk_at "go"
      have nL15 : L15 ≠ d := hD14.nd n15
      refine ⟨d, c, 10, rfl, hD14.new n15, by decide, by decide, fun H16 k16 f16 hD16 k160 k161 => ?_⟩
      refine g_pick (f16 _ _ nL15 upd_same) k160 (by show k16.toNat < 10; omega) (fun z hz => ?_)
      have fz := (Fr.new n15).trans f16
      have xz := hD14.tx fz
      have s414 := s413.trans s14
      have F4z := (Fr.of s414).trans fz
      have X4z := (Tx.of s414).trans xz
      have hplz := hpl.fr F4z X4z (Nat.le_refl _)
      have rep : ∀ k : Nat, PtAll K d a.c_Log H16 10 (List.replicate k [V.ref tp]).flatten (List.replicate k [rowPt (0, 1, false)]).flatten := fun k => (PtAll.cons hplz .nil).rep k
      have replen : ∀ k : Nat, ((List.replicate k [rowPt (0, 1, false)]).flatten).length = k := fun k => by simp
      obtain ⟨sh, hsh, hshl⟩ : ∃ sh, RowsV K d a.c_Log H16 10 z sh ∧ ∀ pts, sh = some pts → pts.length ≤ 1000 := by
        simp only [List.mem_cons, List.not_mem_nil, or_false] at hz
        rcases hz with rfl | rfl | rfl | rfl | rfl | rfl | rfl | rfl | rfl | rfl
        · exact ⟨none, .lst (fz _ _ nl1 ((s6.trans (s7.trans (s713.trans s14))) _ _ upd_same)) nl1, fun pts e => by cases e⟩
        · exact ⟨some _, ⟨p7, _, rfl, xz.seq ((Tx.of (s713.trans s14)).seq h7), rep _⟩, fun pts e => by cases e; rw [replen]; decide⟩
        · exact ⟨some _, ⟨p9, _, rfl, xz.seq ((Tx.of (s911.trans (s113.trans s14))).seq h9), rep _⟩, fun pts e => by cases e; rw [replen]; decide⟩
        · exact ⟨some _, ⟨p13, _, rfl, xz.seq ((Tx.of s14).seq h13), (rep _).app (.cons (pt := none) .non .nil)⟩, fun pts e => by cases e; rw [List.length_append, replen]; decide⟩
        · exact ⟨none, .non, fun pts e => by cases e⟩
        · exact ⟨none, .str _, fun pts e => by cases e⟩
        · exact ⟨none, .dct (fz _ _ nm14 upd_same) nm14, fun pts e => by cases e⟩
        · exact ⟨none, .int _, fun pts e => by cases e⟩
        · exact (hvd.fr F4z X4z).rows
        · exact ⟨some [none, none, none], ⟨tp, _, rfl, X4z.seq ((hD2.tx f24).seq SqT.new), .cons (.int _) (.cons (.int _) (.cons (.bl _) .nil))⟩, fun pts e => by cases e; decide⟩
      exact q _ _ sh (F4.trans F4z) hD16 hsh hshl
    walk_at "go"
    refine ⟨d, c, 2, rfl, hD4, by decide, by decide, fun H5 k5 f5 hD5 k50 k51 => ?_⟩
    walk_at "go"
    refine ⟨_, rfl, by omega, by omega, ?_⟩
    have F5 := F4.trans f5
    have X5 := hD.tx F5
    refine for_it walk_rng0 (fun i σ H' => ∃ (y4 y5 y7 y8 y9 : Option V) (fp : Addr) (xs : List V) (pts : List (Option (List V))), σ = [some (.ref d), some (.int n), some (.ref p), some (.int kd), some (.ref tp), y4, y5, some (.ref fp), y7, y8, y9] ∧ Fr d H4 H' ∧ Dice d c H' ∧ SqT K H' fp xs ∧ PtAll K d a.c_Log H' 10 xs pts ∧ pts.length ≤ 60 + i) ⟨_, _, _, _, _, p, ys, rs.map rowPt, rfl, f5, hD5, X5.seq hp, hpts F5 X5, by rw [List.length_map]; omega⟩ (fun _ _ _ _ _ => trivial) (fun i z σ H6 H6' hi hP hy => ?_) (fun σ H' hP => ?_)
    · obtain ⟨y4, y5, y7, y8, y9, fp, xs, pts, rfl, f6, hD6, hfp, hpa, hpl6⟩ := hP
      obtain ⟨rfl, rfl⟩ := hy
      have F6 := F4.trans f6
      have X6 := hD.tx F6
      walk_at "go"
      refine ⟨_, _, rfl, .inr (X6.seq hp), ?_⟩
      walk_at "go"
      refine ⟨d, c, ((ys.length : Nat) : Int) + 1, rfl, hD6, by omega, by omega, fun H7 at_ f7 hD7 at0 at1 => ?_⟩
      have f47 := f6.trans f7
      have F7 := F4.trans f47
      have X7 := hD.tx F7
      have hfp7 := (hD6.tx f7).seq hfp
      have hpa7 := hpa.fr f7 (hD6.tx f7) (Nat.le_refl _)
      have eat : at_ = ((at_.toNat : Nat) : Int) := by omega
      walk_at "gs"
      refine g_seq ?_
      walk_at "gs"
      refine seq_cut (fun σ' H' => ∃ (rv : V) (r : Row), H' = H7 ∧ Dp K H7 rv (rowD r) ∧ σ' = [some (.ref d), some (.int n), some (.ref p), some (.int kd), some (.ref tp), y4, y5, some (.ref fp), some (.int (i : Int)), some (.int at_), some rv]) ?_ ?_
      · rintro σ' H' ⟨rv, r, rfl, hrv7, rfl⟩
        walk_at "go"
        refine g_slA hfp7 (fun p8 H8 s8 h8 => ?_)
        rw [eat, cutV_take] at h8
        have hD8 := hD7.fr s8
        walk_at "go"
        refine ⟨d, c, n, rv, r, rfl, hD8, Dp.same s8 _ _ hrv7, fun H9 vb pt f9 hD9 hvb => ?_⟩
        walk_at "go"
        refine ⟨by show 1 ≤ sizeLine; decide, fun t10 n10 => ?_⟩
        have x89 := hD8.tx f9
        have hxl := hpa7.len
        refine g_catA ((Tx.new n10).seq (x89.seq h8)) SqT.new (small (by simp only [List.length_take, List.length_cons, List.length_nil]; omega)) (fun p11 H11 s11 h11 => ?_)
        walk_at "go"
        have s911 : Same H9 H11 := fun b_ o_ e_ => s11 _ _ (same_new n10 _ _ e_)
        have f711 := ((Fr.of s8).trans f9).trans (Fr.of s911)
        have x711 := hD7.tx f711
        refine g_slA (x711.seq hfp7) (fun p12 H12 s12 h12 => ?_)
        rw [show at_ + 1 = ((at_.toNat + 1 : Nat) : Int) by omega, cutV_drop] at h12
        refine g_catA ((Tx.of s12).seq h11) h12 (small (by simp only [List.length_append, List.length_take, List.length_drop, List.length_cons, List.length_nil]; omega)) (fun p13 H13 s13 h13 => ?_)
        have s1113 := s12.trans s13
        have f713 := f711.trans (Fr.of s1113)
        have x713 := x711.trans (Tx.of s1113)
        have s913 := s911.trans s1113
        walk_at "go"
        have hpa13 := hpa7.fr f713 x713 (Nat.le_refl _)
        refine ⟨_, _, _, _, _, p13, _, pts.take at_.toNat ++ [pt] ++ pts.drop (at_.toNat + 1), rfl, f47.trans f713, hD9.fr s913, h13, ((hpa13.take _).app (.cons (hvb.fr (Fr.of s913) (Tx.of s913) (Nat.le_refl _)) .nil)).app (hpa13.drop _), ?_⟩
        simp only [List.length_append, List.length_take, List.length_drop, List.length_cons, List.length_nil]
        omega
      · intro N hN
        walk_at "go"
        refine ⟨_, _, rfl, .inr (X7.seq hp), ?_⟩
        walk_at "go"
        refine g_ite (fun e2 => ?_) (fun e2 => ?_)
        · obtain ⟨y, gy⟩ : ∃ y, ys[at_.toNat]? = some y := ⟨_, List.getElem?_eq_getElem (by omega)⟩
          obtain ⟨dd, gd, rd⟩ := DpAll.get (Dp.txAll X7 _ _ (imAll_map im_rowD _) ha) gy
          obtain ⟨r, gr, rfl⟩ := map_at gd
          walk_at "go"
          refine g_ixT (X7.seq hp) (v := y) (atI_at at0 gy) ?_
          exact hN _ _ ⟨y, r, rfl, rd, rfl⟩
        · walk_at "go"
          exact hN _ _ ⟨.ref tp, (0, 1, false), rfl, dp_row ((hD2.tx ((f24.trans f6).trans f7)).seq SqT.new), rfl⟩
    · obtain ⟨y4, y5, y7, y8, y9, fp, xs, pts, rfl, f6, hD6, hfp, hpa, hpl6⟩ := hP
      walk_at "go"
      exact q _ _ (some pts) (F4.trans f6) hD6 ⟨fp, xs, rfl, hfp, hpa⟩ (fun pts' e => by cases e; omega)

end

section
variable {P : Program} {w : World} {K : PySem.W.Frag} {mg : Str → Option Value} {base : Heap} {a : Ad}
/-! ### webs compared -/
theorem eqv_rows : ∀ rs qs : List Row, PyData.eqvAll (rs.map rowD) (qs.map rowD) = decide (rs = qs)
  | [], [] => rfl
  | [], _ :: _ => rfl
  | _ :: _, [] => rfl
  | (x, y, f) :: r, (x', y', f') :: q => by
    show (((x == x') && ((y == y') && ((f == f') && true))) && PyData.eqvAll (r.map rowD) (q.map rowD)) = _
    rw [eqv_rows r q, Bool.eq_iff_iff]
    simp [and_assoc]
theorem eqv_rowsD (rs qs : List Row) : PyData.eqv (rowsD rs) (rowsD qs) = decide (rs = qs) := eqv_rows rs qs
theorem eqC_Web (T : Txt K mg a) : EqC K a.c_Web a.f_Web___eq := ⟨T.m_Web___eq.at_, T.m_Web___eq.fn, T.ne_Web, T.iC_Web.hm⟩
/-- the rules of == by the letters of the text -/
theorem kEqI {X : Cx} {n : Nat} {f C : Addr} {fd : FuncData} {ps : List Str} {sp : Sp} (hX : X.prog = P ∧ X.w = w ∧ X.K = K ∧ X.mg = mg ∧ X.base = base) (F : FnOk P w K mg base CX0 n f fd ps sp) (T : EqC K C f) (hb : Binds K fd ps []) (hr : Room n X.A) : OpR X (compareOp .Eq) (rCmpI K C sp id) := by
  obtain ⟨rfl, rfl, rfl, rfl, rfl⟩ := hX
  exact op_eqI F T hb pass0 hr
theorem kNeI {X : Cx} {n : Nat} {f C : Addr} {fd : FuncData} {ps : List Str} {sp : Sp} (hX : X.prog = P ∧ X.w = w ∧ X.K = K ∧ X.mg = mg ∧ X.base = base) (F : FnOk P w K mg base CX0 n f fd ps sp) (T : EqC K C f) (hb : Binds K fd ps []) (hr : Room (n + 1) X.A) : OpR X (compareOp .NotEq) (rCmpI K C sp not) := by
  obtain ⟨rfl, rfl, rfl, rfl, rfl⟩ := hX
  exact op_neI F T hb pass0 (fun _ _ _ _ => no_CX0) hr
/-- what a built-in class says of an own one -/
def noOwn (n : String) : Bool := (PySem.fastBuiltinMro n).elim false fun l => l.all fun v => match v with | .ref _ => false | _ => true
theorem sub_ty {n : String} {C : Addr} (h : noOwn n = true) : PySem.W.subIn K (.type n) (.ref C) = some false := by
  unfold noOwn at h
  show (PySem.fastBuiltinMro n).map (·.contains (Value.ref C)) = some false
  cases e : PySem.fastBuiltinMro n with
  | none => rw [e] at h; cases h
  | some l =>
    rw [e] at h
    have h' : (l.all fun v => match v with | .ref _ => false | _ => true) = true := h
    show some (l.contains (Value.ref C)) = some false
    refine congrArg some ?_
    rw [Bool.eq_false_iff]
    intro z
    rw [List.contains_iff_mem] at z
    have := List.all_eq_true.mp h' _ z
    cases this
theorem kit_tyO {n : String} {C : Addr} (h : noOwn n = true) (h3 : PySem.W.subIn K (.ref C) (.ref C) = some true) (h4 : PySem.W.typeIn K (.ref C) = some (.type "type")) : PySem.W.kitOne K (.type n) (.ref C) = some false := by
  unfold PySem.W.kitOne PySem.W.kitCls
  rw [if_neg (by intro z; cases (beq_iff_eq.mp z))]
  have h5 : (PySem.W.clsIn K C).isSome = true := by
    have h3' : PySem.W.mroIn K C (.ref C) = some true := h3
    unfold PySem.W.mroIn at h3'
    cases e : PySem.W.clsIn K C with
    | none => rw [e] at h3'; cases h3'
    | some _ => rfl
  show (if ((PySem.W.clsIn K C).isSome && PySem.W.typeIn K (.ref C) == some (.type "type")) = true then PySem.W.subIn K (.type n) (.ref C) else none) = _
  rw [if_pos (by rw [h5, h4]; exact beq_self_eq_true _), sub_ty h]
/-- x == y of an own class with offices and rows -/
def sp_own_eq (K : PySem.W.Frag) (C : Addr) : Sp := fun vs H Q _ => ∃ x y n rs, vs = [x, y] ∧ LogAt K C H x n rs ∧ ((∃ m qs, LogAt K C H y m qs ∧ Q (.bl (decide (n = m ∧ rs = qs))) H) ∨ (∃ t, TyX K H y t ∧ PySem.W.kitOne K t (.ref C) = some false ∧ Q (.bl false) H))
theorem ok_Web___eq (T : Txt K mg a) : FnOk P w K mg base CX0 1 a.f_Web___eq a.d_Web___eq ["self", "other"] (sp_own_eq K a.c_Web) := by
  refine T.F_Web___eq.ok sc_Web___eq (fun vs H Q E h => ?_) (fun cdv A outer s H vs Q E hr h => ?_)
  · obtain ⟨x, y, n, rs, rfl, _⟩ := h
    rfl
  · obtain ⟨_, y, n, rs, rfl, ⟨x, dx, p, rfl, hx, dxr⟩, h⟩ := h
    refine ⟨_, (pss_one (ps_ret (pe_and (pe_callB (kIsi K rfl) (by rfl) T.z_isinstance (by decide +kernel) (pa_cons (pv 1) (pa_cons (pe_glob (v := .ref a.c_Web) rfl T.gc_Web rfl) pa_nil))) (pe_and (pe_cmpR op_eq (kpFld K rfl (pv 0) rfl) (kpFld K rfl (pv 1) rfl) (nomark _)) (pe_one (pe_cmpR (kEqD K rfl hr.units) (kpFld K rfl (pv 0) rfl) (kpFld K rfl (pv 1) rfl) (nomark _))))))), ?_⟩
    rcases h with ⟨m, qs, ⟨y, dy, p2, rfl, hy, dyr⟩, q⟩ | ⟨t, ty, k, q⟩
    · walk_at "go"
      refine ⟨_, _, _, _, true, rfl, .own _, .base (.ins hy T.iC_Web.cl T.iC_Web.ha T.iC_Web.hn T.iC_Web.htk T.iC_Web.hm), kit_self, ?_⟩
      walk_at "go"
      refine ⟨_, _, _, _, _, rfl, hx, T.cl_Web, T.n_Web_offices, rfl, ?_⟩
      walk_at "go"
      refine ⟨_, _, _, _, _, rfl, hy, T.cl_Web, T.n_Web_offices, rfl, ?_⟩
      walk_at "go"
      refine g_ite (fun e => ?_) (fun e => ?_)
      · subst e
        walk_at "go"
        refine ⟨_, _, _, _, _, rfl, hx, T.cl_Web, T.n_Web_rows, rfl, ?_⟩
        walk_at "go"
        refine ⟨_, _, _, _, _, rfl, hy, T.cl_Web, T.n_Web_rows, rfl, ?_⟩
        refine ⟨_, _, dxr, dyr, shaped_rowsD rs, shaped_rowsD qs, ?_⟩
        rw [eqv_rowsD, show decide (rs = qs) = decide (n = n ∧ rs = qs) from by simp]
        exact q
      · rw [decide_eq_false (fun z => e z.1)] at q
        exact q
    · walk_at "go"
      refine ⟨_, _, _, _, false, rfl, .own _, ty, k, ?_⟩
      walk_at "go"
      exact q
theorem dp_slice {H : Hp} {xs : List V} {rs : List Row} {lo hi : Option Int} (h : DpAll K H xs (rs.map rowD)) : ∃ qs : List Row, DpAll K H (cutV xs lo hi) (qs.map rowD) ∧ (∀ r ∈ qs, r ∈ rs) ∧ qs.length ≤ rs.length := by
  refine ⟨(rs.drop (HT.sIx xs.length 0 lo)).take (HT.sIx xs.length xs.length hi - HT.sIx xs.length 0 lo), ?_, fun r hr => List.mem_of_mem_drop (List.mem_of_mem_take hr), ?_⟩
  · unfold cutV
    rw [List.map_take, List.map_drop]
    exact DpAll.take _ (DpAll.drop _ h)
  · rw [List.length_take, List.length_drop]
    omega
/-- rows out of rs, at most m of them -/
structure Out (K : PySem.W.Frag) (H : Hp) (p : Addr) (P : Row → Prop) (m : Nat) (qs : List Row) : Prop where
  dp : Dp K H (.ref p) (rowsD qs)
  ok : ∀ r ∈ qs, P r
  ln : qs.length ≤ m
theorem Out.same {H H' : Hp} {p : Addr} {P : Row → Prop} {m : Nat} {qs : List Row} (h : Out K H p P m qs) (s : Same H H') : Out K H' p P m qs := ⟨Dp.same s _ _ h.dp, h.ok, h.ln⟩
theorem g_slR {H : Hp} {Q : VK} {p : Addr} {P : Row → Prop} {m : Nat} {rs : List Row} {lo hi : Option Int} (h : Out K H p P m rs) (q : ∀ p' H' qs, Same H H' → Out K H' p' P m qs → Q (.ref p') H') : rSlA K (.ref p) lo hi H Q := by
  obtain ⟨_, xs, e, hp, ha⟩ := of_tup h.dp
  cases e
  refine g_slA hp fun p' H' s h' => ?_
  obtain ⟨qs, h1, h2, h3⟩ := dp_slice (lo := lo) (hi := hi) (Dp.sameAll s _ _ ha)
  exact q p' H' qs s ⟨.tup h' h1, fun r hr => h.ok r (h2 r hr), Nat.le_trans h3 h.ln⟩
theorem g_catR {H : Hp} {Q : VK} {a b : Addr} {P : Row → Prop} {m k : Nat} {rs qs : List Row} (ha : Out K H a P m rs) (hb : Out K H b P k qs) (hl : m + k ≤ 1000) (q : ∀ p H', Same H H' → Out K H' p P (m + k) (rs ++ qs) → Q (.ref p) H') : rCatA K (.ref a) (.ref b) H Q := by
  obtain ⟨_, xs, e, hp, hx⟩ := of_tup ha.dp
  cases e
  obtain ⟨_, ys, e, hq, hy⟩ := of_tup hb.dp
  cases e
  have l1 := DpAll.len hx
  have l2 := DpAll.len hy
  rw [List.length_map] at l1 l2
  have l3 := ha.ln
  have l4 := hb.ln
  refine g_catA hp hq (Nat.le_trans (show _ ≤ 1000 by omega) (by decide)) fun p H' s h' => q p H' s ⟨.tup h' ?_, fun r hr => ?_, ?_⟩
  · rw [List.map_append]
    exact DpAll.app (Dp.sameAll s _ _ hx) (Dp.sameAll s _ _ hy)
  · rcases List.mem_append.mp hr with hr | hr
    · exact ha.ok r hr
    · exact hb.ok r hr
  · rw [List.length_append]
    omega
/-- of another kind than C's -/
def Frn (K : PySem.W.Frag) (C : Addr) (H : Hp) (y : V) : Prop := ∃ t, TyX K H y t ∧ PySem.W.kitOne K t (.ref C) = some false ∧ PySem.W.notFirst K C t = true
theorem own_ref {C : Addr} {H : Hp} {x : V} {n : Int} {rs : List Row} (h : LogAt K C H x n rs) : ∃ p dx fs, x = .ref p ∧ H p = some (.ins C dx fs) := by
  obtain ⟨p, dx, q, rfl, e, _⟩ := h
  exact ⟨p, dx, _, rfl, e⟩
theorem own_ty {C : Addr} {H : Hp} {x : V} {n : Int} {rs : List Row} (c : C8.InsC K C) (h : LogAt K C H x n rs) : TyX K H x (.ref C) := by
  obtain ⟨p, dx, q, rfl, e, _⟩ := h
  exact .base (.ins e c.cl c.ha c.hn c.htk c.hm)
theorem first_self {C : Addr} : PySem.W.notFirst K C (.ref C) = true := by
  unfold PySem.W.notFirst
  rw [Bool.or_eq_true]
  exact .inl (beq_self_eq_true _)
section
variable {C : Addr} {H : Hp} {Q : VK} {x y : V} {n m : Int} {rs qs : List Row}
theorem g_eqL (c : C8.InsC K C) (hx : LogAt K C H x n rs) (hy : LogAt K C H y m qs) (q : Q (.bl (decide (n = m ∧ rs = qs))) H) : rCmpI K C (sp_own_eq K C) id x y H Q := by
  obtain ⟨p, dx, fs, rfl, e⟩ := own_ref hx
  exact ⟨p, dx, fs, _, rfl, e, own_ty c hy, first_self, _, _, n, rs, rfl, hx, .inl ⟨m, qs, hy, _, rfl, q⟩⟩
theorem g_neL (c : C8.InsC K C) (hx : LogAt K C H x n rs) (hy : LogAt K C H y m qs) (q : Q (.bl (!decide (n = m ∧ rs = qs))) H) : rCmpI K C (sp_own_eq K C) not x y H Q := by
  obtain ⟨p, dx, fs, rfl, e⟩ := own_ref hx
  exact ⟨p, dx, fs, _, rfl, e, own_ty c hy, first_self, _, _, n, rs, rfl, hx, .inl ⟨m, qs, hy, _, rfl, q⟩⟩
theorem g_eqF (hx : LogAt K C H x n rs) (hy : Frn K C H y) (q : Q (.bl false) H) : rCmpI K C (sp_own_eq K C) id x y H Q := by
  obtain ⟨p, dx, fs, rfl, e⟩ := own_ref hx
  obtain ⟨t, ty, k, nf⟩ := hy
  exact ⟨p, dx, fs, t, rfl, e, ty, nf, _, _, n, rs, rfl, hx, .inr ⟨t, ty, k, _, rfl, q⟩⟩
theorem g_neF (hx : LogAt K C H x n rs) (hy : Frn K C H y) (q : Q (.bl true) H) : rCmpI K C (sp_own_eq K C) not x y H Q := by
  obtain ⟨p, dx, fs, rfl, e⟩ := own_ref hx
  obtain ⟨t, ty, k, nf⟩ := hy
  exact ⟨p, dx, fs, t, rfl, e, ty, nf, _, _, n, rs, rfl, hx, .inr ⟨t, ty, k, _, rfl, q⟩⟩
end
theorem frn_ty {H : Hp} {C : Addr} {y : V} {s : String} (h3 : PySem.W.subIn K (.ref C) (.ref C) = some true) (h4 : PySem.W.typeIn K (.ref C) = some (.type "type")) (ty : TyX K H y (.type s)) (h : noOwn s = true) : Frn K C H y :=
  ⟨_, ty, kit_tyO h h3 h4, by
    unfold PySem.W.notFirst
    rw [sub_ty h, Bool.or_eq_true]
    exact .inr (beq_self_eq_true _)⟩
theorem frn_own {H : Hp} {C D : Addr} {y : V} {n : Int} {rs : List Row} (c : C8.InsC K D) (h1 : PySem.W.subIn K (.ref D) (.ref C) = some false) (h2 : PySem.W.subIn K (.ref D) (.ref D) = some true) (h3 : PySem.W.subIn K (.ref C) (.ref C) = some true) (h4 : PySem.W.typeIn K (.ref C) = some (.type "type"))
    (hy : LogAt K D H y n rs) : Frn K C H y :=
  ⟨_, own_ty c hy, kit_two h1 h2 h3 h4, by
    unfold PySem.W.notFirst
    rw [h1, Bool.or_eq_true]
    exact .inr (beq_self_eq_true _)⟩
/-- the things of other kinds -/
inductive Thg (K : PySem.W.Frag) (W : Addr) (H : Hp) : V → Prop
  | non : Thg K W H .non
  | int (i : Int) : Thg K W H (.int i)
  | bl (b : Bool) : Thg K W H (.bl b)
  | str (s : Str) : Thg K W H (.str s)
  | lst {p : Addr} {xs : List V} (h : H p = some (.lst xs)) : Thg K W H (.ref p)
  | tup {p : Addr} {xs : List V} (h : SqT K H p xs) : Thg K W H (.ref p)
  | dct {p : Addr} {kvs : List (Key × V)} (h : H p = some (.dK kvs)) : Thg K W H (.ref p)
  | web {x : V} {n : Int} {rs : List Row} (h : LogAt K W H x n rs) : Thg K W H x
theorem Thg.same {W : Addr} {H H' : Hp} {x : V} (s : Same H H') (h : Thg K W H x) : Thg K W H' x := by
  cases h with
  | non => exact .non
  | int i => exact .int i
  | bl b => exact .bl b
  | str z => exact .str z
  | lst h => exact .lst (s _ _ h)
  | tup h => exact .tup ((Tx.of s).seq h)
  | dct h => exact .dct (s _ _ h)
  | web h => exact .web (h.tx (Tx.of s))
theorem Thg.frn (T : Txt K mg a) {H : Hp} {x : V} (h : Thg K a.c_Log H x) : Frn K a.c_Web H x := by
  have h3 := T.sb_Web_Web
  have h4 := T.ty_Web
  cases h with
  | non => exact frn_ty h3 h4 (.base .non) (by decide +kernel)
  | int i => exact frn_ty h3 h4 (.base (.int i)) (by decide +kernel)
  | bl b => exact frn_ty h3 h4 (.base (.bl b)) (by decide +kernel)
  | str z => exact frn_ty h3 h4 (.base (.str z)) (by decide +kernel)
  | lst h => exact frn_ty h3 h4 (.base (.lst h)) (by decide +kernel)
  | tup h => exact frn_ty h3 h4 (TyX.tup' h) (by decide +kernel)
  | dct h => exact frn_ty h3 h4 (.base (.dK h)) (by decide +kernel)
  | web h => exact frn_own T.iC_Log T.sb_Log_Web T.sb_Log_Log h3 h4 h
def GoodWeb (n : Int) (rs : List Row) : Prop := 1 ≤ n ∧ n ≤ 12 ∧ rs.length ≤ 60 ∧ ∀ r ∈ rs, WebRow n r
theorem part_good {n : Int} {rs : List Row} (g : GoodWeb n rs) : partOf (.int n) (some (rs.map rowPt)) = .non := by
  show (if 1 ≤ n ∧ n ≤ 12 then partR n (some (rs.map rowPt)) else .str "offices") = .non
  rw [if_pos ⟨g.1, g.2.1⟩, partR_some, if_neg (by rw [List.length_map]; have := g.2.2.1; omega), first_none]
  · rfl
  · intro j pt hj
    obtain ⟨r, gr, rfl⟩ := map_at hj
    exact copyB_good (g.2.2.2 r (List.mem_of_getElem? gr))
theorem mk_web {C CL CB x dx p : Addr} {n : Int} {rs : List Row} {H1 : Hp} {QQ : Hp → Prop} {E : XK} (hrv : Dp K H1 (.ref p) (rowsD rs)) (hg : GoodWeb n rs) (nx : H1 x = none) (ndx : H1 dx = none) (nxd : dx ≠ x)
    (q : ∀ H2, Same H1 H2 → LogAt K C H2 (.ref x) n rs → QQ H2) : sp_Web_init K C CL CB (.ref x :: ([.int n, .ref p] ++ [])) (upd (upd H1 dx (.own x)) x (.ins C dx [])) (fun v H2 => v = .non ∧ QQ H2) E := by
  obtain ⟨_, xs, e, hp, ha⟩ := of_tup (Dp.same ((same_new (o := .own x) ndx).trans (same_new (o := .ins C dx []) (by rw [upd_ne nxd.symm]; exact nx))) _ _ hrv)
  cases e
  exact ⟨x, dx, 0, .int n, .ref p, 10, some (rs.map rowPt), rfl, upd_same, .int n, ⟨p, xs, rfl, hp, pt_rows ha⟩, .inl ⟨part_good hg, fun H5 f5 hx5 => ⟨rfl, q H5 (log_made nx ndx f5) ⟨x, dx, p, rfl, hx5, Dp.same (log_made nx ndx f5) _ _ hrv⟩⟩⟩⟩

end

section
variable {P : Program} {w : World} {K : PySem.W.Frag} {mg : Str → Option Value} {base : Heap} {a : Ad}
/-! ### whether webs are equal just where both are; the law -/
def lawLevel : Nat := 13
/-- a pair (offices, rows) of a web -/
def PrV (K : PySem.W.Frag) (H : Hp) (x : V) : Prop := ∃ t m p qs, x = .ref t ∧ SqT K H t [.int m, .ref p] ∧ Dp K H (.ref p) (rowsD qs) ∧ GoodWeb m qs
theorem PrV.tx {H H' : Hp} {x : V} (t : Tx H H') (h : PrV K H x) : PrV K H' x := by
  obtain ⟨a, m, p, qs, e, h1, h2, h3⟩ := h
  exact ⟨a, m, p, qs, e, t.seq h1, Dp.tx t _ _ (im_rowsD qs) h2, h3⟩
theorem dp_rev {H : Hp} : ∀ {vs : List V} {ds : List PyData}, DpAll K H vs ds → DpAll K H vs.reverse ds.reverse
  | _, _, .nil => .nil
  | _, _, .cons p q => by
    rw [List.reverse_cons, List.reverse_cons]
    exact DpAll.snoc (dp_rev q) p
theorem GoodWeb.sub {n : Int} {rs qs : List Row} (g : GoodWeb n rs) (h : ∀ r ∈ qs, WebRow n r) (hl : qs.length ≤ 60) : GoodWeb n qs := ⟨g.1, g.2.1, hl, h⟩
theorem eqv_g {n m : Int} {rs qs : List Row} : (decide (m = n) && decide (qs = rs)) = decide (n = m ∧ rs = qs) := by
  rw [Bool.eq_iff_iff, Bool.and_eq_true, decide_eq_true_iff, decide_eq_true_iff, decide_eq_true_iff]
  exact ⟨fun z => ⟨z.1.symm, z.2.symm⟩, fun z => ⟨z.1.symm, z.2.symm⟩⟩
/-- the rows with another one in the place of one -/
theorem g_swap {n : Int} {rs : List Row} {k : Nat} {r : Row} (g : GoodWeb n rs) (hk : k < rs.length) (hr : WebRow n r) : GoodWeb n (rs.take k ++ [r] ++ rs.drop (k + 1)) := by
  refine g.sub (fun x hx => ?_) ?_
  · rcases List.mem_append.mp hx with hx | hx
    · rcases List.mem_append.mp hx with hx | hx
      · exact g.2.2.2 x (List.mem_of_mem_take hx)
      · rw [List.mem_singleton.mp hx]
        exact hr
    · exact g.2.2.2 x (List.mem_of_mem_drop hx)
  · have := g.2.2.1
    simp only [List.length_append, List.length_take, List.length_drop, List.length_cons, List.length_nil]
    omega
def sp_law_equal_right (K : PySem.W.Frag) : Sp := fun vs H Q _ => ∃ (d c : Addr) (n : Int) (p : Addr) (rs : List Row), vs = [.ref d, .int n, .ref p] ∧ Dice d c H ∧ Dp K H (.ref p) (rowsD rs) ∧ GoodWeb n rs ∧ ∀ H', Fr d H H' → Dice d c H' → Q (.bl true) H'
set_option maxHeartbeats 8000000 in
theorem ok_law_equal_right (T : Txt K mg a) : FnOk P w K mg base CX0 11 a.f_law_equal_right a.d_law_equal_right ["_law_hand_here", "_law_offices", "_law_rows"] (sp_law_equal_right K) := by
  refine T.F_law_equal_right.ok sc_law_equal_right (fun vs H Q E h => ?_) (fun cdv A outer s H vs Q E hr h => ?_)
  · obtain ⟨d, c, n, p, rs, rfl, _⟩ := h
    rfl
  · obtain ⟨d, c, n, p, rs, rfl, hD, hrv, hG, q⟩ := h
    obtain ⟨_, ys, e, hp, ha⟩ := of_tup hrv
    cases e
    have hl := DpAll.len ha
    rw [List.length_map] at hl
    have l60 := hG.2.2.1
    refine ⟨_, (pss_cons (ps_set (i := 3) sc_law_equal_right.nd rfl (.inl rfl) (pe_make T.mk_Web (ok_Web_init T) (hr.mono (by first | decide | omega)) (by rfl) T.gc_Web T.b_Web_init .nil passL (pa_cons (pv 1) (pa_cons (pv 2) pa_nil))))
  (pss_cons (ps_set (i := 4) sc_law_equal_right.nd rfl (.inl rfl) (pe_lst (pa_cons (pe_tup (pa_cons (pv 1) (pa_cons (pv 2) pa_nil))) (pa_cons (pe_tup (pa_cons (pv 1) (pa_cons (keRevT K rfl (pv 2)) pa_nil))) (pa_cons (pe_tup (pa_cons (pv 1) (pa_cons (pe_slice (kSlA K rfl) (pv 2) (po_some pe_int) po_none) pa_nil))) (pa_cons (pe_tup (pa_cons (pv 1) (pa_cons (pe_slice (kSlA K rfl) (pv 2) po_none (po_some (pe_un un_neg pe_int))) pa_nil))) (pa_cons (pe_tup (pa_cons pe_int (pa_cons (pv 2) pa_nil))) pa_nil)))))))
  (pss_cons (ps_if (pt_cmpR op_gt (pe_callB (kLen K rfl) (by rfl) T.z_len (by decide +kernel) (pa_cons (pv 2) pa_nil)) pe_int (nomark _))
  (pss_cons (ps_set (i := 5) sc_law_equal_right.nd rfl (.inl rfl) (pe_call (ok_law_draw T) (hr.mono (by first | decide | omega)) (by rfl) T.g_law_draw T.F_law_draw.kp (T.b_law_draw) .nil pass0 (pa_cons (pv 0) (pa_cons (pe_callB (kLen K rfl) (by rfl) T.z_len (by decide +kernel) (pa_cons (pv 2) pa_nil)) pa_nil))))
  (pss_cons (ps_asg (pe_ix (kIxT K rfl) (pv 2) (pv 5) (fun _ _ => rfl)) (kgTup K rfl rfl (pgs_cons (pg_name (i := 6) sc_law_equal_right.nd rfl (.inl rfl)) (pgs_cons (pg_name (i := 7) sc_law_equal_right.nd rfl (.inl rfl)) (pgs_cons (pg_name (i := 8) sc_law_equal_right.nd rfl (.inl rfl)) pgs_nil)))))
  (pss_cons (ps_expr (pe_bm PySem.F.plainAttrs_list PySem.F.slot_list_append PySem.F.type_list_append mt_append (pv 4) (pa_cons (pe_tup (pa_cons (pv 1) (pa_cons (pe_op (kCatA K rfl) (pe_op (kCatA K rfl) (pe_slice (kSlA K rfl) (pv 2) po_none (po_some (pv 5))) (pe_tup (pa_cons (pe_tup (pa_cons (pv 6) (pa_cons (pv 7) (pa_cons (pe_not (pv 8)) pa_nil)))) pa_nil))) (pe_slice (kSlA K rfl) (pv 2) (po_some (pe_op op_add (pv 5) pe_int)) po_none)) pa_nil))) pa_nil)))
  (pss_one (ps_expr (pe_bm PySem.F.plainAttrs_list PySem.F.slot_list_append PySem.F.type_list_append mt_append (pv 4) (pa_cons (pe_tup (pa_cons (pv 1) (pa_cons (pe_op (kCatA K rfl) (pe_op (kCatA K rfl) (pe_slice (kSlA K rfl) (pv 2) po_none (po_some (pv 5))) (pe_tup (pa_cons (pe_tup (pa_cons (pv 7) (pa_cons (pv 6) (pa_cons (pv 8) pa_nil)))) pa_nil))) (pe_slice (kSlA K rfl) (pv 2) (po_some (pe_op op_add (pv 5) pe_int)) po_none)) pa_nil))) pa_nil)))))))
  pss_nil)
  (pss_cons (ps_for PassesOwn.never rfl (kiList K rfl (pv 4)) (kgTup K rfl rfl (pgs_cons (pg_name (i := 9) sc_law_equal_right.nd rfl (.inl rfl)) (pgs_cons (pg_name (i := 10) sc_law_equal_right.nd rfl (.inl rfl)) pgs_nil)))
  (pss_cons (ps_set (i := 11) sc_law_equal_right.nd rfl (.inl rfl) (pe_and (pe_cmpR op_eq (pv 9) (pv 1) (nomark _)) (pe_one (pe_cmpR (kEqD K rfl hr.units) (pv 10) (pv 2) (nomark _)))))
  (pss_one (ps_if (PW.pt (pw_or (pt_cmpR op_ne (pe_cmpR (kEqI ⟨rfl, rfl, rfl, rfl, rfl⟩ (ok_Web___eq T) (eqC_Web T) T.b_Web___eq (hr.mono (by first | decide | omega))) (pv 3) (pe_make T.mk_Web (ok_Web_init T) (hr.mono (by first | decide | omega)) (by rfl) T.gc_Web T.b_Web_init .nil passL (pa_cons (pv 9) (pa_cons (pv 10) pa_nil))) (nomark _)) (pv 11) (nomark _)) (pw_or1 (pt_cmpR op_eq (pe_cmpR (kNeI ⟨rfl, rfl, rfl, rfl, rfl⟩ (ok_Web___eq T) (eqC_Web T) T.b_Web___eq (hr.mono (by first | decide | omega))) (pe_make T.mk_Web (ok_Web_init T) (hr.mono (by first | decide | omega)) (by rfl) T.gc_Web T.b_Web_init .nil passL (pa_cons (pv 9) (pa_cons (pv 10) pa_nil))) (pv 3) (nomark _)) (pv 11) (nomark _)))))
  (pss_one (ps_ret pe_bl))
  pss_nil))))
  (pss_cons (ps_for PassesOwn.never rfl (kiList K rfl (pe_lst (pa_cons (pe_tup (pa_cons (pv 1) (pa_cons (pv 2) pa_nil))) (pa_cons (pv 2) (pa_cons (pv 1) (pa_cons pe_non (pa_cons pe_str (pa_cons (pe_lst (pa_cons (pv 3) pa_nil)) (pa_cons (pe_make T.mk_Log (ok_Log_init T) (hr.mono (by first | decide | omega)) (by rfl) T.gc_Log T.b_Log_init .nil pass0 (pa_cons (pv 1) (pa_cons (pe_tup pa_nil) pa_nil))) pa_nil))))))))) (pg_name (i := 7) sc_law_equal_right.nd rfl (.inl rfl))
  (pss_one (ps_if (PW.pt (pw_or (pt_cmpR (kEqI ⟨rfl, rfl, rfl, rfl, rfl⟩ (ok_Web___eq T) (eqC_Web T) T.b_Web___eq (hr.mono (by first | decide | omega))) (pv 3) (pv 7) (nomark _)) (pw_or1 (pt_not (pt_cmpR (kNeI ⟨rfl, rfl, rfl, rfl, rfl⟩ (ok_Web___eq T) (eqC_Web T) T.b_Web___eq (hr.mono (by first | decide | omega))) (pv 3) (pv 7) (nomark _))))))
  (pss_one (ps_ret pe_bl))
  pss_nil)))
  (pss_one (ps_ret (pe_not (pe_cmpR (kEqI ⟨rfl, rfl, rfl, rfl, rfl⟩ (ok_Web___eq T) (eqC_Web T) T.b_Web___eq (hr.mono (by first | decide | omega))) (pe_make T.mk_Web (ok_Web_init T) (hr.mono (by first | decide | omega)) (by rfl) T.gc_Web T.b_Web_init .nil passL (pa_cons (pv 1) (pa_cons (pe_tup pa_nil) pa_nil))) (pe_make T.mk_Log (ok_Log_init T) (hr.mono (by first | decide | omega)) (by rfl) T.gc_Log T.b_Log_init .nil pass0 (pa_cons (pv 1) (pa_cons (pe_tup pa_nil) pa_nil))) (nomark _)))))))))), ?_⟩
    walk_at "go"
    intro x dx nx ndx nxd
    refine mk_web hrv hG nx ndx nxd fun H1 s1 hx1 => ?_
    have o1 : Out K H1 p (WebRow n) rs.length rs := ⟨Dp.same s1 _ _ hrv, hG.2.2.2, Nat.le_refl _⟩
    have hp1 := (Tx.of s1).seq hp
    walk_at "go"
    refine ⟨by show 2 ≤ sizeLine; decide, fun t2 n2 => ?_⟩
    have s2 := same_new (o := .tup [.int n, .ref p]) n2
    walk_at "go"
    refine g_revT ?_
    walk_at "go"
    refine ⟨p, ys, rfl, (Tx.of s2).seq hp1, fun p3 n3 => ?_⟩
    have s3 := same_new (o := .tup ys.reverse) n3
    walk_at "go"
    refine ⟨by show 2 ≤ sizeLine; decide, fun t4 n4 => ?_⟩
    have s4 := same_new (o := .tup [.int n, .ref p3]) n4
    walk_at "go"
    refine g_slR (o1.same (s2.trans (s3.trans s4))) fun p5 H5 qs5 s5 o5 => ?_
    walk_at "go"
    refine ⟨by show 2 ≤ sizeLine; decide, fun t6 n6 => ?_⟩
    have s6 := same_new (o := .tup [.int n, .ref p5]) n6
    have s26 := s2.trans (s3.trans (s4.trans (s5.trans s6)))
    walk_at "go"
    refine g_slR (o1.same s26) fun p7 H7 qs7 s7 o7 => ?_
    walk_at "go"
    refine ⟨by show 2 ≤ sizeLine; decide, fun t8 n8 => ?_⟩
    have s8 := same_new (o := .tup [.int n, .ref p7]) n8
    walk_at "go"
    refine ⟨by show 2 ≤ sizeLine; decide, fun t9 n9 => ?_⟩
    have s9 := same_new (o := .tup [.int 12, .ref p]) n9
    walk_at "go"
    refine ⟨by show 5 ≤ sizeLine; decide, fun F nF => ?_⟩
    have hF := @upd_same (upd (upd H7 t8 (HO.tup [V.int n, V.ref p7])) t9 (HO.tup [V.int 12, V.ref p])) F (.lst [.ref t2, .ref t4, .ref t6, .ref t8, .ref t9])
    have s78 := s8.trans s9
    have s29 := s26.trans (s7.trans s78)
    have s19 := s1.trans s29
    have nF0 : H F = none := s19.free nF
    have s10 := same_new (o := .lst [.ref t2, .ref t4, .ref t6, .ref t8, .ref t9]) nF
    have pr : ∀ {H' H'' : Hp} {t p' : Addr} {m : Int} {qs : List Row}, SqT K H' t [.int m, .ref p'] → Dp K H' (.ref p') (rowsD qs) → GoodWeb m qs → Same H' H'' → PrV K H'' (.ref t) := fun h1 h2 h3 s => PrV.tx (Tx.of s) ⟨_, _, _, _, rfl, h1, h2, h3⟩
    have hr1 : Dp K H1 (.ref p) (rowsD rs) := o1.dp
    have hr9 := Dp.same s29 _ _ hr1
    have hpr : ∀ y ∈ [V.ref t2, .ref t4, .ref t6, .ref t8, .ref t9], PrV K (upd (upd (upd H7 t8 (HO.tup [V.int n, V.ref p7])) t9 (HO.tup [V.int 12, V.ref p])) F (.lst [.ref t2, .ref t4, .ref t6, .ref t8, .ref t9])) y := fun y hy => by
      simp only [List.mem_cons, List.not_mem_nil, or_false] at hy
      rcases hy with rfl | rfl | rfl | rfl | rfl
      · exact pr SqT.new (Dp.same s2 _ _ hr1) hG ((s3.trans (s4.trans (s5.trans s6))).trans ((s7.trans s78).trans s10))
      · refine pr (qs := rs.reverse) SqT.new (Dp.same s4 _ _ (.tup SqT.new ?_)) (hG.sub (fun r hr => hG.2.2.2 r (List.mem_reverse.mp hr)) (by rw [List.length_reverse]; exact l60)) ((s5.trans s6).trans ((s7.trans s78).trans s10))
        rw [List.map_reverse]
        exact dp_rev (Dp.sameAll (s1.trans (s2.trans s3)) _ _ ha)
      · exact pr SqT.new (Dp.same s6 _ _ o5.dp) (hG.sub o5.ok (Nat.le_trans o5.ln l60)) ((s7.trans s78).trans s10)
      · exact pr SqT.new (Dp.same s8 _ _ o7.dp) (hG.sub o7.ok (Nat.le_trans o7.ln l60)) (s9.trans s10)
      · exact pr SqT.new hr9 ⟨by decide, by decide, l60, fun r hr => by obtain ⟨a1, a2, a3, a4, a5⟩ := hG.2.2.2 r hr; have := hG.2.1; exact ⟨a1, by omega, a3, by omega, a5⟩⟩ s10
    generalize hxs : [V.ref t2, .ref t4, .ref t6, .ref t8, .ref t9] = xs at hF s10 hpr ⊢
    have hxl : xs.length = 5 := by rw [← hxs]; rfl
    have s110 := s19.trans s10
    have hx10 := hx1.tx (Tx.of (s29.trans s10))
    have hD10 := hD.fr s110
    generalize upd (upd (upd H7 t8 (HO.tup [V.int n, V.ref p7])) t9 (HO.tup [V.int 12, V.ref p])) F (.lst xs) = H10 at hF s10 hpr hx10 hD10 s110 ⊢
    walk_at "gs"
    refine seq_cut (fun σ' H' => ∃ (y5 y6 y7 y8 y9 y10 y11 : Option V) (xs' : List V), σ' = [some (.ref d), some (.int n), some (.ref p), some (.ref x), some (.ref F), y5, y6, y7, y8, y9, y10, y11] ∧ Fr d H H' ∧ Dice d c H' ∧ H' F = some (.lst xs') ∧ (∀ y ∈ xs', PrV K H' y) ∧ xs'.length ≤ 7 ∧ LogAt K a.c_Web H' (.ref x) n rs) ?_ ?_
    · rintro σ' H11 ⟨y5, y6, y7, y8, y9, y10, y11, xs', rfl, f11, hD11, hF11, hpr11, hxl11, hx11⟩
      have X11 := hD.tx f11
      have hr11 := Dp.tx X11 _ _ (im_rowsD rs) hrv
      walk_at "go"
      refine ⟨F, rfl, ⟨_, SqL.at hF11⟩, ?_⟩
      refine for_it (walk_list (K := K) (a := F) (xs := xs')) (fun i σ H' => ∃ (y5 y6 y7 y8 y9 y10 y11 : Option V), σ = [some (.ref d), some (.int n), some (.ref p), some (.ref x), some (.ref F), y5, y6, y7, y8, y9, y10, y11] ∧ Same H11 H') ⟨_, _, _, _, _, _, _, rfl, Same.refl _⟩ (fun i σ H' _ hP => ?_) (fun i z σ H12 H12' hi hP hy => ?_) (fun σ H12 hP => ?_)
      · obtain ⟨y5, y6, y7, y8, y9, y10, y11, rfl, s12⟩ := hP
        exact SqL.at (s12 _ _ hF11)
      · obtain ⟨y5, y6, y7, y8, y9, y10, y11, rfl, s12⟩ := hP
        obtain ⟨rfl, hz⟩ := hy
        obtain ⟨t, m, p', qs, rfl, ht, hq, hGq⟩ := (hpr11 _ (List.mem_of_getElem? hz)).tx (Tx.of s12)
        have hr12 := Dp.same s12 _ _ hr11
        have hx12 := hx11.tx (Tx.of s12)
        refine ⟨t, _, rfl, ht, rfl, _, _, rfl, _, _, rfl, rfl, ?_⟩
        walk_at "gs"
        refine seq_cut (fun σ' H' => H' = H12' ∧ σ' = [some (.ref d), some (.int n), some (.ref p), some (.ref x), some (.ref F), y5, y6, y7, y8, some (.int m), some (.ref p'), some (.bl (decide (n = m ∧ rs = qs)))]) ?_ ?_
        · rintro σ' H' ⟨rfl, rfl⟩
          walk_at "go"
          intro x13 dx13 nx13 ndx13 nxd13
          refine mk_web hq hGq nx13 ndx13 nxd13 fun H13 s13 hx13 => ?_
          refine g_eqL T.iC_Web (hx12.tx (Tx.of s13)) hx13 ?_
          walk_at "go"
          rw [show ∀ b : Bool, (!(b == b)) = false from fun b => by cases b <;> rfl]
          walk_at "go"
          intro x14 dx14 nx14 ndx14 nxd14
          refine mk_web (Dp.same s13 _ _ hq) hGq nx14 ndx14 nxd14 fun H14 s14 hx14 => ?_
          walk_at "go"
          refine g_neL T.iC_Web hx14 (hx12.tx (Tx.of (s13.trans s14))) ?_
          walk_at "go"
          rw [show decide (m = n ∧ qs = rs) = decide (n = m ∧ rs = qs) from by
            rw [Bool.eq_iff_iff, decide_eq_true_iff, decide_eq_true_iff]
            exact ⟨fun z => ⟨z.1.symm, z.2.symm⟩, fun z => ⟨z.1.symm, z.2.symm⟩⟩]
          rw [show ∀ b : Bool, ((!b) == b) = false from fun b => by cases b <;> rfl]
          walk_at "go"
          exact ⟨_, _, _, _, _, _, _, rfl, s12.trans (s13.trans s14)⟩
        · intro N hN
          walk_at "go"
          refine g_ite (fun e1 => ?_) (fun e1 => ?_)
          · walk_at "go"
            refine ⟨_, _, hq, hr12, shaped_rowsD qs, shaped_rowsD rs, ?_⟩
            rw [eqv_rowsD]
            walk_at "go"
            refine hN _ _ ⟨rfl, ?_⟩
            subst e1
            rw [show decide (qs = rs) = decide (m = m ∧ rs = qs) from by
              rw [Bool.eq_iff_iff, decide_eq_true_iff, decide_eq_true_iff]
              exact ⟨fun z => ⟨rfl, z.symm⟩, fun z => z.2.symm⟩]
            rfl
          · walk_at "go"
            refine hN _ _ ⟨rfl, ?_⟩
            rw [decide_eq_false (p := n = m ∧ rs = qs) (fun z => e1 z.1.symm)]
            rfl
      · obtain ⟨y5, y6, y7, y8, y9, y10, y11, rfl, s12⟩ := hP
        have hr12 := Dp.same s12 _ _ hr11
        have hx12 := hx11.tx (Tx.of s12)
        obtain ⟨_, zs, e, hp12, _⟩ := of_tup hr12
        cases e
        walk_at "go"
        refine ⟨by show 2 ≤ sizeLine; decide, fun ta na => ?_⟩
        have sa := same_new (o := .tup [.int n, .ref p]) na
        walk_at "go"
        refine ⟨by show 1 ≤ sizeLine; decide, fun tb nb => ?_⟩
        have sb := same_new (o := .lst [.ref x]) nb
        walk_at "go"
        refine ⟨Nat.zero_le _, fun tc nc => ?_⟩
        have sc := same_new (o := .tup []) nc
        walk_at "go"
        intro xl dxl nxl ndxl nxdl
        refine ⟨xl, dxl, n, tc, rfl, upd_same, (Tx.of ((same_new (o := .own xl) ndxl).trans (same_new (o := .ins a.c_Log dxl []) (by rw [upd_ne nxdl.symm]; exact nxl)))).seq SqT.new, hG.1, hG.2.1, fun H15 f15 hx15 => ⟨rfl, ?_⟩⟩
        have s15 := log_made nxl ndxl f15
        walk_at "go"
        refine ⟨by show 7 ≤ sizeLine; decide, fun L nL => ?_⟩
        walk_at "go"
        have sL := same_new (o := .lst [.ref ta, .ref p, .int n, .non, .str (Str.ofString "web"), .ref tb, .ref xl]) nL
        have sbc := sb.trans sc
        have sal := sa.trans (sbc.trans s15)
        have sAll := sal.trans sL
        have hth : ∀ v ∈ [V.ref ta, .ref p, .int n, .non, .str (Str.ofString "web"), .ref tb, .ref xl], Thg K a.c_Log (upd H15 L (.lst [.ref ta, .ref p, .int n, .non, .str (Str.ofString "web"), .ref tb, .ref xl])) v := fun v hv => by
          refine Thg.same sL ?_
          simp only [List.mem_cons, List.not_mem_nil, or_false] at hv
          rcases hv with rfl | rfl | rfl | rfl | rfl | rfl | rfl
          · exact .tup ((Tx.of (sbc.trans s15)).seq SqT.new)
          · exact .tup ((Tx.of sal).seq hp12)
          · exact .int _
          · exact .non
          · exact .str _
          · exact .lst ((sc.trans s15) _ _ upd_same)
          · exact .web (n := n) (rs := []) ⟨xl, dxl, tc, rfl, hx15, .tup ((Tx.of s15).seq SqT.new) .nil⟩
        have hL := @upd_same H15 L (.lst [.ref ta, .ref p, .int n, .non, .str (Str.ofString "web"), .ref tb, .ref xl])
        generalize [V.ref ta, .ref p, .int n, .non, .str (Str.ofString "web"), .ref tb, .ref xl] = Ls at sAll hth hL ⊢
        generalize upd H15 L (.lst Ls) = H16 at sAll hth hL ⊢
        refine ⟨L, rfl, ⟨_, SqL.at hL⟩, ?_⟩
        refine for_it (walk_list (K := K) (a := L) (xs := Ls)) (fun i σ H' => ∃ (y5 y6 y7 y8 y9 y10 y11 : Option V), σ = [some (.ref d), some (.int n), some (.ref p), some (.ref x), some (.ref F), y5, y6, y7, y8, y9, y10, y11] ∧ Same H16 H') ⟨_, _, _, _, _, _, _, rfl, Same.refl _⟩ (fun i σ H' _ hP => ?_) (fun i z σ H17 H17' hi hP hy => ?_) (fun σ H17 hP => ?_)
        · obtain ⟨y5, y6, y7, y8, y9, y10, y11, rfl, s17⟩ := hP
          exact SqL.at (s17 _ _ hL)
        · obtain ⟨y5, y6, y7, y8, y9, y10, y11, rfl, s17⟩ := hP
          obtain ⟨rfl, hz⟩ := hy
          have fz := ((hth _ (List.mem_of_getElem? hz)).same s17).frn T
          have hx17 := hx12.tx (Tx.of (sAll.trans s17))
          walk_at "go"
          refine g_eqF hx17 fz ?_
          walk_at "go"
          refine g_neF hx17 fz ?_
          walk_at "go"
          exact ⟨_, _, _, _, _, _, _, rfl, s17⟩
        · obtain ⟨y5, y6, y7, y8, y9, y10, y11, rfl, s17⟩ := hP
          walk_at "go"
          refine ⟨Nat.zero_le _, fun td nd => ?_⟩
          have sd := same_new (o := .tup []) nd
          walk_at "go"
          intro xw dxw nxw ndxw nxdw
          refine mk_web (rs := []) (.tup SqT.new .nil) (hG.sub (fun r hr => by cases hr) (Nat.zero_le _)) nxw ndxw nxdw fun H18 s18 hxw => ?_
          walk_at "go"
          refine ⟨Nat.zero_le _, fun te ne => ?_⟩
          have se := same_new (o := .tup []) ne
          walk_at "go"
          intro xv dxv nxv ndxv nxdv
          refine ⟨xv, dxv, n, te, rfl, upd_same, (Tx.of ((same_new (o := .own xv) ndxv).trans (same_new (o := .ins a.c_Log dxv []) (by rw [upd_ne nxdv.symm]; exact nxv)))).seq SqT.new, hG.1, hG.2.1, fun H19 f19 hx19 => ⟨rfl, ?_⟩⟩
          have s19 := log_made nxv ndxv f19
          have hlv : LogAt K a.c_Log H19 (.ref xv) n [] := ⟨xv, dxv, te, rfl, hx19, .tup ((Tx.of s19).seq SqT.new) .nil⟩
          refine g_eqF (hxw.tx (Tx.of (se.trans s19))) (Thg.frn T (.web hlv)) ?_
          walk_at "go"
          have sEnd := s12.trans (sAll.trans (s17.trans (sd.trans (s18.trans (se.trans s19)))))
          exact q _ (f11.trans (Fr.of sEnd)) (hD11.fr sEnd)
    · intro N hN
      have hr10 := Dp.same s110 _ _ hrv
      have hp10 := (Tx.of s110).seq hp
      walk_at "go"
      refine ⟨_, _, rfl, .inr hp10, ?_⟩
      walk_at "go"
      refine g_ite (fun e0 => ?_) (fun e0 => ?_)
      case refine_2 =>
        walk_at "go"
        exact hN _ _ ⟨_, _, _, _, _, _, _, xs, rfl, Fr.of s110, hD10, hF, hpr, by omega, hx10⟩
      walk_at "go"
      refine ⟨_, _, rfl, .inr hp10, ?_⟩
      walk_at "go"
      refine ⟨d, c, ((ys.length : Nat) : Int), rfl, hD10, by omega, by omega, fun H11 at_ f11 hD11 at0 at1 => ?_⟩
      have f1 := (Fr.of s110).trans f11
      have X1 := hD.tx f1
      obtain ⟨y, gy⟩ : ∃ y, ys[at_.toNat]? = some y := ⟨_, List.getElem?_eq_getElem (by omega)⟩
      obtain ⟨dd, gd, rd⟩ := DpAll.get (Dp.txAll X1 _ _ (imAll_map im_rowD _) ha) gy
      obtain ⟨⟨u, v, b⟩, gr, rfl⟩ := map_at gd
      obtain ⟨rp, rfl, hrp⟩ := of_row rd
      have g := hG.2.2.2 _ (List.mem_of_getElem? gr)
      obtain ⟨g1, g2, g3, g4, g5⟩ := g
      simp only at g1 g2 g3 g4 g5 hrp
      walk_at "go"
      refine g_ixT (X1.seq hp) (atI_at at0 gy) ?_
      refine ⟨rp, _, rfl, hrp, rfl, _, _, rfl, _, _, rfl, _, _, rfl, rfl, ?_⟩
      have hF11 := f11 _ _ (hD.nd nF0) hF
      have small : ∀ {x : Nat}, x ≤ 2000 → x ≤ sizeLine := fun h => Nat.le_trans h (by decide)
      have eat : at_ = ((at_.toNat : Nat) : Int) := by omega
      have hkl : at_.toNat < rs.length := by omega
      have ha1 : DpAll K H11 ys (rs.map rowD) := Dp.txAll X1 _ _ (imAll_map im_rowD _) ha
      have hp1 := X1.seq hp
      walk_at "go"
      refine ⟨.inl ⟨rfl, _, SqL.at hF11⟩, ?_⟩
      walk_at "go"
      refine g_slA hp1 fun pa1 Ha1 sa1 hsa1 => ?_
      rw [eat, cutV_take] at hsa1
      walk_at "go"
      refine ⟨by show 3 ≤ sizeLine; decide, fun tb1 nb1 => ?_⟩
      have sb1 := same_new (o := .tup [.int u, .int v, .bl (!b)]) nb1
      walk_at "go"
      refine ⟨by show 1 ≤ sizeLine; decide, fun tc1 nc1 => ?_⟩
      have sc1 := same_new (o := .tup [.ref tb1]) nc1
      refine g_catA ((Tx.of (sb1.trans sc1)).seq hsa1) SqT.new (small (by simp only [List.length_take, List.length_cons, List.length_nil]; omega)) (fun pd1 Hd1 sd1 hd1 => ?_)
      have sbd1 := sb1.trans (sc1.trans sd1)
      have sad1 := sa1.trans sbd1
      walk_at "go"
      refine g_slA ((Tx.of sad1).seq hp1) fun pe1 He1 se1 he1 => ?_
      rw [show at_ + 1 = ((at_.toNat + 1 : Nat) : Int) by omega, cutV_drop] at he1
      refine g_catA ((Tx.of se1).seq hd1) he1 (small (by simp only [List.length_append, List.length_take, List.length_drop, List.length_cons, List.length_nil]; omega)) (fun pf1 Hf1 sf1 hf1 => ?_)
      have sdf1 := se1.trans sf1
      walk_at "go"
      refine ⟨by show 2 ≤ sizeLine; decide, fun tg1 ng1 => ?_⟩
      have sg1 := same_new (o := .tup [.int n, .ref pf1]) ng1
      have sag1 := (sad1.trans sdf1).trans sg1
      have hrow1 : DpAll K (upd Hf1 tg1 (.tup [.int n, .ref pf1])) [V.ref tb1] ([(u, v, !b)].map rowD) := .cons (dp_row (r := (u, v, !b)) ((Tx.of (sc1.trans (sd1.trans (sdf1.trans sg1)))).seq SqT.new)) .nil
      have hall1 := Dp.sameAll sag1 _ _ ha1
      have hy1 : PrV K (upd Hf1 tg1 (.tup [.int n, .ref pf1])) (.ref tg1) := by
        refine ⟨tg1, n, pf1, rs.take at_.toNat ++ [(u, v, !b)] ++ rs.drop (at_.toNat + 1), rfl, SqT.new, .tup ((Tx.of sg1).seq hf1) ?_, g_swap hG hkl ⟨g1, g2, g3, g4, g5⟩⟩
        rw [List.map_append, List.map_append, List.map_take, List.map_drop]
        exact DpAll.app (DpAll.app (DpAll.take _ hall1) hrow1) (DpAll.drop _ hall1)
      have hFg1 := sag1 _ _ hF11
      walk_at "go"
      refine ⟨F, xs, .ref tg1, rfl, rfl, hFg1, Nat.lt_of_le_of_lt (show (xs).length ≤ 1000 by first | omega | (simp only [List.length_append, List.length_cons, List.length_nil]; omega)) (by decide), ?_⟩
      have xt1 := Tx.lst (o := .lst (xs ++ [V.ref tg1])) hFg1
      have X2 := (X1.trans (Tx.of sag1)).trans xt1
      have hF2 := @upd_same (upd Hf1 tg1 (HO.tup [V.int n, V.ref pf1])) F (.lst (xs ++ [V.ref tg1]))
      generalize hH2 : upd (upd Hf1 tg1 (HO.tup [V.int n, V.ref pf1])) F (.lst (xs ++ [V.ref tg1])) = H2 at X2 hF2 xt1 ⊢
      have ha2 : DpAll K H2 ys (rs.map rowD) := Dp.txAll X2 _ _ (imAll_map im_rowD _) ha
      have hp2 := X2.seq hp
      walk_at "go"
      refine ⟨.inl ⟨rfl, _, SqL.at hF2⟩, ?_⟩
      walk_at "go"
      refine g_slA hp2 fun pa2 Ha2 sa2 hsa2 => ?_
      rw [eat, cutV_take] at hsa2
      walk_at "go"
      refine ⟨by show 3 ≤ sizeLine; decide, fun tb2 nb2 => ?_⟩
      have sb2 := same_new (o := .tup [.int v, .int u, .bl b]) nb2
      walk_at "go"
      refine ⟨by show 1 ≤ sizeLine; decide, fun tc2 nc2 => ?_⟩
      have sc2 := same_new (o := .tup [.ref tb2]) nc2
      refine g_catA ((Tx.of (sb2.trans sc2)).seq hsa2) SqT.new (small (by simp only [List.length_take, List.length_cons, List.length_nil]; omega)) (fun pd2 Hd2 sd2 hd2 => ?_)
      have sbd2 := sb2.trans (sc2.trans sd2)
      have sad2 := sa2.trans sbd2
      walk_at "go"
      refine g_slA ((Tx.of sad2).seq hp2) fun pe2 He2 se2 he2 => ?_
      rw [show at_ + 1 = ((at_.toNat + 1 : Nat) : Int) by omega, cutV_drop] at he2
      refine g_catA ((Tx.of se2).seq hd2) he2 (small (by simp only [List.length_append, List.length_take, List.length_drop, List.length_cons, List.length_nil]; omega)) (fun pf2 Hf2 sf2 hf2 => ?_)
      have sdf2 := se2.trans sf2
      walk_at "go"
      refine ⟨by show 2 ≤ sizeLine; decide, fun tg2 ng2 => ?_⟩
      have sg2 := same_new (o := .tup [.int n, .ref pf2]) ng2
      have sag2 := (sad2.trans sdf2).trans sg2
      have hrow2 : DpAll K (upd Hf2 tg2 (.tup [.int n, .ref pf2])) [V.ref tb2] ([(v, u, b)].map rowD) := .cons (dp_row (r := (v, u, b)) ((Tx.of (sc2.trans (sd2.trans (sdf2.trans sg2)))).seq SqT.new)) .nil
      have hall2 := Dp.sameAll sag2 _ _ ha2
      have hy2 : PrV K (upd Hf2 tg2 (.tup [.int n, .ref pf2])) (.ref tg2) := by
        refine ⟨tg2, n, pf2, rs.take at_.toNat ++ [(v, u, b)] ++ rs.drop (at_.toNat + 1), rfl, SqT.new, .tup ((Tx.of sg2).seq hf2) ?_, g_swap hG hkl ⟨g3, g4, g1, g2, g5.symm⟩⟩
        rw [List.map_append, List.map_append, List.map_take, List.map_drop]
        exact DpAll.app (DpAll.app (DpAll.take _ hall2) hrow2) (DpAll.drop _ hall2)
      have hFg2 := sag2 _ _ hF2
      walk_at "go"
      refine ⟨F, (xs ++ [V.ref tg1]), .ref tg2, rfl, rfl, hFg2, Nat.lt_of_le_of_lt (show ((xs ++ [V.ref tg1])).length ≤ 1000 by first | omega | (simp only [List.length_append, List.length_cons, List.length_nil]; omega)) (by decide), ?_⟩
      have xt2 := Tx.lst (o := .lst ((xs ++ [V.ref tg1]) ++ [.ref tg2])) hFg2
      have nFd := hD.nd nF0
      have nFc := hD.nc nF0
      have fu : ∀ {H0 : Hp} {o : HO}, Fr d H H0 → Fr d H (upd H0 F o) := fun f b o nb e => by
        have nbF : b ≠ F := fun z => by rw [z, nF0] at e; cases e
        rw [upd_ne nbF]
        exact f b o nb e
      have fr2 : Fr d H H2 := by rw [← hH2]; exact fu (f1.trans (Fr.of sag1))
      have hD2 : Dice d c H2 := by rw [← hH2]; exact (hD11.fr sag1).put nFd nFc
      refine hN _ _ ⟨_, _, _, _, _, _, _, xs ++ [V.ref tg1] ++ [.ref tg2], rfl, fu (fr2.trans (Fr.of sag2)), (hD2.fr sag2).put nFd nFc, upd_same, fun y hy => ?_, by simp only [List.length_append, List.length_cons, List.length_nil]; omega, ?_⟩
      · rcases List.mem_append.mp hy with hy | hy
        · rcases List.mem_append.mp hy with hy | hy
          · exact (hpr y hy).tx (((((hD10.tx f11).trans (Tx.of sag1)).trans xt1).trans (Tx.of sag2)).trans xt2)
          · rw [List.mem_singleton.mp hy]
            exact hy1.tx ((xt1.trans (Tx.of sag2)).trans xt2)
        · rw [List.mem_singleton.mp hy]
          exact hy2.tx xt2
      · exact hx10.tx (((((hD10.tx f11).trans (Tx.of sag1)).trans xt1).trans (Tx.of sag2)).trans xt2)
def sp_law (K : PySem.W.Frag) : Sp := fun vs H Q _ => ∃ (a : Addr) (ns : List Int), vs = [.ref a] ∧ SqL K H a (ns.map V.int) ∧ ns.length ≤ 63 ∧ ∀ H', Q (.bl true) H'
set_option maxHeartbeats 8000000 in
theorem ok_law (T : Txt K mg a) : FnOk P w K mg base CX0 lawLevel a.f_law a.d_law ["_law_script"] (sp_law K) := by
  refine T.F_law.ok sc_law (fun vs H Q E h => ?_) (fun cdv A outer s H vs Q E hr h => ?_)
  · obtain ⟨s, ns, rfl, _⟩ := h
    rfl
  · obtain ⟨sa, cells, rfl, hS, hlen, q⟩ := h
    unfold lawLevel at hr
    refine ⟨_, (pss_cons (ps_set (i := 1) sc_law.nd rfl (.inl rfl) (pe_call (ok_law_hand T) (hr.mono (by first | decide | omega)) (by rfl) T.g_law_hand T.F_law_hand.kp (T.b_law_hand) .nil pass0 (pa_cons (pv 0) pa_nil)))
  (pss_cons (ps_for PassesOwn.never rfl (pi_range1 rfl T.z_range (pa_cons pe_int pa_nil)) (pg_name (i := 2) sc_law.nd rfl (.inl rfl))
  (pss_cons (ps_set (i := 3) sc_law.nd rfl (.inl rfl) (pe_op op_add pe_int (pe_call (ok_law_draw T) (hr.mono (by first | decide | omega)) (by rfl) T.g_law_draw T.F_law_draw.kp (T.b_law_draw) .nil pass0 (pa_cons (pv 1) (pa_cons pe_int pa_nil)))))
  (pss_cons (ps_set (i := 4) sc_law.nd rfl (.inl rfl) (pe_call (ok_law_web_rows T) (hr.mono (by first | decide | omega)) (by rfl) T.g_law_web_rows T.F_law_web_rows.kp (T.b_law_web_rows) .nil pass0 (pa_cons (pv 1) (pa_cons (pv 3) (pa_cons (pe_ix (kIxL K rfl) (pe_lst (pa_cons pe_int (pa_cons pe_int pa_nil))) (pe_callTy call_int1 (by rfl) T.z_int (by decide +kernel) (pa_cons (pe_cmpR op_eq (pe_call (ok_law_draw T) (hr.mono (by first | decide | omega)) (by rfl) T.g_law_draw T.F_law_draw.kp (T.b_law_draw) .nil pass0 (pa_cons (pv 1) (pa_cons pe_int pa_nil))) pe_int (nomark _)) pa_nil)) (fun _ _ => rfl)) (pa_cons pe_int pa_nil))))))
  (pss_cons (ps_set (i := 5) sc_law.nd rfl (.inl rfl) (pv 3))
  (pss_cons (ps_if (pt_cmpR op_eq (pe_call (ok_law_draw T) (hr.mono (by first | decide | omega)) (by rfl) T.g_law_draw T.F_law_draw.kp (T.b_law_draw) .nil pass0 (pa_cons (pv 1) (pa_cons pe_int pa_nil))) pe_int (nomark _))
  (pss_one (ps_set (i := 5) sc_law.nd rfl (.inl rfl) (pe_call (ok_law_bent_offices T) (hr.mono (by first | decide | omega)) (by rfl) T.g_law_bent_offices T.F_law_bent_offices.kp (T.b_law_bent_offices) .nil pass0 (pa_cons (pv 1) pa_nil))))
  pss_nil)
  (pss_cons (ps_if (pt_not (pt_val (pe_call (ok_law_is_right T) (hr.mono (by first | decide | omega)) (by rfl) T.g_law_is_right T.F_law_is_right.kp (T.b_law_is_right) .nil pass0 (pa_cons (pv 5) (pa_cons (pe_call (ok_law_bent_rows T) (hr.mono (by first | decide | omega)) (by rfl) T.g_law_bent_rows T.F_law_bent_rows.kp (T.b_law_bent_rows) .nil pass0 (pa_cons (pv 1) (pa_cons (pv 3) (pa_cons (pv 4) pa_nil)))) pa_nil)))))
  (pss_one (ps_ret pe_bl))
  pss_nil)
  (pss_one (ps_if (PW.pt (pw_or (pt_not (pt_val (pe_call (ok_law_is_right T) (hr.mono (by first | decide | omega)) (by rfl) T.g_law_is_right T.F_law_is_right.kp (T.b_law_is_right) .nil pass0 (pa_cons (pv 3) (pa_cons (pv 4) pa_nil))))) (pw_or1 (pt_not (pt_val (pe_call (ok_law_equal_right T) (hr.mono (by first | decide | omega)) (by rfl) T.g_law_equal_right T.F_law_equal_right.kp (T.b_law_equal_right) .nil pass0 (pa_cons (pv 1) (pa_cons (pv 3) (pa_cons (pv 4) pa_nil)))))))))
  (pss_one (ps_ret pe_bl))
  pss_nil))))))))
  (pss_one (ps_ret pe_bl)))), ?_⟩
    walk_at "go"
    refine ⟨sa, cells, rfl, hS, hlen, fun H1 d c s1 nd hD1 => ?_⟩
    walk_at "go"
    refine ⟨_, rfl, by decide, by decide, ?_⟩
    refine for_it walk_rng0 (fun i σ H' => ∃ (y2 y3 y4 y5 : Option V), σ = [some (.ref sa), some (.ref d), y2, y3, y4, y5] ∧ Dice d c H') ⟨_, _, _, _, rfl, hD1⟩ (fun _ _ _ _ _ => trivial) (fun i z σ H2 H2' hi hP hy => ?_) (fun σ H' hP => ?_)
    · obtain ⟨y2, y3, y4, y5, rfl, hD2⟩ := hP
      obtain ⟨rfl, rfl⟩ := hy
      walk_at "go"
      refine ⟨d, c, 12, rfl, hD2, by decide, by decide, fun H3 o f3 hD3 o0 o1 => ?_⟩
      walk_at "go"
      refine ⟨by show 2 ≤ sizeLine; decide, fun L nL => ?_⟩
      walk_at "go"
      have nLd := hD3.nd nL
      refine ⟨d, c, 12, rfl, hD3.new nL, by decide, by decide, fun H4 k4 f4 hD4 k40 k41 => ?_⟩
      walk_at "go"
      refine .inr ⟨_, rfl, ?_⟩
      obtain ⟨m, hm, m0, m60⟩ : ∃ m : Int, atI [V.int 12, V.int 60] (if decide (k4 = 0) = true then 1 else 0) = some (.int m) ∧ 0 ≤ m ∧ m ≤ 60 := by
        by_cases e : k4 = 0
        · rw [decide_eq_true e]
          exact ⟨60, rfl, by decide, by decide⟩
        · rw [decide_eq_false e]
          exact ⟨12, rfl, by decide, by decide⟩
      refine g_ixL (SqL.at (f4 _ _ nLd upd_same)) hm ?_
      walk_at "go"
      refine ⟨d, c, 1 + o, m, 3, rfl, hD4, by omega, by omega, m0, m60, fun H5 rv rs f5 hD5 hrv hg hl60 => ?_⟩
      obtain ⟨p, ys, rfl, hp, ha⟩ := of_tup hrv
      have hG : GoodWeb (1 + o) rs := ⟨by omega, by omega, hl60, hg⟩
      walk_at "gs"
      refine g_seq ?_
      walk_at "gs"
      refine seq_cut (fun σ' H' => ∃ ov, σ' = [some (.ref sa), some (.ref d), some (.int (i : Int)), some (.int (1 + o)), some (.ref p), some ov] ∧ Fr d H5 H' ∧ Dice d c H' ∧ Th K d a.c_Log H' ov) ?_ ?_
      · rintro σ' H6 ⟨ov, rfl, f6, hD6, ho⟩
        walk_at "go"
        refine ⟨d, c, 1 + o, .ref p, rs, rfl, hD6, Dp.tx (hD5.tx f6) _ _ (im_rowsD rs) hrv, hl60, fun H7 v sh f7 hD7 hv hsh => ?_⟩
        walk_at "go"
        refine ⟨d, ov, v, 10, sh, rfl, ho.fr f7 (hD6.tx f7), hv, hsh, fun H8 s8 => ?_⟩
        have hD8 := hD7.fr s8
        have f8 := (f6.trans f7).trans (Fr.of s8)
        have hrv8 := Dp.tx (hD5.tx f8) _ _ (im_rowsD rs) hrv
        obtain ⟨_, zs, e, hp8, ha8⟩ := of_tup hrv8
        cases e
        walk_at "go"
        refine ⟨d, .int (1 + o), .ref p, 10, some (rs.map rowPt), rfl, .int _, ⟨p, zs, rfl, hp8, pt_rows ha8⟩, fun pts e => by cases e; rw [List.length_map]; omega, fun H9 s9 => ?_⟩
        walk_at "go"
        refine ⟨d, c, 1 + o, p, rs, rfl, hD8.fr s9, Dp.same s9 _ _ hrv8, hG, fun H10 f10 hD10 => ?_⟩
        walk_at "go"
        exact ⟨_, _, _, _, rfl, hD10⟩
      · intro N hN
        walk_at "go"
        refine ⟨d, c, 5, rfl, hD5, by decide, by decide, fun H6 k6 f6 hD6 k60 k61 => ?_⟩
        walk_at "go"
        refine g_ite (fun e0 => ?_) (fun e0 => ?_)
        · walk_at "go"
          refine ⟨d, c, rfl, hD6, fun H7 v f7 hD7 hv => ?_⟩
          walk_at "go"
          exact hN _ _ ⟨v, rfl, f6.trans f7, hD7, hv⟩
        · walk_at "go"
          exact hN _ _ ⟨_, rfl, f6, hD6, .int _⟩
    · obtain ⟨y2, y3, y4, y5, rfl, hD2⟩ := hP
      walk_at "go"
      exact q _

end

set_option maxHeartbeats 0 in
theorem all_mk {l : PySem.W.OpenLaw} {w : World} {K : PySem.W.Frag} {h : Heap} {mg : Str → Option Value} {fa : Addr} (X : K.In h) (G : h.Ns mainGlobals mg) (hfa : mg "law" = some (.ref fa))
    {f0 : Addr} {od0 an0 : Option Addr} {sl0 : Array (Option Value)} {oc0 kV0 dc0 pm0 cd0 ct0 : Value}
    {C_BadWeb : Addr}
    (a0 : PySem.W.findIn K (.ref C_BadWeb) "__init__" = some (some (.ref f0))) (i0 : PySem.W.isFn K (.ref f0) = true) (l0 : K.lookup f0 = some ⟨oc0, od0, .func (PySem.W.fnOf "__init__" "BadWeb.__init__" (defArgs s_BadWeb_init) (defBody s_BadWeb_init) (defScope s_BadWeb_init) .none kV0 dc0 pm0 an0 cd0 ct0), sl0⟩) (c0 : PySem.W.codeIn K cd0 "BadWeb.__init__" = true) (k0 : PySem.W.keepIn K (.ref f0) = true)
    {f1 : Addr} {od1 an1 : Option Addr} {sl1 : Array (Option Value)} {oc1 kV1 dc1 pm1 cd1 ct1 : Value}
    (a1 : PySem.W.nsIn K mainGlobals "is_integer" = some (some (.ref f1))) (l1 : K.lookup f1 = some ⟨oc1, od1, .func (PySem.W.fnOf "is_integer" "is_integer" (defArgs s_is_integer) (defBody s_is_integer) (defScope s_is_integer) .none kV1 dc1 pm1 an1 cd1 ct1), sl1⟩) (c1 : PySem.W.codeIn K cd1 "is_integer" = true) (k1 : PySem.W.keepIn K (.ref f1) = true)
    {f2 : Addr} {od2 an2 : Option Addr} {sl2 : Array (Option Value)} {oc2 kV2 dc2 pm2 cd2 ct2 : Value}
    (a2 : PySem.W.nsIn K mainGlobals "is_between" = some (some (.ref f2))) (l2 : K.lookup f2 = some ⟨oc2, od2, .func (PySem.W.fnOf "is_between" "is_between" (defArgs s_is_between) (defBody s_is_between) (defScope s_is_between) .none kV2 dc2 pm2 an2 cd2 ct2), sl2⟩) (c2 : PySem.W.codeIn K cd2 "is_between" = true) (k2 : PySem.W.keepIn K (.ref f2) = true)
    {f3 : Addr} {od3 an3 : Option Addr} {sl3 : Array (Option Value)} {oc3 kV3 dc3 pm3 cd3 ct3 : Value}
    (a3 : PySem.W.nsIn K mainGlobals "is_number" = some (some (.ref f3))) (l3 : K.lookup f3 = some ⟨oc3, od3, .func (PySem.W.fnOf "is_number" "is_number" (defArgs s_is_number) (defBody s_is_number) (defScope s_is_number) .none kV3 dc3 pm3 an3 cd3 ct3), sl3⟩) (c3 : PySem.W.codeIn K cd3 "is_number" = true) (k3 : PySem.W.keepIn K (.ref f3) = true)
    {f4 : Addr} {od4 an4 : Option Addr} {sl4 : Array (Option Value)} {oc4 kV4 dc4 pm4 cd4 ct4 : Value}
    (a4 : PySem.W.nsIn K mainGlobals "is_tuple_of" = some (some (.ref f4))) (l4 : K.lookup f4 = some ⟨oc4, od4, .func (PySem.W.fnOf "is_tuple_of" "is_tuple_of" (defArgs s_is_tuple_of) (defBody s_is_tuple_of) (defScope s_is_tuple_of) .none kV4 dc4 pm4 an4 cd4 ct4), sl4⟩) (c4 : PySem.W.codeIn K cd4 "is_tuple_of" = true) (k4 : PySem.W.keepIn K (.ref f4) = true)
    {f5 : Addr} {od5 an5 : Option Addr} {sl5 : Array (Option Value)} {oc5 kV5 dc5 pm5 cd5 ct5 : Value}
    (a5 : PySem.W.nsIn K mainGlobals "is_copying" = some (some (.ref f5))) (l5 : K.lookup f5 = some ⟨oc5, od5, .func (PySem.W.fnOf "is_copying" "is_copying" (defArgs s_is_copying) (defBody s_is_copying) (defScope s_is_copying) .none kV5 dc5 pm5 an5 cd5 ct5), sl5⟩) (c5 : PySem.W.codeIn K cd5 "is_copying" = true) (k5 : PySem.W.keepIn K (.ref f5) = true)
    {f6 : Addr} {od6 an6 : Option Addr} {sl6 : Array (Option Value)} {oc6 kV6 dc6 pm6 cd6 ct6 : Value}
    (a6 : PySem.W.nsIn K mainGlobals "is_row" = some (some (.ref f6))) (l6 : K.lookup f6 = some ⟨oc6, od6, .func (PySem.W.fnOf "is_row" "is_row" (defArgs s_is_row) (defBody s_is_row) (defScope s_is_row) .none kV6 dc6 pm6 an6 cd6 ct6), sl6⟩) (c6 : PySem.W.codeIn K cd6 "is_row" = true) (k6 : PySem.W.keepIn K (.ref f6) = true)
    {f7 : Addr} {od7 an7 : Option Addr} {sl7 : Array (Option Value)} {oc7 kV7 dc7 pm7 cd7 ct7 : Value}
    (a7 : PySem.W.nsIn K mainGlobals "wrong_part" = some (some (.ref f7))) (l7 : K.lookup f7 = some ⟨oc7, od7, .func (PySem.W.fnOf "wrong_part" "wrong_part" (defArgs s_wrong_part) (defBody s_wrong_part) (defScope s_wrong_part) .none kV7 dc7 pm7 an7 cd7 ct7), sl7⟩) (c7 : PySem.W.codeIn K cd7 "wrong_part" = true) (k7 : PySem.W.keepIn K (.ref f7) = true)
    {f8 : Addr} {od8 an8 : Option Addr} {sl8 : Array (Option Value)} {oc8 kV8 dc8 pm8 cd8 ct8 : Value}
    {C_Web : Addr}
    (a8 : PySem.W.findIn K (.ref C_Web) "__init__" = some (some (.ref f8))) (i8 : PySem.W.isFn K (.ref f8) = true) (l8 : K.lookup f8 = some ⟨oc8, od8, .func (PySem.W.fnOf "__init__" "Web.__init__" (defArgs s_Web_init) (defBody s_Web_init) (defScope s_Web_init) .none kV8 dc8 pm8 an8 cd8 ct8), sl8⟩) (c8 : PySem.W.codeIn K cd8 "Web.__init__" = true) (k8 : PySem.W.keepIn K (.ref f8) = true)
    {f9 : Addr} {od9 an9 : Option Addr} {sl9 : Array (Option Value)} {oc9 kV9 dc9 pm9 cd9 ct9 : Value}

    (a9 : PySem.W.findIn K (.ref C_Web) "__eq__" = some (some (.ref f9))) (i9 : PySem.W.isFn K (.ref f9) = true) (l9 : K.lookup f9 = some ⟨oc9, od9, .func (PySem.W.fnOf "__eq__" "Web.__eq__" (defArgs s_Web___eq) (defBody s_Web___eq) (defScope s_Web___eq) .none kV9 dc9 pm9 an9 cd9 ct9), sl9⟩) (c9 : PySem.W.codeIn K cd9 "Web.__eq__" = true) (k9 : PySem.W.keepIn K (.ref f9) = true)
    {f10 : Addr} {od10 an10 : Option Addr} {sl10 : Array (Option Value)} {oc10 kV10 dc10 pm10 cd10 ct10 : Value}
    {C_Log : Addr}
    (a10 : PySem.W.findIn K (.ref C_Log) "__init__" = some (some (.ref f10))) (i10 : PySem.W.isFn K (.ref f10) = true) (l10 : K.lookup f10 = some ⟨oc10, od10, .func (PySem.W.fnOf "__init__" "Log.__init__" (defArgs s_Log_init) (defBody s_Log_init) (defScope s_Log_init) .none kV10 dc10 pm10 an10 cd10 ct10), sl10⟩) (c10 : PySem.W.codeIn K cd10 "Log.__init__" = true) (k10 : PySem.W.keepIn K (.ref f10) = true)
    {f11 : Addr} {od11 an11 : Option Addr} {sl11 : Array (Option Value)} {oc11 kV11 dc11 pm11 cd11 ct11 : Value}
    (a11 : PySem.W.nsIn K mainGlobals "_law_hand" = some (some (.ref f11))) (l11 : K.lookup f11 = some ⟨oc11, od11, .func (PySem.W.fnOf "_law_hand" "_law_hand" (defArgs s_law_hand) (defBody s_law_hand) (defScope s_law_hand) .none kV11 dc11 pm11 an11 cd11 ct11), sl11⟩) (c11 : PySem.W.codeIn K cd11 "_law_hand" = true) (k11 : PySem.W.keepIn K (.ref f11) = true)
    {f12 : Addr} {od12 an12 : Option Addr} {sl12 : Array (Option Value)} {oc12 kV12 dc12 pm12 cd12 ct12 : Value}
    (a12 : PySem.W.nsIn K mainGlobals "_law_draw" = some (some (.ref f12))) (l12 : K.lookup f12 = some ⟨oc12, od12, .func (PySem.W.fnOf "_law_draw" "_law_draw" (defArgs s_law_draw) (defBody s_law_draw) (defScope s_law_draw) .none kV12 dc12 pm12 an12 cd12 ct12), sl12⟩) (c12 : PySem.W.codeIn K cd12 "_law_draw" = true) (k12 : PySem.W.keepIn K (.ref f12) = true)
    {f13 : Addr} {od13 an13 : Option Addr} {sl13 : Array (Option Value)} {oc13 kV13 dc13 pm13 cd13 ct13 : Value}
    (a13 : PySem.W.nsIn K mainGlobals "_law_web_rows" = some (some (.ref f13))) (l13 : K.lookup f13 = some ⟨oc13, od13, .func (PySem.W.fnOf "_law_web_rows" "_law_web_rows" (defArgs s_law_web_rows) (defBody s_law_web_rows) (defScope s_law_web_rows) .none kV13 dc13 pm13 an13 cd13 ct13), sl13⟩) (c13 : PySem.W.codeIn K cd13 "_law_web_rows" = true) (k13 : PySem.W.keepIn K (.ref f13) = true)
    {f14 : Addr} {od14 an14 : Option Addr} {sl14 : Array (Option Value)} {oc14 kV14 dc14 pm14 cd14 ct14 : Value}
    (a14 : PySem.W.nsIn K mainGlobals "_law_deep" = some (some (.ref f14))) (l14 : K.lookup f14 = some ⟨oc14, od14, .func (PySem.W.fnOf "_law_deep" "_law_deep" (defArgs s_law_deep) (defBody s_law_deep) (defScope s_law_deep) .none kV14 dc14 pm14 an14 cd14 ct14), sl14⟩) (c14 : PySem.W.codeIn K cd14 "_law_deep" = true) (k14 : PySem.W.keepIn K (.ref f14) = true)
    {f15 : Addr} {od15 an15 : Option Addr} {sl15 : Array (Option Value)} {oc15 kV15 dc15 pm15 cd15 ct15 : Value}
    (a15 : PySem.W.nsIn K mainGlobals "_law_is_number" = some (some (.ref f15))) (l15 : K.lookup f15 = some ⟨oc15, od15, .func (PySem.W.fnOf "_law_is_number" "_law_is_number" (defArgs s_law_is_number) (defBody s_law_is_number) (defScope s_law_is_number) .none kV15 dc15 pm15 an15 cd15 ct15), sl15⟩) (c15 : PySem.W.codeIn K cd15 "_law_is_number" = true) (k15 : PySem.W.keepIn K (.ref f15) = true)
    {f16 : Addr} {od16 an16 : Option Addr} {sl16 : Array (Option Value)} {oc16 kV16 dc16 pm16 cd16 ct16 : Value}
    (a16 : PySem.W.nsIn K mainGlobals "_law_is_row" = some (some (.ref f16))) (l16 : K.lookup f16 = some ⟨oc16, od16, .func (PySem.W.fnOf "_law_is_row" "_law_is_row" (defArgs s_law_is_row) (defBody s_law_is_row) (defScope s_law_is_row) .none kV16 dc16 pm16 an16 cd16 ct16), sl16⟩) (c16 : PySem.W.codeIn K cd16 "_law_is_row" = true) (k16 : PySem.W.keepIn K (.ref f16) = true)
    {f17 : Addr} {od17 an17 : Option Addr} {sl17 : Array (Option Value)} {oc17 kV17 dc17 pm17 cd17 ct17 : Value}
    (a17 : PySem.W.nsIn K mainGlobals "_law_due" = some (some (.ref f17))) (l17 : K.lookup f17 = some ⟨oc17, od17, .func (PySem.W.fnOf "_law_due" "_law_due" (defArgs s_law_due) (defBody s_law_due) (defScope s_law_due) .none kV17 dc17 pm17 an17 cd17 ct17), sl17⟩) (c17 : PySem.W.codeIn K cd17 "_law_due" = true) (k17 : PySem.W.keepIn K (.ref f17) = true)
    {f18 : Addr} {od18 an18 : Option Addr} {sl18 : Array (Option Value)} {oc18 kV18 dc18 pm18 cd18 ct18 : Value}
    (a18 : PySem.W.nsIn K mainGlobals "_law_made" = some (some (.ref f18))) (l18 : K.lookup f18 = some ⟨oc18, od18, .func (PySem.W.fnOf "_law_made" "_law_made" (defArgs s_law_made) (defBody s_law_made) (defScope s_law_made) .none kV18 dc18 pm18 an18 cd18 ct18), sl18⟩) (c18 : PySem.W.codeIn K cd18 "_law_made" = true) (k18 : PySem.W.keepIn K (.ref f18) = true)
    {f19 : Addr} {od19 an19 : Option Addr} {sl19 : Array (Option Value)} {oc19 kV19 dc19 pm19 cd19 ct19 : Value}
    (a19 : PySem.W.nsIn K mainGlobals "_law_keeps" = some (some (.ref f19))) (l19 : K.lookup f19 = some ⟨oc19, od19, .func (PySem.W.fnOf "_law_keeps" "_law_keeps" (defArgs s_law_keeps) (defBody s_law_keeps) (defScope s_law_keeps) .none kV19 dc19 pm19 an19 cd19 ct19), sl19⟩) (c19 : PySem.W.codeIn K cd19 "_law_keeps" = true) (k19 : PySem.W.keepIn K (.ref f19) = true)
    {f20 : Addr} {od20 an20 : Option Addr} {sl20 : Array (Option Value)} {oc20 kV20 dc20 pm20 cd20 ct20 : Value}
    (a20 : PySem.W.nsIn K mainGlobals "_law_is_right" = some (some (.ref f20))) (l20 : K.lookup f20 = some ⟨oc20, od20, .func (PySem.W.fnOf "_law_is_right" "_law_is_right" (defArgs s_law_is_right) (defBody s_law_is_right) (defScope s_law_is_right) .none kV20 dc20 pm20 an20 cd20 ct20), sl20⟩) (c20 : PySem.W.codeIn K cd20 "_law_is_right" = true) (k20 : PySem.W.keepIn K (.ref f20) = true)
    {f21 : Addr} {od21 an21 : Option Addr} {sl21 : Array (Option Value)} {oc21 kV21 dc21 pm21 cd21 ct21 : Value}
    (a21 : PySem.W.nsIn K mainGlobals "_law_bent_offices" = some (some (.ref f21))) (l21 : K.lookup f21 = some ⟨oc21, od21, .func (PySem.W.fnOf "_law_bent_offices" "_law_bent_offices" (defArgs s_law_bent_offices) (defBody s_law_bent_offices) (defScope s_law_bent_offices) .none kV21 dc21 pm21 an21 cd21 ct21), sl21⟩) (c21 : PySem.W.codeIn K cd21 "_law_bent_offices" = true) (k21 : PySem.W.keepIn K (.ref f21) = true)
    {f22 : Addr} {od22 an22 : Option Addr} {sl22 : Array (Option Value)} {oc22 kV22 dc22 pm22 cd22 ct22 : Value}
    (a22 : PySem.W.nsIn K mainGlobals "_law_bent_row" = some (some (.ref f22))) (l22 : K.lookup f22 = some ⟨oc22, od22, .func (PySem.W.fnOf "_law_bent_row" "_law_bent_row" (defArgs s_law_bent_row) (defBody s_law_bent_row) (defScope s_law_bent_row) .none kV22 dc22 pm22 an22 cd22 ct22), sl22⟩) (c22 : PySem.W.codeIn K cd22 "_law_bent_row" = true) (k22 : PySem.W.keepIn K (.ref f22) = true)
    {f23 : Addr} {od23 an23 : Option Addr} {sl23 : Array (Option Value)} {oc23 kV23 dc23 pm23 cd23 ct23 : Value}
    (a23 : PySem.W.nsIn K mainGlobals "_law_bent_rows" = some (some (.ref f23))) (l23 : K.lookup f23 = some ⟨oc23, od23, .func (PySem.W.fnOf "_law_bent_rows" "_law_bent_rows" (defArgs s_law_bent_rows) (defBody s_law_bent_rows) (defScope s_law_bent_rows) .none kV23 dc23 pm23 an23 cd23 ct23), sl23⟩) (c23 : PySem.W.codeIn K cd23 "_law_bent_rows" = true) (k23 : PySem.W.keepIn K (.ref f23) = true)
    {f24 : Addr} {od24 an24 : Option Addr} {sl24 : Array (Option Value)} {oc24 kV24 dc24 pm24 cd24 ct24 : Value}
    (a24 : PySem.W.nsIn K mainGlobals "_law_equal_right" = some (some (.ref f24))) (l24 : K.lookup f24 = some ⟨oc24, od24, .func (PySem.W.fnOf "_law_equal_right" "_law_equal_right" (defArgs s_law_equal_right) (defBody s_law_equal_right) (defScope s_law_equal_right) .none kV24 dc24 pm24 an24 cd24 ct24), sl24⟩) (c24 : PySem.W.codeIn K cd24 "_law_equal_right" = true) (k24 : PySem.W.keepIn K (.ref f24) = true)
    {f25 : Addr} {od25 an25 : Option Addr} {sl25 : Array (Option Value)} {oc25 kV25 dc25 pm25 cd25 ct25 : Value}
    (a25 : PySem.W.nsIn K mainGlobals "law" = some (some (.ref f25))) (l25 : K.lookup f25 = some ⟨oc25, od25, .func (PySem.W.fnOf "law" "law" (defArgs s_law) (defBody s_law) (defScope s_law) .none kV25 dc25 pm25 an25 cd25 ct25), sl25⟩) (c25 : PySem.W.codeIn K cd25 "law" = true) (k25 : PySem.W.keepIn K (.ref f25) = true)
    (gc_Log : PySem.W.nsIn K mainGlobals "Log" = some (some (.ref C_Log)))
    (pg_Log : PySem.W.plainGet K C_Log Str.empty = true) (hd_Log : PySem.W.hasDictIn K C_Log = true) (po_Log : PySem.W.plainOver K C_Log = true) (sa_Log : PySem.W.findIn K (.ref C_Log) "__setattr__" = some (some (.builtin "object.__setattr__"))) (mk_Log : PySem.W.makesIn K C_Log = true) (kc_Log : PySem.W.keepIn K (.ref C_Log) = true)
    (na_Log_offices : PySem.W.findIn K (.ref C_Log) "offices" = some none)
    (na_Log_rows : PySem.W.findIn K (.ref C_Log) "rows" = some none)
    (ia_Log : PySem.W.findIn K (.ref C_Log) "__class__" = some (some (.builtin "object.__class__"))) (ib_Log : PySem.W.specialIn K (.builtin "object.__class__") "__get__" = some (some (.builtin "getset_descriptor.__get__"))) (ic_Log : PySem.W.takesIn K (.builtin "object.__class__") = some true) (id_Log : PySem.W.mroIn K C_Log (.type "object") = some true)
    (gc_Web : PySem.W.nsIn K mainGlobals "Web" = some (some (.ref C_Web)))
    (pg_Web : PySem.W.plainGet K C_Web Str.empty = true) (hd_Web : PySem.W.hasDictIn K C_Web = true) (po_Web : PySem.W.plainOver K C_Web = true) (sa_Web : PySem.W.findIn K (.ref C_Web) "__setattr__" = some (some (.builtin "object.__setattr__"))) (mk_Web : PySem.W.makesIn K C_Web = true) (kc_Web : PySem.W.keepIn K (.ref C_Web) = true)
    (na_Web_offices : PySem.W.findIn K (.ref C_Web) "offices" = some none)
    (na_Web_rows : PySem.W.findIn K (.ref C_Web) "rows" = some none)
    (ia_Web : PySem.W.findIn K (.ref C_Web) "__class__" = some (some (.builtin "object.__class__"))) (ib_Web : PySem.W.specialIn K (.builtin "object.__class__") "__get__" = some (some (.builtin "getset_descriptor.__get__"))) (ic_Web : PySem.W.takesIn K (.builtin "object.__class__") = some true) (id_Web : PySem.W.mroIn K C_Web (.type "object") = some true)
    {C_SheetError : Addr}
    (gc_SheetError : PySem.W.nsIn K mainGlobals "SheetError" = some (some (.ref C_SheetError)))
    {C_BadLog : Addr}
    (gc_BadLog : PySem.W.nsIn K mainGlobals "BadLog" = some (some (.ref C_BadLog)))
    (gc_BadWeb : PySem.W.nsIn K mainGlobals "BadWeb" = some (some (.ref C_BadWeb)))
    {nm_BadWeb q_BadWeb : Str} {N_BadWeb : Addr} {bs_BadWeb bm_BadWeb : List Value} {sn_BadWeb : List Str} {sub_BadWeb : List Value} {ab_BadWeb : Bool} {col_BadWeb : Option Bool} {dd_BadWeb : Option Addr} {m0_BadWeb m1_BadWeb m2_BadWeb m3_BadWeb m5_BadWeb : Option Value}
    (xL_BadWeb : K.lookup C_BadWeb = some (excClassObj nm_BadWeb q_BadWeb C_BadWeb N_BadWeb bs_BadWeb bm_BadWeb true sn_BadWeb sub_BadWeb ab_BadWeb col_BadWeb dd_BadWeb m0_BadWeb m1_BadWeb m2_BadWeb m3_BadWeb m5_BadWeb "ValueError.__new__"))
    (xR_BadWeb : PySem.HandSPX.refsVE bm_BadWeb = true) (sa_BadWeb : PySem.W.findIn K (.ref C_BadWeb) "__setattr__" = some (some (.builtin "object.__setattr__"))) (eC_BadWeb : PySem.W.subIn K (.ref C_BadWeb) (.type "BaseException") = some true) (tC_BadWeb : PySem.W.typeIn K (.ref C_BadWeb) = some (.type "type")) (kc_BadWeb : PySem.W.keepIn K (.ref C_BadWeb) = true)
    (ot_BadWeb : PySem.W.typeIn K (.ref f0) = some (.type "function"))
    (xg_BadWeb : PySem.W.findIn K (.ref C_BadWeb) "__getattribute__" = some (some (.builtin "BaseException.__getattribute__"))) (xh_BadWeb : PySem.W.findIn K (.ref C_BadWeb) "__getattr__" = some none) (xe_BadWeb : PySem.W.subIn K (.ref C_BadWeb) (.type "BaseException") = some true) (xd_BadWeb : PySem.W.hasDictIn K C_BadWeb = true)
    (xa_BadWeb : PySem.W.findIn K (.ref C_BadWeb) "__class__" = some (some (.builtin "object.__class__"))) (xn_BadWeb : PySem.W.specialIn K (.builtin "object.__class__") "__get__" = some (some (.builtin "getset_descriptor.__get__"))) (xt_BadWeb : PySem.W.takesIn K (.builtin "object.__class__") = some true) (xm_BadWeb : PySem.W.mroIn K C_BadWeb (.type "object") = some true)
    (nf_BadWeb_part : PySem.W.findIn K (.ref C_BadWeb) "part" = some none)
    (ki_BadWeb_ValueError : PySem.W.mroIn K C_BadWeb (.type "ValueError") = some true)
    (eX_BadWeb : PySem.W.subIn K (.ref C_BadWeb) (.type "BaseException") = some true) (hd_BadWeb : PySem.W.hasDictIn K C_BadWeb = true) (tX_BadWeb : PySem.W.typeIn K (.ref C_BadWeb) = some (.type "type"))
    (sb_BadWeb_BadWeb : PySem.W.subIn K (.ref C_BadWeb) (.ref C_BadWeb) = some true)
    (mt_NoneType : PySem.W.mroIn K C_Log (.type "NoneType") = some false)
    (mt_tuple : PySem.W.mroIn K C_Log (.type "tuple") = some false)
    (mt_list : PySem.W.mroIn K C_Log (.type "list") = some false)
    (mt_int : PySem.W.mroIn K C_Log (.type "int") = some false)
    (mt_bool : PySem.W.mroIn K C_Log (.type "bool") = some false)
    (mt_str : PySem.W.mroIn K C_Log (.type "str") = some false)
    (mt_dict : PySem.W.mroIn K C_Log (.type "dict") = some false)
    (ne_Web : PySem.W.findIn K (.ref C_Web) "__ne__" = some (some (.builtin "object.__ne__")))
    (ty_Log : PySem.W.typeIn K (.ref C_Log) = some (.type "type"))
    (ty_Web : PySem.W.typeIn K (.ref C_Web) = some (.type "type"))
    (sb_Web_Web : PySem.W.subIn K (.ref C_Web) (.ref C_Web) = some true)
    (sb_Log_Web : PySem.W.subIn K (.ref C_Log) (.ref C_Web) = some false)
    (kS : PySem.W.subIn K (.ref C_BadWeb) (.ref C_SheetError) = some true)
    (kL : PySem.W.subIn K (.ref C_BadWeb) (.ref C_BadLog) = some false)
    (sW : PySem.W.subIn K (.ref C_BadWeb) (.ref C_BadWeb) = some true)
    (sS : PySem.W.subIn K (.ref C_SheetError) (.ref C_SheetError) = some true)
    (sL : PySem.W.subIn K (.ref C_BadLog) (.ref C_BadLog) = some true)
    (sb_Log_Log : PySem.W.subIn K (.ref C_Log) (.ref C_Log) = some true)
    (tS : PySem.W.typeIn K (.ref C_SheetError) = some (.type "type"))
    (tL : PySem.W.typeIn K (.ref C_BadLog) = some (.type "type"))
    (nz_Log : C_Log ≠ 0)
    {t_MOST_OFFICES : Tok} (v_MOST_OFFICES : PySem.W.nsIn K mainGlobals "MOST_OFFICES" = some (some (.int 12 t_MOST_OFFICES)))
    {t_MOST_ROWS : Tok} (v_MOST_ROWS : PySem.W.nsIn K mainGlobals "MOST_ROWS" = some (some (.int 60 t_MOST_ROWS)))
    (z0 : PySem.W.nsIn K mainGlobals "isinstance" = some none)
    (z1 : PySem.W.nsIn K mainGlobals "int" = some none)
    (z2 : PySem.W.nsIn K mainGlobals "bool" = some none)
    (z3 : PySem.W.nsIn K mainGlobals "tuple" = some none)
    (z4 : PySem.W.nsIn K mainGlobals "list" = some none)
    (z5 : PySem.W.nsIn K mainGlobals "len" = some none)
    (z6 : PySem.W.nsIn K mainGlobals "abs" = some none)
    (z7 : PySem.W.nsIn K mainGlobals "all" = some none)
    (z8 : PySem.W.nsIn K mainGlobals "range" = some none)
    (z9 : PySem.W.nsIn K mainGlobals "enumerate" = some none)
    (z10 : PySem.W.nsIn K mainGlobals "str" = some none)
    (z11 : PySem.W.nsIn K mainGlobals "ValueError" = some none)
    : ∃ fd : FuncData, (∀ (s : Shared) (v : Value), BindsTo s fd ⟨[v], []⟩ [("_law_script", v)]) ∧ ∀ base : Heap, K.In base → base.Ns mainGlobals mg → FnOk l.prog w K mg base CX0 lawLevel fa fd ["_law_script"] (sp_law K) := by
  have e := hfa.symm.trans (PySem.W.mg_of X G a25)
  cases e
  have F0 := fun_mk (st := s_BadWeb_init) l0 c0 k0
  have b0 := F0.binds (ps := ["self", "part"]) fun _ _ _ _ _ _ us hl => match us, hl with | [_, _], _ => rfl
  have F1 := fun_mk (st := s_is_integer) l1 c1 k1
  have b1 := F1.binds (ps := ["thing"]) fun _ _ _ _ _ _ us hl => match us, hl with | [_], _ => rfl
  have F2 := fun_mk (st := s_is_between) l2 c2 k2
  have b2 := F2.binds (ps := ["thing", "least", "most"]) fun _ _ _ _ _ _ us hl => match us, hl with | [_, _, _], _ => rfl
  have F3 := fun_mk (st := s_is_number) l3 c3 k3
  have b3 := F3.binds (ps := ["thing", "many"]) fun _ _ _ _ _ _ us hl => match us, hl with | [_, _], _ => rfl
  have F4 := fun_mk (st := s_is_tuple_of) l4 c4 k4
  have b4 := F4.binds (ps := ["thing", "many"]) fun _ _ _ _ _ _ us hl => match us, hl with | [_, _], _ => rfl
  have F5 := fun_mk (st := s_is_copying) l5 c5 k5
  have b5 := F5.binds (ps := ["offices", "thing"]) fun _ _ _ _ _ _ us hl => match us, hl with | [_, _], _ => rfl
  have F6 := fun_mk (st := s_is_row) l6 c6 k6
  have b6 := F6.binds (ps := ["offices", "thing"]) fun _ _ _ _ _ _ us hl => match us, hl with | [_, _], _ => rfl
  have F7 := fun_mk (st := s_wrong_part) l7 c7 k7
  have b7 := F7.binds (ps := ["offices", "rows", "is_right"]) fun _ _ _ _ _ _ us hl => match us, hl with | [_, _, _], _ => rfl
  have F8 := fun_mk (st := s_Web_init) l8 c8 k8
  have b8 := F8.binds (ps := ["self", "offices", "rows"]) fun _ _ _ _ _ _ us hl => match us, hl with | [_, _, _], _ => rfl
  have F9 := fun_mk (st := s_Web___eq) l9 c9 k9
  have b9 := F9.binds (ps := ["self", "other"]) fun _ _ _ _ _ _ us hl => match us, hl with | [_, _], _ => rfl
  have F10 := fun_mk (st := s_Log_init) l10 c10 k10
  have b10 := F10.binds (ps := ["self", "offices", "rows"]) fun _ _ _ _ _ _ us hl => match us, hl with | [_, _, _], _ => rfl
  have F11 := fun_mk (st := s_law_hand) l11 c11 k11
  have b11 := F11.binds (ps := ["_law_script"]) fun _ _ _ _ _ _ us hl => match us, hl with | [_], _ => rfl
  have F12 := fun_mk (st := s_law_draw) l12 c12 k12
  have b12 := F12.binds (ps := ["_law_hand_here", "_law_many"]) fun _ _ _ _ _ _ us hl => match us, hl with | [_, _], _ => rfl
  have F13 := fun_mk (st := s_law_web_rows) l13 c13 k13
  have b13 := F13.binds (ps := ["_law_hand_here", "_law_offices", "_law_most", "_law_share"]) fun _ _ _ _ _ _ us hl => match us, hl with | [_, _, _, _], _ => rfl
  have F14 := fun_mk (st := s_law_deep) l14 c14 k14
  have b14 := F14.binds (ps := ["_law_kind"]) fun _ _ _ _ _ _ us hl => match us, hl with | [_], _ => rfl
  have F15 := fun_mk (st := s_law_is_number) l15 c15 k15
  have b15 := F15.binds (ps := ["_law_thing", "_law_least", "_law_most"]) fun _ _ _ _ _ _ us hl => match us, hl with | [_, _, _], _ => rfl
  have F16 := fun_mk (st := s_law_is_row) l16 c16 k16
  have b16 := F16.binds (ps := ["_law_offices", "_law_thing"]) fun _ _ _ _ _ _ us hl => match us, hl with | [_, _], _ => rfl
  have F17 := fun_mk (st := s_law_due) l17 c17 k17
  have b17 := F17.binds (ps := ["_law_offices", "_law_rows"]) fun _ _ _ _ _ _ us hl => match us, hl with | [_, _], _ => rfl
  have F18 := fun_mk (st := s_law_made) l18 c18 k18
  have b18 := F18.binds (ps := ["_law_offices", "_law_rows"]) fun _ _ _ _ _ _ us hl => match us, hl with | [_, _], _ => rfl
  have F19 := fun_mk (st := s_law_keeps) l19 c19 k19
  have b19 := F19.binds (ps := ["_law_web", "_law_offices", "_law_rows"]) fun _ _ _ _ _ _ us hl => match us, hl with | [_, _, _], _ => rfl
  have F20 := fun_mk (st := s_law_is_right) l20 c20 k20
  have b20 := F20.binds (ps := ["_law_offices", "_law_rows"]) fun _ _ _ _ _ _ us hl => match us, hl with | [_, _], _ => rfl
  have F21 := fun_mk (st := s_law_bent_offices) l21 c21 k21
  have b21 := F21.binds (ps := ["_law_hand_here"]) fun _ _ _ _ _ _ us hl => match us, hl with | [_], _ => rfl
  have F22 := fun_mk (st := s_law_bent_row) l22 c22 k22
  have b22 := F22.binds (ps := ["_law_hand_here", "_law_offices", "_law_row"]) fun _ _ _ _ _ _ us hl => match us, hl with | [_, _, _], _ => rfl
  have F23 := fun_mk (st := s_law_bent_rows) l23 c23 k23
  have b23 := F23.binds (ps := ["_law_hand_here", "_law_offices", "_law_rows"]) fun _ _ _ _ _ _ us hl => match us, hl with | [_, _, _], _ => rfl
  have F24 := fun_mk (st := s_law_equal_right) l24 c24 k24
  have b24 := F24.binds (ps := ["_law_hand_here", "_law_offices", "_law_rows"]) fun _ _ _ _ _ _ us hl => match us, hl with | [_, _, _], _ => rfl
  have F25 := fun_mk (st := s_law) l25 c25 k25
  have b25 := F25.binds (ps := ["_law_script"]) fun _ _ _ _ _ _ us hl => match us, hl with | [_], _ => rfl
  have T : Txt K mg ⟨f0, _, f1, _, f2, _, f3, _, f4, _, f5, _, f6, _, f7, _, f8, _, f9, _, f10, _, f11, _, f12, _, f13, _, f14, _, f15, _, f16, _, f17, _, f18, _, f19, _, f20, _, f21, _, f22, _, f23, _, f24, _, _, _, C_Log, C_Web, C_SheetError, C_BadLog, C_BadWeb⟩ := ⟨F0, b0, F1, PySem.W.mg_of X G a1, b1, F2, PySem.W.mg_of X G a2, b2, F3, PySem.W.mg_of X G a3, b3, F4, PySem.W.mg_of X G a4, b4, F5, PySem.W.mg_of X G a5, b5, F6, PySem.W.mg_of X G a6, b6, F7, PySem.W.mg_of X G a7, b7, F8, b8, F9, b9, ⟨a9, i9, k9⟩, F10, b10, F11, PySem.W.mg_of X G a11, b11, F12, PySem.W.mg_of X G a12, b12, F13, PySem.W.mg_of X G a13, b13, F14, PySem.W.mg_of X G a14, b14, F15, PySem.W.mg_of X G a15, b15, F16, PySem.W.mg_of X G a16, b16, F17, PySem.W.mg_of X G a17, b17, F18, PySem.W.mg_of X G a18, b18, F19, PySem.W.mg_of X G a19, b19, F20, PySem.W.mg_of X G a20, b20, F21, PySem.W.mg_of X G a21, b21, F22, PySem.W.mg_of X G a22, b22, F23, PySem.W.mg_of X G a23, b23, F24, PySem.W.mg_of X G a24, b24, F25, PySem.W.mg_of X G a25, b25, PySem.W.mg_of X G gc_Log, ⟨pg_Log, hd_Log, po_Log, sa_Log⟩, na_Log_offices, na_Log_rows, ⟨mk_Log, a10, i10, kc_Log⟩, ⟨⟨pg_Log, hd_Log, po_Log, sa_Log⟩, ia_Log, ib_Log, ic_Log, id_Log, kit_self⟩, PySem.W.mg_of X G gc_Web, ⟨pg_Web, hd_Web, po_Web, sa_Web⟩, na_Web_offices, na_Web_rows, ⟨mk_Web, a8, i8, kc_Web⟩, ⟨⟨pg_Web, hd_Web, po_Web, sa_Web⟩, ia_Web, ib_Web, ic_Web, id_Web, kit_self⟩, PySem.W.mg_of X G gc_SheetError, PySem.W.mg_of X G gc_BadLog, PySem.W.mg_of X G gc_BadWeb, ⟨⟨_, _, _, _, _, _, _, _, _, _, _, _, _, _, _, xL_BadWeb, xR_BadWeb⟩, sa_BadWeb, eC_BadWeb, tC_BadWeb, kc_BadWeb⟩, a0, ot_BadWeb, ⟨xg_BadWeb, xh_BadWeb, xe_BadWeb, xd_BadWeb, xa_BadWeb, xn_BadWeb, xt_BadWeb, xm_BadWeb⟩, ⟨xg_BadWeb, xh_BadWeb, xe_BadWeb, xd_BadWeb⟩, nf_BadWeb_part, ki_BadWeb_ValueError, PySem.W.exm_ref eX_BadWeb hd_BadWeb tX_BadWeb sb_BadWeb_BadWeb, mt_NoneType, mt_tuple, mt_list, mt_int, mt_bool, mt_str, mt_dict, ne_Web, ty_Log, ty_Web, sb_Web_Web, sb_Log_Web, kS, kL, sW, sS, sL, sb_Log_Log, tS, tL, nz_Log, ⟨_, PySem.W.mg_of X G v_MOST_OFFICES⟩, ⟨_, PySem.W.mg_of X G v_MOST_ROWS⟩, PySem.W.mg_none_of X G z0, PySem.W.mg_none_of X G z1, PySem.W.mg_none_of X G z2, PySem.W.mg_none_of X G z3, PySem.W.mg_none_of X G z4, PySem.W.mg_none_of X G z5, PySem.W.mg_none_of X G z6, PySem.W.mg_none_of X G z7, PySem.W.mg_none_of X G z8, PySem.W.mg_none_of X G z9, PySem.W.mg_none_of X G z10, PySem.W.mg_none_of X G z11⟩
  exact ⟨_, fun s v => .of_eq rfl, fun base _ _ => ok_law T⟩
end Pf
open PySem PySem.W PyProof.Rows
set_option maxHeartbeats 0 in
theorem PySem.Challenge.cw_takenover_k76_webs_judged_holds : PySem.Challenge.rw_takenover_k76_webs_judged.Holds := by
  w_on; o_law; k_head; (case hw => w_witness2)
  k_fill
  refine L2.walk_of (l := PySem.Challenge.rw_takenover_k76_webs_judged) (n := 63) (k := Pf.lawLevel) (x := "_law_script") (CX := fun _ => L2.CX0) (sp := fun w => Pf.sp_law _) rfl (by decide) rfl ⟨rfl, by decide, by decide⟩ (fun w h Y => PySem.W.kIn_of Y) ?F (fun _ _ a ns hl _ hS => ⟨a, ns, rfl, hS, hl, fun _ => rfl⟩) (fun _ _ _ _ _ h => h)
  case F =>
    intro w mg fa h KX G hmg
    refine' Pf.all_mk KX G hmg ?a0 ?i0 ?l0 ?c0 ?k0 ?a1 ?l1 ?c1 ?k1 ?a2 ?l2 ?c2 ?k2 ?a3 ?l3 ?c3 ?k3 ?a4 ?l4 ?c4 ?k4 ?a5 ?l5 ?c5 ?k5 ?a6 ?l6 ?c6 ?k6 ?a7 ?l7 ?c7 ?k7 ?a8 ?i8 ?l8 ?c8 ?k8 ?a9 ?i9 ?l9 ?c9 ?k9 ?a10 ?i10 ?l10 ?c10 ?k10 ?a11 ?l11 ?c11 ?k11 ?a12 ?l12 ?c12 ?k12 ?a13 ?l13 ?c13 ?k13 ?a14 ?l14 ?c14 ?k14 ?a15 ?l15 ?c15 ?k15 ?a16 ?l16 ?c16 ?k16 ?a17 ?l17 ?c17 ?k17 ?a18 ?l18 ?c18 ?k18 ?a19 ?l19 ?c19 ?k19 ?a20 ?l20 ?c20 ?k20 ?a21 ?l21 ?c21 ?k21 ?a22 ?l22 ?c22 ?k22 ?a23 ?l23 ?c23 ?k23 ?a24 ?l24 ?c24 ?k24 ?a25 ?l25 ?c25 ?k25 ?gc_Log ?pg_Log ?hd_Log ?po_Log ?sa_Log ?mk_Log ?kc_Log ?na_Log_offices ?na_Log_rows ?ia_Log ?ib_Log ?ic_Log ?id_Log ?gc_Web ?pg_Web ?hd_Web ?po_Web ?sa_Web ?mk_Web ?kc_Web ?na_Web_offices ?na_Web_rows ?ia_Web ?ib_Web ?ic_Web ?id_Web ?gc_SheetError ?gc_BadLog ?gc_BadWeb ?xL_BadWeb ?xR_BadWeb ?sa_BadWeb ?eC_BadWeb ?tC_BadWeb ?kc_BadWeb ?ot_BadWeb ?xg_BadWeb ?xh_BadWeb ?xe_BadWeb ?xd_BadWeb ?xa_BadWeb ?xn_BadWeb ?xt_BadWeb ?xm_BadWeb ?nf_BadWeb_part ?ki_BadWeb_ValueError ?eX_BadWeb ?hd_BadWeb ?tX_BadWeb ?sb_BadWeb_BadWeb ?mt_NoneType ?mt_tuple ?mt_list ?mt_int ?mt_bool ?mt_str ?mt_dict ?ne_Web ?ty_Log ?ty_Web ?sb_Web_Web ?sb_Log_Web ?kS ?kL ?sW ?sS ?sL ?sb_Log_Log ?tS ?tL ?nz_Log ?v_MOST_OFFICES ?v_MOST_ROWS ?z0 ?z1 ?z2 ?z3 ?z4 ?z5 ?z6 ?z7 ?z8 ?z9 ?z10 ?z11
    (case gc_Log => k_is); (case gc_Web => k_is); (case gc_SheetError => k_is); (case gc_BadLog => k_is); (case gc_BadWeb => k_is); (case a0 => k_is); (case i0 => k_is); (case l0 => k_is); (case c0 => k_is); (case k0 => k_is); (case a1 => k_is); (case l1 => k_is); (case c1 => k_is); (case k1 => k_is); (case a2 => k_is); (case l2 => k_is); (case c2 => k_is); (case k2 => k_is); (case a3 => k_is); (case l3 => k_is); (case c3 => k_is); (case k3 => k_is); (case a4 => k_is); (case l4 => k_is); (case c4 => k_is); (case k4 => k_is); (case a5 => k_is); (case l5 => k_is); (case c5 => k_is); (case k5 => k_is); (case a6 => k_is); (case l6 => k_is); (case c6 => k_is); (case k6 => k_is); (case a7 => k_is); (case l7 => k_is); (case c7 => k_is); (case k7 => k_is); (case a8 => k_is); (case i8 => k_is); (case l8 => k_is); (case c8 => k_is); (case k8 => k_is); (case a9 => k_is); (case i9 => k_is); (case l9 => k_is); (case c9 => k_is); (case k9 => k_is); (case a10 => k_is); (case i10 => k_is); (case l10 => k_is); (case c10 => k_is); (case k10 => k_is); (case a11 => k_is); (case l11 => k_is); (case c11 => k_is); (case k11 => k_is); (case a12 => k_is); (case l12 => k_is); (case c12 => k_is); (case k12 => k_is); (case a13 => k_is); (case l13 => k_is); (case c13 => k_is); (case k13 => k_is); (case a14 => k_is); (case l14 => k_is); (case c14 => k_is); (case k14 => k_is); (case a15 => k_is); (case l15 => k_is); (case c15 => k_is); (case k15 => k_is); (case a16 => k_is); (case l16 => k_is); (case c16 => k_is); (case k16 => k_is); (case a17 => k_is); (case l17 => k_is); (case c17 => k_is); (case k17 => k_is); (case a18 => k_is); (case l18 => k_is); (case c18 => k_is); (case k18 => k_is); (case a19 => k_is); (case l19 => k_is); (case c19 => k_is); (case k19 => k_is); (case a20 => k_is); (case l20 => k_is); (case c20 => k_is); (case k20 => k_is); (case a21 => k_is); (case l21 => k_is); (case c21 => k_is); (case k21 => k_is); (case a22 => k_is); (case l22 => k_is); (case c22 => k_is); (case k22 => k_is); (case a23 => k_is); (case l23 => k_is); (case c23 => k_is); (case k23 => k_is); (case a24 => k_is); (case l24 => k_is); (case c24 => k_is); (case k24 => k_is); (case a25 => k_is); (case l25 => k_is); (case c25 => k_is); (case k25 => k_is); (case pg_Log => k_is); (case hd_Log => k_is); (case po_Log => k_is); (case sa_Log => k_is); (case mk_Log => k_is); (case kc_Log => k_is); (case na_Log_offices => k_is); (case na_Log_rows => k_is); (case ia_Log => k_is); (case ib_Log => k_is); (case ic_Log => k_is); (case id_Log => k_is); (case pg_Web => k_is); (case hd_Web => k_is); (case po_Web => k_is); (case sa_Web => k_is); (case mk_Web => k_is); (case kc_Web => k_is); (case na_Web_offices => k_is); (case na_Web_rows => k_is); (case ia_Web => k_is); (case ib_Web => k_is); (case ic_Web => k_is); (case id_Web => k_is); (case xL_BadWeb => k_is); (case xR_BadWeb => decide +kernel); (case sa_BadWeb => k_is); (case eC_BadWeb => k_is); (case tC_BadWeb => k_is); (case kc_BadWeb => k_is); (case ot_BadWeb => k_is); (case xg_BadWeb => k_is); (case xh_BadWeb => k_is); (case xe_BadWeb => k_is); (case xd_BadWeb => k_is); (case xa_BadWeb => k_is); (case xn_BadWeb => k_is); (case xt_BadWeb => k_is); (case xm_BadWeb => k_is); (case nf_BadWeb_part => k_is); (case ki_BadWeb_ValueError => k_is); (case eX_BadWeb => k_is); (case hd_BadWeb => k_is); (case tX_BadWeb => k_is); (case sb_BadWeb_BadWeb => first | rfl | k_is); (case mt_NoneType => k_is); (case mt_tuple => k_is); (case mt_list => k_is); (case mt_int => k_is); (case mt_bool => k_is); (case mt_str => k_is); (case mt_dict => k_is); (case ne_Web => k_is); (case ty_Log => k_is); (case ty_Web => k_is); (case sb_Web_Web => first | rfl | k_is); (case sb_Log_Web => first | rfl | k_is); (case kS => first | rfl | k_is); (case kL => first | rfl | k_is); (case sW => first | rfl | k_is); (case sS => first | rfl | k_is); (case sL => first | rfl | k_is); (case sb_Log_Log => first | rfl | k_is); (case tS => k_is); (case tL => k_is); (case nz_Log => decide); (case v_MOST_OFFICES => k_is); (case v_MOST_ROWS => k_is); (case z0 => k_is); (case z1 => k_is); (case z2 => k_is); (case z3 => k_is); (case z4 => k_is); (case z5 => k_is); (case z6 => k_is); (case z7 => k_is); (case z8 => k_is); (case z9 => k_is); (case z10 => k_is); (case z11 => k_is)
