import PyProof.Rows.All
import Wide.All
import OpenK.AllK
import Wide.FinOn
import HandS.ForMost
import HandS.IsInst
import HandS.Wide
import HandS.TupAny
import HandS.Zip
import HandS.Walk
import HandS.Conv
import HandS.CallLocal
import KE.GoesEnum
import KE.GoesMore
import PyProof.EnumMake
import PyProof.EnumFor
import HandS.OwnEq
import HandS.Codes
import HandS.TupMul
import HandS.Deep
import HandS.Style
import HandS.Iter
import PyProof.ListMulRoad
import PyProof.FactsAll.tuple_2
import HandS.SetFor
import HandS.Strs
import PySem.Challenge.RW_takenover_k23_whole_editions_that_pass
set_option Elab.async false
set_option linter.all false
set_option maxRecDepth 100000
namespace Pf
open PySem PySem.Spec PyProof.Rows L2
/-! ### frames -/
/-- all but the one list at d stays -/
def Fr (d : Addr) (H H' : Hp) : Prop := ∀ b o, b ≠ d → H b = some o → H' b = some o
/-- all that is no list stays -/
def Tx (H H' : Hp) : Prop := ∀ b o, H b = some o → (∀ z, o ≠ .lst z) → H' b = some o
theorem Fr.refl (d : Addr) (H : Hp) : Fr d H H := fun _ _ _ h => h
theorem Fr.trans {d : Addr} {H H1 H2 : Hp} (x : Fr d H H1) (y : Fr d H1 H2) : Fr d H H2 := fun b o n h => y b o n (x b o n h)
theorem Fr.of {d : Addr} {H H' : Hp} (x : Same H H') : Fr d H H' := fun b o _ h => x b o h
theorem Fr.upd {d : Addr} {H : Hp} {o : HO} : Fr d H (upd H d o) := fun b x n h => by rw [upd_ne n]; exact h
theorem Fr.new {d p : Addr} {H : Hp} {o : HO} (n : H p = none) : Fr d H (L2.upd H p o) := fun b x _ h => by
  rw [upd_ne (ne_of_none h n)]; exact h
theorem same_new {H : Hp} {p : Addr} {o : HO} (h : H p = none) : Same H (upd H p o) := fun b x e => by
  rw [upd_ne (ne_of_none e h)]; exact e
/-- behind a change of what was not there at H -/
theorem Same.put {H H1 : Hp} {p : Addr} {o : HO} (s : Same H H1) (h : H p = none) : Same H (upd H1 p o) := fun b x e => by
  rw [upd_ne (ne_of_none e h)]; exact s b x e
theorem Fr.put {d : Addr} {H H1 : Hp} {p : Addr} {o : HO} (s : Fr d H H1) (h : H p = none) : Fr d H (L2.upd H1 p o) := fun b x n e => by
  rw [upd_ne (ne_of_none e h)]; exact s b x n e
theorem Tx.refl (H : Hp) : Tx H H := fun _ _ h _ => h
theorem Tx.trans {H H1 H2 : Hp} (x : Tx H H1) (y : Tx H1 H2) : Tx H H2 := fun b o h n => y b o (x b o h n) n
theorem Tx.of {H H' : Hp} (x : Same H H') : Tx H H' := fun b o h _ => x b o h
theorem Tx.new {H : Hp} {p : Addr} {o : HO} (h : H p = none) : Tx H (L2.upd H p o) := Tx.of (same_new h)
theorem Tx.lst {H : Hp} {p : Addr} {z : List V} {o : HO} (h : H p = some (.lst z)) : Tx H (L2.upd H p o) := fun b x e n => by
  by_cases hb : b = p
  · subst hb
    rw [h] at e
    exact absurd (Option.some.inj e).symm (n z)
  · rw [upd_ne hb]; exact e
theorem Fr.tx {d : Addr} {H H' : Hp} {z : List V} (f : Fr d H H') (h : H d = some (.lst z)) : Tx H H' := fun b x e n => by
  by_cases hb : b = d
  · subst hb
    rw [h] at e
    exact absurd (Option.some.inj e).symm (n z)
  · exact f b x hb e
theorem Tx.seq {K : PySem.W.Frag} {H H' : Hp} {b : Addr} {xs : List V} (t : Tx H H') (h : SqT K H b xs) : SqT K H' b xs := by
  rcases h with (h | ⟨o, h⟩) | h
  · exact .inl (.inl (t _ _ h (fun z e => by cases e)))
  · exact .inl (.inr ⟨o, t _ _ h (fun z e => by cases e)⟩)
  · exact .inr h
theorem Fr.seqL {K : PySem.W.Frag} {d : Addr} {H H' : Hp} {b : Addr} {xs : List V} (t : Fr d H H') (n : b ≠ d) (h : SqL K H b xs) : SqL K H' b xs := by
  rcases h with (h | ⟨o, h⟩) | h
  · exact .inl (.inl (t _ _ n h))
  · exact .inl (.inr ⟨o, t _ _ n h⟩)
  · exact .inr h
theorem SqL.new {K : PySem.W.Frag} {H : Hp} {p : Addr} {xs : List V} : SqL K (L2.upd H p (.lst xs)) p xs := .inl (.inl upd_same)
theorem SqT.new {K : PySem.W.Frag} {H : Hp} {p : Addr} {xs : List V} : SqT K (L2.upd H p (.tup xs)) p xs := .inl (.inl upd_same)
theorem SqL.at {K : PySem.W.Frag} {H : Hp} {p : Addr} {xs : List V} (h : H p = some (.lst xs)) : SqL K H p xs := .inl (.inl h)
theorem SqT.at {K : PySem.W.Frag} {H : Hp} {p : Addr} {xs : List V} (h : H p = some (.tup xs)) : SqT K H p xs := .inl (.inl h)

/-! ### data without lists: it stays where all that is no list stays -/
mutual
def im : PyData → Bool
  | .tuple ds => imAll ds
  | .list _ => false
  | .dict _ => false
  | _ => true
def imAll : List PyData → Bool
  | [] => true
  | d :: ds => im d && imAll ds
end
theorem imAll_iff : ∀ ds : List PyData, imAll ds = true ↔ ∀ d ∈ ds, im d = true
  | [] => by unfold imAll; simp
  | d :: ds => by unfold imAll; rw [Bool.and_eq_true, imAll_iff ds]; simp
mutual
theorem Dp.tx {K : PySem.W.Frag} {H H' : Hp} (t : Tx H H') : ∀ (d : PyData) (v : V), im d = true → Dp K H v d → Dp K H' v d
  | .none, _, _, h => by cases h; exact .non
  | .bool b, _, _, h => by cases h; exact .bl b
  | .int i, _, _, h => by cases h; exact .int i
  | .str x, _, _, h => by cases h; exact .str x
  | .tuple ds, v, m, h => by
    unfold im at m
    cases h with
    | tup q r => exact .tup (t.seq q) (Dp.txAll t ds _ m r)
theorem Dp.txAll {K : PySem.W.Frag} {H H' : Hp} (t : Tx H H') : ∀ (ds : List PyData) (vs : List V), imAll ds = true → DpAll K H vs ds → DpAll K H' vs ds
  | [], _, _, h => by cases h; exact .nil
  | d :: ds, vs, m, h => by
    unfold imAll at m
    rw [Bool.and_eq_true] at m
    cases h with
    | cons p q => exact .cons (Dp.tx t d _ m.1 p) (Dp.txAll t ds _ m.2 q)
end
mutual
theorem Dp.same {K : PySem.W.Frag} {H H' : Hp} (t : Same H H') : ∀ (d : PyData) (v : V), Dp K H v d → Dp K H' v d
  | .none, _, h => by cases h; exact .non
  | .bool b, _, h => by cases h; exact .bl b
  | .int i, _, h => by cases h; exact .int i
  | .str x, _, h => by cases h; exact .str x
  | .tuple ds, v, h => by
    cases h with
    | tup q r => exact .tup ((Tx.of t).seq q) (Dp.sameAll t ds _ r)
  | .list ds, v, h => by
    cases h with
    | lst q r => exact .lst (t.seq q) (Dp.sameAll t ds _ r)
theorem Dp.sameAll {K : PySem.W.Frag} {H H' : Hp} (t : Same H H') : ∀ (ds : List PyData) (vs : List V), DpAll K H vs ds → DpAll K H' vs ds
  | [], _, h => by cases h; exact .nil
  | d :: ds, vs, h => by
    cases h with
    | cons p q => exact .cons (Dp.same t d _ p) (Dp.sameAll t ds _ q)
end
theorem DpAll.len {K : PySem.W.Frag} {H : Hp} : ∀ {vs : List V} {ds : List PyData}, DpAll K H vs ds → vs.length = ds.length
  | _, _, .nil => rfl
  | _, _, .cons _ q => by rw [List.length_cons, List.length_cons, DpAll.len q]
theorem DpAll.at {K : PySem.W.Frag} {H : Hp} : ∀ {vs : List V} {ds : List PyData} {i : Nat} {v : V} {d : PyData}, DpAll K H vs ds → vs[i]? = some v → ds[i]? = some d → Dp K H v d
  | _, _, 0, _, _, .cons p _, h, k => by cases h; cases k; exact p
  | _, _, i + 1, _, _, .cons _ q, h, k => DpAll.at (i := i) q (by simpa using h) (by simpa using k)
theorem DpAll.snoc {K : PySem.W.Frag} {H : Hp} : ∀ {vs : List V} {ds : List PyData} {v : V} {d : PyData}, DpAll K H vs ds → Dp K H v d → DpAll K H (vs ++ [v]) (ds ++ [d])
  | _, _, _, _, .nil, p => .cons p .nil
  | _, _, _, _, .cons x q, p => .cons x (DpAll.snoc q p)
theorem DpAll.app {K : PySem.W.Frag} {H : Hp} : ∀ {vs us : List V} {ds es : List PyData}, DpAll K H vs ds → DpAll K H us es → DpAll K H (vs ++ us) (ds ++ es)
  | _, _, _, _, .nil, p => p
  | _, _, _, _, .cons x q, p => .cons x (DpAll.app q p)
/-- tuples of whole numbers -/
abbrev tupI (ns : List Int) : PyData := .tuple (ns.map PyData.int)
theorem dpAll_ints {K : PySem.W.Frag} {H : Hp} : ∀ (ns : List Int), DpAll K H (ns.map V.int) (ns.map PyData.int)
  | [] => .nil
  | n :: ns => .cons (.int n) (dpAll_ints ns)
theorem dpAll_ints_eq {K : PySem.W.Frag} {H : Hp} : ∀ {ns : List Int} {vs : List V}, DpAll K H vs (ns.map PyData.int) → vs = ns.map V.int
  | [], _, .nil => rfl
  | n :: ns, _, .cons p q => by
    cases p
    rw [dpAll_ints_eq q]
    rfl
theorem dp_ints {K : PySem.W.Frag} {H : Hp} {p : Addr} {ns : List Int} (h : SqT K H p (ns.map V.int)) : Dp K H (.ref p) (tupI ns) := .tup h (dpAll_ints ns)
theorem of_ints {K : PySem.W.Frag} {H : Hp} {v : V} {ns : List Int} (h : Dp K H v (tupI ns)) : ∃ p, v = .ref p ∧ SqT K H p (ns.map V.int) := by
  cases h with
  | tup q r => rw [dpAll_ints_eq r] at q; exact ⟨_, rfl, q⟩
theorem imAll_ints : ∀ (ns : List Int), imAll (ns.map PyData.int) = true
  | [] => rfl
  | _ :: ns => by
    show (im (.int _) && imAll (ns.map PyData.int)) = true
    rw [imAll_ints ns]; rfl
theorem im_ints (ns : List Int) : im (tupI ns) = true := imAll_ints ns
/-- the class of a value of data -/
def tyD : PyData → String
  | .none => "NoneType"
  | .bool _ => "bool"
  | .int _ => "int"
  | .str _ => "str"
  | .list _ => "list"
  | .tuple _ => "tuple"
  | .dict _ => "dict"
theorem Dp.ty {K : PySem.W.Frag} {H : Hp} {v : V} {d : PyData} (h : Dp K H v d) : TyX K H v (.type (tyD d)) := by
  cases h with
  | non => exact .base .non
  | bl b => exact .base (.bl b)
  | int i => exact .base (.int i)
  | str x => exact .base (.str x)
  | lst q r =>
    rcases q with (q | ⟨o, q⟩) | ⟨o, its, n, e, c, _⟩
    · exact .base (.lst q)
    · exact .base (.frz q)
    · exact .kList e c
  | tup q r =>
    rcases q with (q | ⟨o, q⟩) | ⟨o, its, n, e, c, _⟩
    · exact .base (.tup q)
    · exact .fTuple q
    · exact .kTuple e c
theorem atI_int {cs : List Int} {i : Int} (h0 : 0 ≤ i) (h : i < (cs.map V.int).length) : ∃ z, z ∈ cs ∧ cs[i.toNat]? = some z ∧ atI (cs.map V.int) i = some (.int z) := by
  have hl : i.toNat < cs.length := by rw [List.length_map] at h; omega
  obtain ⟨z, ez⟩ : ∃ z, cs[i.toNat]? = some z := ⟨_, List.getElem?_eq_getElem hl⟩
  refine ⟨z, List.mem_of_getElem? ez, ez, ?_⟩
  have e : i = ((i.toNat : Nat) : Int) := by omega
  rw [e]
  refine atI_nat ?_
  rw [List.getElem?_map, ez]
  rfl
/-! ### walks: zip of two tuples -/
theorem walk_zipT {K : PySem.W.Frag} {a b : Addr} {xs ys : List V} {n : Nat} (hn : n = min xs.length ys.length) : Walk (RZ.ItzT K a b) n (fun H => SqT K H a xs ∧ SqT K H b ys) (YPair (fun i => xs[i]?) (fun i => ys[i]?)) where
  goes := fun i H hi ⟨p, q⟩ => ⟨xs, ys, xs[i]'(by omega), ys[i]'(by omega), p, q, List.getElem?_eq_getElem (by omega), List.getElem?_eq_getElem (by omega)⟩
  stops := fun H ⟨p, q⟩ => ⟨xs, ys, p, q, by omega⟩
  yields := fun i H x H' hi ⟨p, q⟩ ⟨T, x1, x2, e, nT, e2, f1, f2⟩ => ⟨T, x1, x2, e, nT, e2, f1 xs p, f2 ys q⟩

/-! ### readings, step by step -/
section
variable {σ : L2.St} {H : Hp} {Q : VK} {QT : Bool → Hp → Prop} {QA : List V → Hp → Prop} {D : Ends} {ta tb tc te : TE} {t u : TT} {tr : TA} {s1 s2 : TS} {r r' : R2} {v : V} {K : PySem.W.Frag}
theorem g_var {i : Nat} (e : σ[i]? = some (some v)) (q : Q v H) : tVar i σ H Q := ⟨v, e, q⟩
theorem g_c (q : Q v H) : tC v σ H Q := q
theorem g_op (q : ta σ H fun x H1 => tb σ H1 fun y H2 => r x y H2 Q) : tOp r ta tb σ H Q := q
theorem g_rI0 {g : Int → Int → V} {i j : Int} (q : Q (g i j) H) : rI0 g (.int i) (.int j) H Q := ⟨i, j, rfl, rfl, q⟩
theorem g_rI {C : Int → Int → Prop} {g : Int → Int → V} {i j : Int} (c : C i j) (q : Q (g i j) H) : rI C g (.int i) (.int j) H Q := ⟨i, j, rfl, rfl, c, q⟩
theorem g_eqI {i j : Int} (q : Q (.bl (decide (i = j))) H) : rEq (.int i) (.int j) H Q := ⟨rfl, by
  rw [show decide (V.int i = V.int j) = decide (i = j) from by simp only [V.int.injEq]]; exact q⟩
theorem g_neI {i j : Int} (q : Q (.bl (!decide (i = j))) H) : rNe (.int i) (.int j) H Q := ⟨rfl, by
  rw [show decide (V.int i = V.int j) = decide (i = j) from by simp only [V.int.injEq]]; exact q⟩
theorem dec_bl {i j : Bool} : decide (V.bl i = V.bl j) = (i == j) := by cases i <;> cases j <;> rfl
theorem g_eqB {i j : Bool} (q : Q (.bl (i == j)) H) : rEq (.bl i) (.bl j) H Q := ⟨rfl, by rw [dec_bl]; exact q⟩
theorem g_neB {i j : Bool} (q : Q (.bl (!(i == j))) H) : rNe (.bl i) (.bl j) H Q := ⟨rfl, by rw [dec_bl]; exact q⟩
theorem g_test (q : ta σ H fun x H' => ∃ k, x = .bl k ∧ QT k H') : tTest ta σ H QT := q
theorem g_tB (q : ta σ H fun x H' => ∃ k, x = .bl k ∧ QT k H') : tB ta σ H QT := q
theorem g_bl {b : Bool} {P : Bool → Prop} (q : P b) : ∃ k, V.bl b = .bl k ∧ P k := ⟨b, rfl, q⟩
theorem g_and (q : t σ H fun c H1 => if c = true then u σ H1 QT else QT false H1) : tAnd t u σ H QT := q
theorem g_or (q : t σ H fun c H1 => if c = true then QT true H1 else u σ H1 QT) : tOr t u σ H QT := q
theorem g_not (q : t σ H fun c H1 => QT (!c) H1) : tNot t σ H QT := q
theorem g_andV (q : ta σ H fun x H1 => ∃ c, x = .bl c ∧ if c = true then tb σ H1 Q else Q (.bl false) H1) : tAndV ta tb σ H Q := q
theorem g_orV (q : ta σ H fun x H1 => ∃ c, x = .bl c ∧ if c = true then Q (.bl true) H1 else tb σ H1 Q) : tOrV ta tb σ H Q := q
theorem g_notV (q : ta σ H fun x H1 => ∃ c, x = .bl c ∧ Q (.bl (!c)) H1) : tNotV ta σ H Q := q
theorem g_if (q : t σ H fun c H1 => if c = true then ta σ H1 Q else tb σ H1 Q) : tIf t ta tb σ H Q := q
theorem g_un {r : V → Hp → VK → Prop} (q : ta σ H fun x H1 => r x H1 Q) : tUn r ta σ H Q := q
theorem g_rU {g : Int → V} {i : Int} (q : Q (g i) H) : rU g (.int i) H Q := ⟨i, rfl, q⟩
theorem g_chain (q : ta σ H fun x H1 => tb σ H1 fun y H2 => r x y H2 fun z H3 => ∃ k, z = .bl k ∧ (if k = true then tc σ H3 fun w' H4 => r' y w' H4 Q else Q (.bl false) H3)) : tChain r r' ta tb tc σ H Q := q
theorem g_seq (q : s1 { D with nx := s2 D } σ H) : tSeq s1 s2 D σ H := q
theorem g_ifS (q : t σ H fun b H1 => if b = true then s1 D σ H1 else s2 D σ H1) : tIfS t s1 s2 D σ H := q
theorem g_next (q : D.nx σ H) : tNext D σ H := q
theorem g_asg {g : TG} (q : ta σ H fun x H1 => g x σ H1 D.nx) : tAsg ta g D σ H := q
theorem g_name {i : Nat} {P : L2.St → Hp → Prop} (q : P (σ.set i (some v)) H) : gName i v σ H P := q
theorem g_sub {ts : TSet} {P : L2.St → Hp → Prop} (q : ta σ H fun o H1 => tb σ H1 fun i H2 => ts o i v H2 fun H3 => P σ H3) : gSub ta tb ts v σ H P := q
theorem g_setL {p : Addr} {xs : List V} {k : Int} {j : Nat} {P : Hp → Prop} (h : H p = some (.lst xs)) (e : ixN xs.length k = some j) (q : P (upd H p (.lst (xs.set j v)))) : rSetL (.ref p) (.int k) v H P := ⟨p, xs, k, j, rfl, rfl, h, e, q⟩
theorem g_ret (q : ta σ H D.rt) : tRet ta D σ H := q
theorem g_drop (q : ta σ H fun _ H1 => D.nx σ H1) : tDrop ta D σ H := q
theorem g_cons (q : ta σ H fun x H1 => tr σ H1 fun xs H2 => QA (x :: xs) H2) : tCons ta tr σ H QA := q
theorem g_nil (q : QA [] H) : tNil σ H QA := q
theorem g_cb {r : List V → Hp → VK → Prop} (q : tr σ H fun vs H1 => r vs H1 Q) : tCB r tr σ H Q := q
theorem g_tup (q : tr σ H fun xs H1 => xs.length ≤ sizeLine ∧ ∀ p, H1 p = none → Q (.ref p) (upd H1 p (.tup xs))) : tTup tr σ H Q := q
theorem g_lst (q : tr σ H fun xs H1 => xs.length ≤ sizeLine ∧ ∀ p, H1 p = none → Q (.ref p) (upd H1 p (.lst xs))) : tLst tr σ H Q := q
theorem g_sl {r : V → Option Int → Option Int → Hp → VK → Prop} {tl th : TO} (q : ta σ H fun x H1 => tl σ H1 fun l H2 => th σ H2 fun u H3 => r x l u H3 Q) : tSl r ta tl th σ H Q := q
theorem g_nopart {P : Option Int → Hp → Prop} (q : P none H) : tNoPart σ H P := q
theorem g_part {P : Option Int → Hp → Prop} (q : ta σ H fun x H1 => ∃ i, x = .int i ∧ P (some i) H1) : tPart ta σ H P := q
theorem g_part2 {i : Int} {P : Int → Prop} (q : P i) : ∃ k, V.int i = .int k ∧ P k := ⟨i, rfl, q⟩
theorem g_ixL {p : Addr} {xs : List V} {i : Int} (h : SqL K H p xs) (e : atI xs i = some v) (q : Q v H) : rIxL K (.ref p) (.int i) H Q := ⟨p, xs, i, v, rfl, rfl, h, e, q⟩
theorem g_ixT {p : Addr} {xs : List V} {i : Int} (h : SqT K H p xs) (e : atI xs i = some v) (q : Q v H) : rIxT K (.ref p) (.int i) H Q := ⟨p, xs, i, v, rfl, rfl, h, e, q⟩
theorem g_call {sp : Sp} {dvs : List V} {E : XK} (q : tr σ H fun vs H1 => sp (vs ++ dvs) H1 Q E) : tCall sp dvs E tr σ H Q := q
theorem g_int {i : Int} (q : Q (.int i) H) : (∃ k, [V.int i] = [.int k] ∧ Q (.int k) H) ∨ ∃ k : Bool, [V.int i] = [.bl k] ∧ Q (.int (if k = true then 1 else 0)) H := .inl ⟨i, rfl, q⟩
theorem g_list {i : Nat} {P : Addr → Prop} {p : Addr} (q : P p) : ∃ k, V.ref p = .ref k ∧ P k := ⟨p, rfl, q⟩
theorem g_iList {R : It → Hp → Prop} {p : Addr} {xs : List V} (h : SqL K H p xs) (q : R (Itl K p) H) : ∃ a, V.ref p = .ref a ∧ (∃ xs, SqL K H a xs) ∧ R (Itl K a) H := ⟨p, rfl, ⟨xs, h⟩, q⟩
theorem g_iTup {R : It → Hp → Prop} {p : Addr} {xs : List V} (h : SqT K H p xs) (q : R (Itt K p) H) : ∃ a, V.ref p = .ref a ∧ (∃ xs, SqT K H a xs) ∧ R (Itt K a) H := ⟨p, rfl, ⟨xs, h⟩, q⟩
theorem g_lenL {p : Addr} {xs : List V} (h : SqL K H p xs) (q : Q (.int xs.length) H) : ∃ p' ys, [V.ref p] = [.ref p'] ∧ (SqL K H p' ys ∨ SqT K H p' ys) ∧ Q (.int ys.length) H := ⟨p, xs, rfl, .inl h, q⟩
theorem g_lenT {p : Addr} {xs : List V} (h : SqT K H p xs) (q : Q (.int xs.length) H) : ∃ p' ys, [V.ref p] = [.ref p'] ∧ (SqL K H p' ys ∨ SqT K H p' ys) ∧ Q (.int ys.length) H := ⟨p, xs, rfl, .inr h, q⟩
theorem g_ite {c A B : Prop} [Decidable c] (h1 : c → A) (h2 : ¬ c → B) : if decide c = true then A else B := by
  by_cases h : c
  · rw [decide_eq_true h, if_pos rfl]; exact h1 h
  · rw [decide_eq_false h, if_neg Bool.false_ne_true]; exact h2 h
theorem g_iteN {c A B : Prop} [Decidable c] (h1 : ¬ c → A) (h2 : c → B) : if (!decide c) = true then A else B := by
  by_cases h : c
  · rw [decide_eq_true h]; exact (if_neg Bool.false_ne_true) ▸ h2 h
  · rw [decide_eq_false h]; exact (if_pos rfl) ▸ h1 h
theorem g_lc {wi : TI} {g : TG} {tt : TT} {vs : List Nat} (q : wi σ H fun J H1 => ∀ D, H1 D = none → ∃ W : Nat → Nat → Hp → Prop, (∃ m, W 0 m (L2.upd H1 D (.lst []))) ∧ ∀ i m H, W i m H →
  (J.stop i H ∧ Q (.ref D) H) ∨ (J.go i H ∧ ∃ Nx : Hp → Prop, (∀ H', Nx H' → ∃ m', m' < m ∧ W (i + 1) m' H') ∧ ∀ x H', J.yld i H x H' → g x (wipe σ vs) H' fun σ2 H2 => wipe σ2 vs = wipe σ vs ∧ tt σ2 H2 fun b H3 =>
    if b = true then te σ2 H3 fun y H4 => ∃ acc, H4 D = some (.lst acc) ∧ acc.length < sizeLine ∧ Nx (L2.upd H4 D (.lst (acc ++ [y]))) else Nx H3)) : tLc wi g tt te vs σ H Q := q
theorem g_for {wi : TI} {g : TG} {tb : TS} (q : wi σ H fun J H1 => ∃ W : Nat → Nat → L2.St → Hp → Prop, (∃ m, W 0 m σ H1) ∧ ∀ i m σ H, W i m σ H →
  (J.stop i H ∧ D.nx σ H) ∨ (J.go i H ∧ ∃ N : L2.St → Hp → Prop, (∀ σ' H', N σ' H' → ∃ m', m' < m ∧ W (i + 1) m' σ' H') ∧ ∀ x H', J.yld i H x H' → g x σ H' fun σ2 H2 => tb { D with nx := N, ct := N, bk := D.nx } σ2 H2)) : tFor wi g tb D σ H := q
theorem g_iL {R : It → Hp → Prop} (q : ta σ H fun x H1 => ∃ a, x = .ref a ∧ (∃ xs, SqL K H1 a xs) ∧ R (Itl K a) H1) : iList K ta σ H R := q
theorem g_iT {R : It → Hp → Prop} (q : ta σ H fun x H1 => ∃ a, x = .ref a ∧ (∃ xs, SqT K H1 a xs) ∧ R (Itt K a) H1) : iTup K ta σ H R := q
theorem g_iR1 {R : It → Hp → Prop} (q : tr σ H fun vs H1 => ∃ j : Int, vs = [.int j] ∧ -(2 ^ 62) ≤ j ∧ j < 2 ^ 62 ∧ R (Itr 0 j.toNat) H1) : iRng1 tr σ H R := q
theorem g_iR2 {R : It → Hp → Prop} (q : tr σ H fun vs H1 => ∃ i j : Int, vs = [.int i, .int j] ∧ (-(2 ^ 62) ≤ i ∧ i < 2 ^ 62 ∧ -(2 ^ 62) ≤ j ∧ j < 2 ^ 62) ∧ R (Itr i (j - i).toNat) H1) : iRng2 tr σ H R := q
theorem g_iZA {R : It → Hp → Prop} (q : tr σ H fun vs H1 => ∃ a b xs ys, vs = [.ref a, .ref b] ∧ ((SqL K H1 a xs ∧ SqL K H1 b ys ∧ R (Itz K a b) H1) ∨ (SqT K H1 a xs ∧ SqT K H1 b ys ∧ R (RZ.ItzT K a b) H1))) : RZ.iZipA K tr σ H R := q
theorem g_bm {T : String} {rm : V → List V → Hp → VK → Prop} (q : ta σ H fun x H1 => tyV K T x H1 ∧ tr σ H1 fun xs H2 => rm x xs H2 Q) : tBM K T rm ta tr σ H Q := q
theorem g_nT {A B : Prop} (h : B) : if (!true) = true then A else B := h
theorem g_nF {A B : Prop} (h : A) : if (!false) = true then A else B := h
theorem g_oFF {A B : Prop} (h : B) : if (false || false) = true then A else B := h
theorem g_oTx {b : Bool} {A B : Prop} (h : A) : if (true || b) = true then A else B := h
theorem g_oFT {A B : Prop} (h : A) : if (false || true) = true then A else B := h
theorem g_noTx {b : Bool} {A B : Prop} (h : B) : if (!(true || b)) = true then A else B := h
theorem g_noFT {A B : Prop} (h : B) : if (!(false || true)) = true then A else B := h
theorem g_noFF {A B : Prop} (h : A) : if (!(false || false)) = true then A else B := h
theorem g_yes (q : QT true H) : tYes σ H QT := q
/-- one word for what follows a statement -/
theorem seq_cut (R : L2.St → Hp → Prop) (h2 : ∀ σ' H', R σ' H' → s2 D σ' H') (h1 : ∀ N : L2.St → Hp → Prop, (∀ σ' H', R σ' H' → N σ' H') → s1 { D with nx := N } σ H) : tSeq s1 s2 D σ H := h1 (s2 D) h2
end

/-! ### the drawn numbers: the list at d, its cells at c -/
def Dice (d c : Addr) (H : Hp) : Prop := ∃ (cs : List Int) (i q s t : Int), H d = some (.lst [.ref c, .int i, .int q, .int s, .int t]) ∧ H c = some (.lst (cs.map V.int)) ∧ c ≠ d ∧ (∀ x ∈ cs, 0 ≤ x) ∧ 0 ≤ i ∧ 0 ≤ q ∧ 0 ≤ s ∧ s < 2147483648 ∧ 0 ≤ t
theorem Dice.fr {H H' : Hp} {d c : Addr} (D : Dice d c H) (f : Same H H') : Dice d c H' := by
  obtain ⟨cs, i, q, s, t, h1, h2, r⟩ := D
  exact ⟨cs, i, q, s, t, f _ _ h1, f _ _ h2, r⟩
theorem Dice.nd {H : Hp} {d c p : Addr} (D : Dice d c H) (n : H p = none) : p ≠ d := by
  obtain ⟨cs, i, q, s, t, h1, r⟩ := D
  exact (ne_of_none h1 n).symm
theorem Dice.nc {H : Hp} {d c p : Addr} (D : Dice d c H) (n : H p = none) : p ≠ c := by
  obtain ⟨cs, i, q, s, t, h1, h2, r⟩ := D
  exact (ne_of_none h2 n).symm
theorem Dice.tx {H H' : Hp} {d c : Addr} (D : Dice d c H) (f : Fr d H H') : Tx H H' := by
  obtain ⟨cs, i, q, s, t, h1, r⟩ := D
  exact f.tx h1
theorem Dice.new {H : Hp} {d c p : Addr} {o : HO} (D : Dice d c H) (n : H p = none) : Dice d c (L2.upd H p o) := D.fr (same_new n)
theorem Dice.put {H : Hp} {d c p : Addr} {o : HO} (D : Dice d c H) (n : p ≠ d) (n2 : p ≠ c) : Dice d c (L2.upd H p o) := by
  obtain ⟨cs, i, q, s, t, h1, h2, r⟩ := D
  exact ⟨cs, i, q, s, t, by rw [upd_ne n.symm]; exact h1, by rw [upd_ne n2.symm]; exact h2, r⟩
theorem mem_cutV {xs : List V} {lo hi : Option Int} {x : V} (h : x ∈ cutV xs lo hi) : x ∈ xs := List.mem_of_mem_drop (List.mem_of_mem_take h)
theorem cutV_int {ns : List Int} {lo hi : Option Int} {i : Nat} {x : V} (h : (cutV (ns.map V.int) lo hi)[i]? = some x) : ∃ z, x = .int z := by
  have := mem_cutV (List.mem_of_getElem? h)
  obtain ⟨z, _, e⟩ := List.mem_map.mp this
  exact ⟨z, e.symm⟩
theorem take_snoc {α : Type} {xs : List α} {i : Nat} {x : α} (h : xs[i]? = some x) : xs.take (i + 1) = xs.take i ++ [x] := by
  rw [List.take_add_one, h]; rfl
/-! ### list comprehensions -/
section
variable {J : It} {n : Nat} {G : Hp → Prop} {Y : Nat → Hp → V → Hp → Prop} {g : TG} {tt : TT} {te : TE} {vs : List Nat} {σ : L2.St} {H1 : Hp} {D : Addr} {Qd : Hp → Prop}
theorem lc_cps (w : Walk J n G Y) (R : Nat → Hp → List V → Prop) (h0 : R 0 (L2.upd H1 D (.lst [])) []) (hG : ∀ i H acc, i ≤ n → R i H acc → H D = some (.lst acc) → G H)
    (hs : ∀ i x H H' acc (C : V → Hp → Prop) (Cn : Hp → Prop), i < n → R i H acc → H D = some (.lst acc) → Y i H x H' →
      (∀ y H4, H4 D = some (.lst acc) → acc.length < sizeLine → R (i + 1) (L2.upd H4 D (.lst (acc ++ [y]))) (acc ++ [y]) → C y H4) → (∀ H3, H3 D = some (.lst acc) → R (i + 1) H3 acc → Cn H3) →
      g x (wipe σ vs) H' fun σ2 H2 => wipe σ2 vs = wipe σ vs ∧ tt σ2 H2 fun b H3 => if b = true then te σ2 H3 C else Cn H3)
    (hd : ∀ H acc, R n H acc → H D = some (.lst acc) → Qd H) :
    ∃ W : Nat → Nat → Hp → Prop, (∃ m, W 0 m (L2.upd H1 D (.lst []))) ∧ ∀ i m H, W i m H →
      (J.stop i H ∧ Qd H) ∨ (J.go i H ∧ ∃ Nx : Hp → Prop, (∀ H', Nx H' → ∃ m', m' < m ∧ W (i + 1) m' H') ∧ ∀ x H', J.yld i H x H' → g x (wipe σ vs) H' fun σ2 H2 => wipe σ2 vs = wipe σ vs ∧ tt σ2 H2 fun b H3 =>
        if b = true then te σ2 H3 fun y H4 => ∃ acc, H4 D = some (.lst acc) ∧ acc.length < sizeLine ∧ Nx (L2.upd H4 D (.lst (acc ++ [y]))) else Nx H3) :=
  lc_it w (fun i H => ∃ acc, H D = some (.lst acc) ∧ R i H acc) ⟨[], upd_same, h0⟩ (fun i H hi ⟨acc, e, r⟩ => hG i H acc hi r e)
    (fun i x H H' hi ⟨acc, e, r⟩ hy => hs i x H H' acc _ _ hi r e hy (fun y H4 e4 l r4 => ⟨acc, e4, l, _, upd_same, r4⟩) (fun H3 e3 r3 => ⟨acc, e3, r3⟩)) (fun H ⟨acc, e, r⟩ => hd H acc r e)
/-- nothing that stood is changed; what is made is told by the turn -/
theorem lc_same {H0 : Hp} (w : Walk J n G Y) (A : Nat → List V) (a0 : A 0 = []) (hl : ∀ i, i ≤ n → (A i).length < sizeLine) (hH : Same H0 H1) (nD : H0 D = none) (nD1 : H1 D = none) (hG : ∀ H, Same H1 H → G H)
    (hs : ∀ i x H H' (C : V → Hp → Prop) (Cn : Hp → Prop), i < n → Same H1 H → Y i H x H' → (∀ y H4, Same H H4 → A (i + 1) = A i ++ [y] → C y H4) → (∀ H3, Same H H3 → A (i + 1) = A i → Cn H3) →
      g x (wipe σ vs) H' fun σ2 H2 => wipe σ2 vs = wipe σ vs ∧ tt σ2 H2 fun b H3 => if b = true then te σ2 H3 C else Cn H3)
    (hd : ∀ H, Same H0 H → H D = some (.lst (A n)) → Qd H) :
    ∃ W : Nat → Nat → Hp → Prop, (∃ m, W 0 m (L2.upd H1 D (.lst []))) ∧ ∀ i m H, W i m H →
      (J.stop i H ∧ Qd H) ∨ (J.go i H ∧ ∃ Nx : Hp → Prop, (∀ H', Nx H' → ∃ m', m' < m ∧ W (i + 1) m' H') ∧ ∀ x H', J.yld i H x H' → g x (wipe σ vs) H' fun σ2 H2 => wipe σ2 vs = wipe σ vs ∧ tt σ2 H2 fun b H3 =>
        if b = true then te σ2 H3 fun y H4 => ∃ acc, H4 D = some (.lst acc) ∧ acc.length < sizeLine ∧ Nx (L2.upd H4 D (.lst (acc ++ [y]))) else Nx H3) := by
  refine lc_cps w (fun i H acc => Same H1 H ∧ acc = A i) ⟨same_new nD1, a0.symm⟩ (fun i H acc hi r e => hG H r.1) (fun i x H H' acc C Cn hi r e hy hC hN => ?_) (fun H acc r e => hd H (hH.trans r.1) (by rw [e, r.2]))
  obtain ⟨r1, rfl⟩ := r
  exact hs i x H H' C Cn hi r1 hy (fun y H4 s4 e4 => hC y H4 (s4 _ _ e) (hl i (by omega)) ⟨Same.put (r1.trans s4) nD1, e4.symm⟩) (fun H3 s3 e3 => hN H3 (s3 _ _ e) ⟨r1.trans s3, e3.symm⟩)
/-- data made at each turn, told by the turn -/
theorem lc_data {K : PySem.W.Frag} (w : Walk J n G Y) (A : Nat → List PyData) (a0 : A 0 = []) (hl : ∀ i, i ≤ n → (A i).length < sizeLine) (hi' : ∀ i, i ≤ n → imAll (A i) = true) (nD1 : H1 D = none) (hG : ∀ H, Same H1 H → G H)
    (hs : ∀ i x H H' (C : V → Hp → Prop) (Cn : Hp → Prop), i < n → Same H1 H → Y i H x H' → (∀ y e H4, Same H H4 → Dp K H4 y e → A (i + 1) = A i ++ [e] → C y H4) → (∀ H3, Same H H3 → A (i + 1) = A i → Cn H3) →
      g x (wipe σ vs) H' fun σ2 H2 => wipe σ2 vs = wipe σ vs ∧ tt σ2 H2 fun b H3 => if b = true then te σ2 H3 C else Cn H3)
    (hd : ∀ H xs, Same H1 H → H D = some (.lst xs) → DpAll K H xs (A n) → Qd H) :
    ∃ W : Nat → Nat → Hp → Prop, (∃ m, W 0 m (L2.upd H1 D (.lst []))) ∧ ∀ i m H, W i m H →
      (J.stop i H ∧ Qd H) ∨ (J.go i H ∧ ∃ Nx : Hp → Prop, (∀ H', Nx H' → ∃ m', m' < m ∧ W (i + 1) m' H') ∧ ∀ x H', J.yld i H x H' → g x (wipe σ vs) H' fun σ2 H2 => wipe σ2 vs = wipe σ vs ∧ tt σ2 H2 fun b H3 =>
        if b = true then te σ2 H3 fun y H4 => ∃ acc, H4 D = some (.lst acc) ∧ acc.length < sizeLine ∧ Nx (L2.upd H4 D (.lst (acc ++ [y]))) else Nx H3) := by
  refine lc_cps w (fun i H acc => Same H1 H ∧ DpAll K H acc (A i)) ⟨same_new nD1, by rw [a0]; exact .nil⟩ (fun i H acc hi r e => hG H r.1) (fun i x H H' acc C Cn hi r e hy hC hN => ?_) (fun H acc r e => hd H acc r.1 e r.2)
  obtain ⟨r1, r2⟩ := r
  refine hs i x H H' C Cn hi r1 hy (fun y ee H4 s4 dy e4 => hC y H4 (s4 _ _ e) (by rw [DpAll.len r2]; exact hl i (by omega)) ⟨Same.put (r1.trans s4) nD1, ?_⟩) (fun H3 s3 e3 => hN H3 (s3 _ _ e) ⟨r1.trans s3, by rw [e3]; exact Dp.sameAll s3 _ _ r2⟩)
  rw [e4]
  have im1 := hi' (i + 1) hi
  rw [e4] at im1
  exact Dp.txAll (Tx.lst (s4 _ _ e)) _ _ im1 (DpAll.snoc (Dp.sameAll s4 _ _ r2) dy)
/-- data drawn at each turn, all of one kind -/
theorem lc_draw {K : PySem.W.Frag} {d c : Addr} (w : Walk J n G Y) (PD : PyData → Prop) (hn : n < sizeLine) (him : ∀ e, PD e → im e = true) (nD1 : H1 D = none) (hD : Dice d c H1) (hG : ∀ H, Fr d H1 H → G H)
    (hs : ∀ i x H H' (C : V → Hp → Prop) (Cn : Hp → Prop), i < n → Fr d H1 H → Dice d c H → Y i H x H' → (∀ y e H4, Fr d H H4 → Dice d c H4 → Dp K H4 y e → PD e → C y H4) →
      g x (wipe σ vs) H' fun σ2 H2 => wipe σ2 vs = wipe σ vs ∧ tt σ2 H2 fun b H3 => if b = true then te σ2 H3 C else Cn H3)
    (hd : ∀ H xs ds, Fr d H1 H → Dice d c H → H D = some (.lst xs) → DpAll K H xs ds → ds.length = n → (∀ e ∈ ds, PD e) → Qd H) :
    ∃ W : Nat → Nat → Hp → Prop, (∃ m, W 0 m (L2.upd H1 D (.lst []))) ∧ ∀ i m H, W i m H →
      (J.stop i H ∧ Qd H) ∨ (J.go i H ∧ ∃ Nx : Hp → Prop, (∀ H', Nx H' → ∃ m', m' < m ∧ W (i + 1) m' H') ∧ ∀ x H', J.yld i H x H' → g x (wipe σ vs) H' fun σ2 H2 => wipe σ2 vs = wipe σ vs ∧ tt σ2 H2 fun b H3 =>
        if b = true then te σ2 H3 fun y H4 => ∃ acc, H4 D = some (.lst acc) ∧ acc.length < sizeLine ∧ Nx (L2.upd H4 D (.lst (acc ++ [y]))) else Nx H3) := by
  refine lc_cps w (fun i H acc => Fr d H1 H ∧ Dice d c H ∧ ∃ ds, DpAll K H acc ds ∧ ds.length = i ∧ ∀ e ∈ ds, PD e) ⟨Fr.new nD1, hD.new nD1, [], .nil, rfl, fun e h => by cases h⟩ (fun i H acc hi r e => hG H r.1) (fun i x H H' acc C Cn hi r e hy hC hN => ?_)
    (fun H acc ⟨r1, r2, ds, r3, r4, r5⟩ e => hd H acc ds r1 r2 e r3 r4 r5)
  obtain ⟨r1, r2, ds, r3, r4, r5⟩ := r
  refine hs i x H H' C Cn hi r1 r2 hy (fun y ee H4 f4 d4 dy pe => ?_)
  have e4 : H4 D = some (.lst acc) := f4 _ _ (hD.nd nD1) e
  refine hC y H4 e4 (by rw [DpAll.len r3]; omega) ⟨Fr.put (r1.trans f4) nD1, d4.put (hD.nd nD1) (hD.nc nD1), ds ++ [ee], ?_, by rw [List.length_append, r4]; rfl, fun e he => ?_⟩
  · have im1 : imAll (ds ++ [ee]) = true := (imAll_iff _).mpr fun z hz => by
      rcases List.mem_append.mp hz with hz | hz
      · exact him z (r5 z hz)
      · rw [List.mem_singleton.mp hz]; exact him _ pe
    have im0 : imAll ds = true := (imAll_iff _).mpr fun z hz => him z (r5 z hz)
    exact Dp.txAll (Tx.lst e4) _ _ im1 (DpAll.snoc (Dp.txAll (r2.tx f4) _ _ im0 r3) dy)
  · rcases List.mem_append.mp he with he | he
    · exact r5 e he
    · rw [List.mem_singleton.mp he]; exact pe
end

/-! ### whole numbers among all things -/
def IntK (K : PySem.W.Frag) (H : Hp) (v : V) (b : Bool) : Prop := ∃ (t : Value) (b1 b2 : Bool), TyX K H v t ∧ PySem.W.kitOne K t (.type "int") = some b1 ∧ PySem.W.kitOne K t (.type "bool") = some b2 ∧ b = (b1 && !b2)
theorem IntK.int {K : PySem.W.Frag} {H : Hp} (i : Int) : IntK K H (.int i) true := ⟨.type "int", true, false, .base (.int i), kit_ty (by decide +kernel), kit_ty (by decide +kernel), rfl⟩
/-- an integer i, or none -/
def Itm (K : PySem.W.Frag) (H : Hp) (v : V) : Option Int → Prop
  | some i => v = .int i
  | none => IntK K H v false
theorem g_isi {K : PySem.W.Frag} {H : Hp} {Q : VK} {x : V} {n : String} {t : Value} {b : Bool} (ty : TyX K H x t) (k : PySem.W.kitOne K t (.type n) = some b) (q : Q (.bl b) H) : rIsi K [x, .ty n] H Q := ⟨x, .ty n, t, .type n, b, rfl, .ty n, ty, k, q⟩
theorem kitAny2 {K : PySem.W.Frag} {t c c2 : Value} {b b2 : Bool} (h : PySem.W.kitOne K t c = some b) (h2 : PySem.W.kitOne K t c2 = some b2) : PySem.W.kitAny K t [c, c2] = some (b || b2) := by
  unfold PySem.W.kitAny
  rw [h]
  cases b with
  | true => rfl
  | false =>
    unfold PySem.W.kitAny
    rw [h2]
    cases b2 <;> rfl

theorem g_slA {K : PySem.W.Frag} {H : Hp} {Q : VK} {p : Addr} {xs : List V} {lo hi : Option Int} (h : SqT K H p xs) (q : ∀ p' H', Same H H' → SqT K H' p' (cutV xs lo hi) → Q (.ref p') H') : rSlA K (.ref p) lo hi H Q := by
  refine ⟨p, xs, rfl, h, fun hw => ?_, fun _ p' n' => q p' _ (same_new n') SqT.new⟩
  refine q p H (Same.refl H) ?_
  unfold cutV
  rw [hw.1, hw.2]
  simpa using h
theorem cutV1 (xs : List V) : cutV xs (some 1) none = xs.drop 1 := by
  unfold cutV
  rw [show HT.sIx xs.length 0 (some 1) = min 1 xs.length from HT.sIx_nat xs.length 0 1, HT.sIx_none]
  cases xs with
  | nil => rfl
  | cons x r =>
    rw [show min 1 (x :: r).length = 1 by
      rw [List.length_cons]
      omega]
    show (List.take ((x :: r).length - 1) r) = r
    rw [List.length_cons, Nat.add_sub_cancel]
    exact List.take_length
/-- rising along -/
def risesB : List Int → Bool
  | x :: y :: r => decide (x ≤ y) && risesB (y :: r)
  | _ => true
def zipUp (ns : List Int) : List Bool := (ns.zip (ns.drop 1)).map fun p => decide (p.1 ≤ p.2)
theorem risesB_zip : ∀ ns : List Int, risesB ns = (zipUp ns).all id
  | [] => rfl
  | [_] => rfl
  | x :: y :: r => by
    unfold risesB
    rw [risesB_zip (y :: r)]
    unfold zipUp
    simp
theorem risesB_of : ∀ {ns : List Int}, ns.Pairwise (· ≤ ·) → risesB ns = true
  | [], _ => rfl
  | [_], _ => rfl
  | x :: y :: r, h => by
    unfold risesB
    rw [List.pairwise_cons] at h
    rw [risesB_of h.2, decide_eq_true (h.1 y (by simp))]
    rfl
theorem zipUp_len (ns : List Int) : (zipUp ns).length = min ns.length (ns.drop 1).length := by
  unfold zipUp
  rw [List.length_map, List.length_zip]
theorem zipUp_at {ns : List Int} {i : Nat} {x y : Int} (h : ns[i]? = some x) (k : (ns.drop 1)[i]? = some y) : (zipUp ns)[i]? = some (decide (x ≤ y)) := by
  unfold zipUp
  rw [List.getElem?_map, (List.getElem?_zip_eq_some (z := (x, y))).mpr ⟨h, k⟩]
  rfl
theorem map_at {α β : Type} {f : α → β} {xs : List α} {i : Nat} {y : β} (h : (xs.map f)[i]? = some y) : ∃ x, xs[i]? = some x ∧ y = f x := by
  rw [List.getElem?_map] at h
  cases hz : xs[i]? with
  | none => rw [hz] at h; cases h
  | some z =>
    rw [hz] at h
    cases h
    exact ⟨z, rfl, rfl⟩

/-! ### the written part by its letter -/
def rLenS (K : PySem.W.Frag) : List V → Hp → VK → Prop := fun xs H Q => ∃ p ys, xs = [.ref p] ∧ (SqL K H p ys ∨ SqT K H p ys) ∧ Q (.int ys.length) H
def rTupOf (K : PySem.W.Frag) : List V → Hp → VK → Prop := fun xs H Q => ∃ p ys, xs = [.ref p] ∧ ((SqL K H p ys ∧ ∀ l, H l = none → Q (.ref l) (L2.upd H l (.tup ys))) ∨ (SqT K H p ys ∧ Q (.ref p) H))
def rLstOf (K : PySem.W.Frag) : List V → Hp → VK → Prop := fun xs H Q => ∃ p ys, xs = [.ref p] ∧ (SqL K H p ys ∨ SqT K H p ys) ∧ ∀ l, H l = none → Q (.ref l) (L2.upd H l (.lst ys))
section
variable {X : Cx} (K : PySem.W.Frag)
theorem kC {f : Value} {r : PySem.W.Frag → List V → Hp → VK → Prop} (h : X.K = K) (c : CallR X f (r X.K)) : CallR X f (r K) := h ▸ c
theorem kM {id : String} {r : PySem.W.Frag → V → List V → Hp → VK → Prop} (h : X.K = K) (c : MtR X id (r X.K)) : MtR X id (r K) := h ▸ c
theorem kO {f : Value → Value → Sem Value} {r : PySem.W.Frag → R2} (h : X.K = K) (c : OpR X f (r X.K)) : OpR X f (r K) := h ▸ c
theorem kI {r : PySem.W.Frag → R2} (h : X.K = K) (c : IxR X (r X.K)) : IxR X (r K) := h ▸ c
theorem kS {r : PySem.W.Frag → V → Option Int → Option Int → Hp → VK → Prop} (h : X.K = K) (c : SlR X (r X.K)) : SlR X (r K) := h ▸ c
theorem kLen (h : X.K = K) : CallR X (.builtin "len") (rLenS K) := kC K (r := rLenS) h call_len_seq
theorem kTupOf (h : X.K = K) : CallR X (.type "tuple") (rTupOf K) := kC K (r := rTupOf) h call_tuple_of
theorem kLstOf (h : X.K = K) : CallR X (.type "list") (rLstOf K) := kC K (r := rLstOf) h call_list_of
theorem kIsi (h : X.K = K) : CallR X (.builtin "isinstance") (rIsi K) := kC K (r := rIsi) h call_isi
theorem kIsiT (h : X.K = K) : CallR X (.builtin "isinstance") (rIsiT K) := kC K (r := rIsiT) h call_isiT
theorem kAll (hc : X.calm = true) (h : X.K = K) : CallR X (.builtin "all") (rAll K) := kC K (r := rAll) h (cr_all hc)
theorem kSorted (h : X.K = K) : CallR X (.builtin "sorted") (rSorted K) := kC K (r := rSorted) h cr_sorted
theorem kIxL (h : X.K = K) : IxR X (rIxL K) := kI K (r := rIxL) h ix_list
theorem kIxT (h : X.K = K) : IxR X (rIxT K) := kI K (r := rIxT) h ix_tup
theorem kSlL (h : X.K = K) : SlR X (rSlL K) := kS K (r := rSlL) h sl_list
theorem kSlA (h : X.K = K) : SlR X (rSlA K) := kS K (r := rSlA) h sl_tupA
theorem kCatA (h : X.K = K) : OpR X (binaryOp .Add) (rCatA K) := kO K (r := rCatA) h op_catA
theorem kEqD (h : X.K = K) (hu : X.A.units + 64 < cLine) : OpR X (compareOp .Eq) (rEqD K) := kO K (r := rEqD) h (op_eqD hu)
theorem kNeD (h : X.K = K) (hu : X.A.units + 64 < cLine) : OpR X (compareOp .NotEq) (rNeD K) := kO K (r := rNeD) h (op_neD hu)
theorem kIn (h : X.K = K) : OpR X (compareOp .In) (rIn K false) := kO K (r := fun K => rIn K false) h op_in_seq
theorem kNotIn (h : X.K = K) : OpR X (compareOp .NotIn) (rIn K true) := kO K (r := fun K => rIn K true) h op_notIn_seq
theorem kiList {tg l : Expr} {tl : TE} (h : X.K = K) (hl : PE X l tl) : PI X tg l (iList K tl) := h ▸ pi_list hl
theorem kiTup {tg l : Expr} {tl : TE} (h : X.K = K) (hl : PE X l tl) : PI X tg l (iTup K tl) := h ▸ pi_tup hl
theorem kpFld {e : Expr} {f : Str} {ta : TE} {pos : Pos} (h : X.K = K) (he : PE X e ta) (hb : attributeBase e f X.env (eval e X.env) = eval e X.env) : PE X (.Attribute e f pos) (tFld K ta f) := h ▸ pe_fld he hb
theorem kiZip {e e2 : Expr} {ta : TA} {p pos tpos : Pos} {elts : List Expr} {kk : Nat} (h : X.K = K) (hg : Gl X "zip") (hm : X.mg "zip" = none) (ha : PA X [e, e2] ta)
    (hs : starEach [e, e2] X.env = (false, eval e X.env) :: starEach [e2] X.env := by rfl) (hpl : (backTo pos (starEach [e2] X.env)).any (·.1) = false := by rfl) :
    PI X (.Tuple elts kk tpos) (.Call (.Name "zip" p) [e, e2] [] pos) (RZ.iZipA K ta) := h ▸ RZ.pi_zipA hg hm ha hs hpl
theorem kiEnum {e : Expr} {ta : TA} {p pos tpos : Pos} {elts : List Expr} {kk : Nat} (h : X.K = K) (hg : Gl X "enumerate") (hm : X.mg "enumerate" = none) (ha : PA X [e] ta) (hs : starEach [e] X.env = [(false, eval e X.env)] := by rfl) :
    PI X (.Tuple elts kk tpos) (.Call (.Name "enumerate" p) [e] [] pos) (iEnum K ta) := h ▸ pi_enum hg hm ha hs
theorem kgTup {es : List Expr} {k : Nat} {t : TGs} {n : Nat} {pos : Pos} (h : X.K = K) (hc : X.calm = true) (ht : PGs X es t)
    (hn : (assignEach es X.env).length = n := by rfl) (hst : (assignEach es X.env).findIdx? (·.1) = none := by rfl) : PG X (.Tuple es k pos) (gTup K n t) := h ▸ pg_tup hc ht hn hst
end
theorem filt1 {α : Type} {p : α → Bool} {z : α} (h : p z = true) : [z].filter p = [z] := by simp [h]
theorem filt0 {α : Type} {p : α → Bool} {z : α} (h : ¬ p z = true) : [z].filter p = [] := by simp [h]
end Pf
namespace Pf
open PySem PySem.Spec PyProof.Rows L2
theorem canLay_ints : ∀ ns : List Int, PyData.canLayAll0 (ns.map PyData.int) = true
  | [] => rfl
  | _ :: r => by
    show (PyData.canLay0 (.int _) && PyData.canLayAll0 (r.map PyData.int)) = true
    rw [canLay_ints r]
    rfl
theorem depth_ints : ∀ ns : List Int, PyData.depthAll (ns.map PyData.int) = 0
  | [] => rfl
  | _ :: r => by
    show max (PyData.depth (.int _)) (PyData.depthAll (r.map PyData.int)) = 0
    rw [depth_ints r]
    rfl
theorem shaped_tupI (ns : List Int) : SeqAt.shaped (tupI ns) = true := by
  unfold SeqAt.shaped
  rw [Bool.and_eq_true]
  refine ⟨canLay_ints ns, decide_eq_true ?_⟩
  show PyData.depthAll (ns.map PyData.int) + 1 ≤ 64
  rw [depth_ints]
  decide
theorem eqv_ints : ∀ ns ms : List Int, PyData.eqvAll (ns.map PyData.int) (ms.map PyData.int) = decide (ns = ms)
  | [], [] => rfl
  | [], _ :: _ => rfl
  | _ :: _, [] => rfl
  | x :: r, y :: q => by
    show ((x == y) && PyData.eqvAll (r.map PyData.int) (q.map PyData.int)) = _
    rw [eqv_ints r q, Bool.eq_iff_iff]
    simp
theorem eqv_tupI (ns ms : List Int) : PyData.eqv (tupI ns) (tupI ms) = decide (ns = ms) := eqv_ints ns ms
theorem atI_snoc {cs : List Int} {z : Int} (h : cs.getLast? = some z) : atI (cs.map V.int) (-1) = some (.int z) := by
  have hl : cs ≠ [] := fun e => by rw [e] at h; cases h
  have e : cs = cs.dropLast ++ [cs.getLast hl] := (List.dropLast_concat_getLast hl).symm
  have ez : cs.getLast hl = z := by
    rw [List.getLast?_eq_getLast hl] at h
    exact Option.some.inj h
  rw [e, ez, List.map_append]
  exact atI_last _ _
theorem g_catA {K : PySem.W.Frag} {H : Hp} {Q : VK} {a b : Addr} {xs ys : List V} (ha : SqT K H a xs) (hb : SqT K H b ys) (hl : xs.length + ys.length ≤ sizeLine) (q : ∀ p H', Same H H' → SqT K H' p (xs ++ ys) → Q (.ref p) H') : rCatA K (.ref a) (.ref b) H Q :=
  ⟨a, b, xs, ys, rfl, rfl, ha, hb, hl, fun e => by subst e; exact q b H (Same.refl H) hb, fun _ e => by subst e; exact q a H (Same.refl H) (by simpa using ha), fun _ _ p np => q p _ (same_new np) SqT.new⟩
theorem dec_ite {c : Prop} [Decidable c] {A B : Prop} {b : Bool} (e : b = decide c) (h1 : c → A) (h2 : ¬ c → B) : if b = true then A else B := by
  subst e
  exact g_ite h1 h2
theorem walk_rng0 {n : Nat} : Walk (Itr 0 n) n (fun _ => True) (fun i H x H' => H' = H ∧ x = .int ((i : Nat) : Int)) :=
  walk_range.mono (fun _ h => h) fun i H x H' _ _ h => ⟨h.1, by rw [h.2]; show V.int (0 + (i : Int)) = _; rw [Int.zero_add]⟩
end Pf
namespace Pf
open PySem PySem.Spec PyProof.Rows L2
theorem ksFld {X : Cx} (K : PySem.W.Frag) {o value : Expr} {f : Str} {ta tv : TE} {pos pos' : Pos} (h : X.K = K) (ha : PE X o ta) (hv : PE X value tv) (hs : swapsWith value (some (.Attribute o f pos')) pos.line X.env = pure false) : PS X (.Assign [.Attribute o f pos'] value pos) (sFld K ta tv f) := h ▸ ps_fld ha hv hs
end Pf

namespace Pf
open PySem PySem.Spec PyProof.Rows L2
theorem g_sfld {K : PySem.W.Frag} {σ : L2.St} {H : Hp} {D : Ends} {ta tv : TE} {f : Str} (q : tv σ H fun y H1 => ta σ H1 fun x H2 => ∃ a C dx fs, x = .ref a ∧ H2 a = some (.ins C dx fs) ∧ Cls K C ∧ NoAttr K C f ∧ fs.length < 1000 ∧ D.nx σ (L2.upd H2 a (.ins C dx (putF f y fs)))) : sFld K ta tv f D σ H := q
theorem g_fld {K : PySem.W.Frag} {σ : L2.St} {H : Hp} {Q : VK} {ta : TE} {f : Str} (q : ta σ H fun x H1 => ∃ a C dx fs v, x = .ref a ∧ H1 a = some (.ins C dx fs) ∧ Cls K C ∧ NoAttr K C f ∧ fs.lookup f = some v ∧ Q v H1) : tFld K ta f σ H Q := q
theorem g_make {C : Addr} {sp : Sp} {dvs : List V} {E : XK} {t : TA} {σ : L2.St} {H : Hp} {Q : VK} (q : t σ H fun vs H1 => ∀ x dx, H1 x = none → H1 dx = none → dx ≠ x →
  sp (.ref x :: (vs ++ dvs)) (L2.upd (L2.upd H1 dx (.own x)) x (.ins C dx [])) (fun v H2 => v = .non ∧ Q (.ref x) H2) E) : tMake C sp dvs E t σ H Q := q
theorem g_lstRg {te : L2.St → Hp → (Int → Int → Hp → Prop) → Prop} {σ : L2.St} {H : Hp} {Q : VK} (q : te σ H fun a b H1 => RgOk a b ∧ ∀ q, H1 q = none → Q (.ref q) (L2.upd H1 q (.lst (rgV a b)))) : tLstRg te σ H Q := q
theorem g_tupRg {te : L2.St → Hp → (Int → Int → Hp → Prop) → Prop} {σ : L2.St} {H : Hp} {Q : VK} (q : te σ H fun a b H1 => RgOk a b ∧ ∀ q, H1 q = none → Q (.ref q) (L2.upd H1 q (.tup (rgV a b)))) : tTupRg te σ H Q := q
theorem g_rg1 {ta : TE} {σ : L2.St} {H : Hp} {Q : Int → Int → Hp → Prop} (q : ta σ H fun x H1 => ∃ n, x = .int n ∧ Q 0 n H1) : tRg1 ta σ H Q := q
end Pf

--BODY
namespace Pf
open PySem PySem.Spec PyProof.Rows L2
/-! ### enumerate of a tuple -/
/-- the iterator's cell of a tuple -/
abbrev tupIt (p : Addr) : Obj := { cls := .type "tuple_iterator", data := .fields #[.ref p, .int 0 0] }
/-- the cell of an enumerate over the iterator at i -/
abbrev enumO (i : Addr) : Obj := { cls := .type "enumerate", data := .fields #[.none, .bool false, .ref i, rawInt 0, .none, .none] }
theorem newEnumT (p : Addr) (xs : Array Value) :
    Meets (Builtin.«enumerate.__new__» ⟨[.type "enumerate", .ref p], []⟩)
      (fun _ R s => s.heap.IsTuple p xs ∧
        R (.ok (.ret (.ref (s.heap.push (tupIt p)).objs.size)))
          { s with heap := (s.heap.push (tupIt p)).push (enumO s.heap.objs.size) }) :=
  .of_wp fun pr wo AA R s0 hh => by
    obtain ⟨hp, gg, dd, tt, oo⟩ := s0
    obtain ⟨ht, hR⟩ := hh
    have hsu := sub_enumerate
    have it1 : ∀ {A' : Around} {E : Value → Shared → Prop} {Q : Value → Shared → Prop},
        Q (.ref hp.objs.size) ⟨hp.push (tupIt p), gg, dd, tt, oo⟩ → wpAny (model pr wo) A' (pyIter (.ref p)) Q E ⟨hp, gg, dd, tt, oo⟩ :=
      fun q => (begins_tuple p xs).iter pr wo _ _ ⟨hp, gg, dd, tt, oo⟩ _ ht q
    wp_walk using it1
    refine wpAny_stack_any fun _ => wpAny_pure ?_
    split
    · rename_i cc _ _ _ _ _
      cases (cc == Value.type "enumerate")
      · wp_walk using it1
        exact ⟨_, rfl, hR⟩
      · wp_walk using it1
        exact ⟨_, rfl, hR⟩
    · wp_walk using it1
      exact ⟨_, rfl, hR⟩
theorem callEnumT {pr : Program} {wo : World} {AA : Around} {E : Value → Shared → Prop} {s : Shared} {p : Addr} {xs : Array Value} {Q : Value → Shared → Prop} (ht : s.heap.IsTuple p xs)
    (h : ∀ h', IsEnum h' (s.heap.objs.size + 1) s.heap.objs.size 0 .none → h'.IsTupleIter s.heap.objs.size p 0 → h'.objs.size = s.heap.objs.size + 2 →
      (∀ b o, s.heap.get? b = some o → h'.get? b = some o) → Q (.ref (s.heap.objs.size + 1)) { s with heap := h' }) :
    wpAny (model pr wo) AA (call (.type "enumerate") [.ref p]) Q E s := by
  refine callType_new F.called_enumerate (by decide) (F.typeCall_enumerate_1 _) (F.newCall_enumerate_1 _)
    (fun ob => F.args_object_init_2 ob _) F.entry_enumerate_new (newEnumT p xs) ⟨ht, ?_⟩
  have hz : (s.heap.push (tupIt p)).objs.size = s.heap.objs.size + 1 := Heap.size_push ..
  show _ ∧ _
  rw [hz]
  have he : IsEnum ((s.heap.push (tupIt p)).push (enumO s.heap.objs.size)) (s.heap.objs.size + 1) s.heap.objs.size 0 .none := by
    have e1 := Heap.get?_push_size (s.heap.push (tupIt p)) (o := enumO s.heap.objs.size) rfl
    rw [hz] at e1
    exact e1
  exact ⟨⟨_, he, rfl⟩, h _ he ⟨_, Heap.get?_push_of_some _ (Heap.get?_push_size _ rfl), rfl, rfl⟩ (by rw [Heap.size_push, hz])
    fun b o z => Heap.get?_push_of_some _ (Heap.get?_push_of_some _ z)⟩
/-- the tuple at p as it stands at each turn, each item in a new pair -/
def IteT (K : PySem.W.Frag) (p : Addr) : It where
  go := fun i H => ∃ (xs : List V) (x : V), SqT K H p xs ∧ xs[i]? = some x
  yld := fun i H v H' => ∃ T x, v = .ref T ∧ H T = none ∧ H' = L2.upd H T (.tup [.int (i : Nat), x]) ∧ ∀ xs, SqT K H p xs → xs[i]? = some x
  stop := fun i H => ∃ xs : List V, SqT K H p xs ∧ xs.length = i
end Pf
namespace Pf
open PySem PySem.Spec PyProof.Rows L2
theorem turnEnumT {P : Program} {w : World} {K : PySem.W.Frag} {es : List Expr} {kk : Nat} {tp : Pos} (p e it : Addr) (hp : p ≠ it) (hpe : p ≠ e) :
    Turn P w K (.Tuple es kk tp) (IteT K p) [e, it] e
      (fun i h => (∃ old, IsEnum h e it ((i : Nat) : Int) old) ∧ h.IsTupleIter it p i ∧ e ≠ it) where
  mem := List.mem_cons_self ..
  obj := fun i h st b hb => by
    obtain ⟨⟨old, e1⟩, ⟨o, e2, _, e3⟩, _⟩ := st
    rcases List.mem_cons.mp hb with rfl | hb
    · exact ⟨_, e1, fun v z => nomatch z⟩
    · rw [List.mem_singleton.mp hb]
      exact ⟨o, e2, fun v z => by rw [e3] at z; cases z⟩
  keep := fun i h h' st k =>
    let ⟨⟨old, e1⟩, e2, n⟩ := st
    ⟨⟨old, k e (List.mem_cons_self ..) _ e1⟩, e2.at fun o z => k it (by simp) o z, n⟩
  item := by
    intro X hP hw hK hc i pins s σ H E I hf st hg
    subst hP hw hK
    obtain ⟨⟨old, e1⟩, e2, ne⟩ := st
    obtain ⟨xs, x, hq, hx⟩ := hg
    obtain ⟨its, rv, pt, _⟩ := I.tuple hq
    obtain ⟨u, hu, ru⟩ := rv.get hx
    have l1 : e < s.heap.objs.size := Heap.lt_size e1
    have l2 : it < s.heap.objs.size := by
      obtain ⟨_, z, _⟩ := e2
      exact Heap.lt_size z
    have hn : e ∉ [it, p] := fun z => by
      rcases List.mem_cons.mp z with z | z
      · exact ne z
      · exact hpe (List.mem_singleton.mp z).symm
    have hu2 : its.toArray[i]? = some u := by simpa using hu
    have li : i < its.toArray.size := (Array.getElem?_eq_some_iff.mp hu2).1
    refine wpAny_pyNext_enum_itemD (Draws.tuple (show X.A.in1.handled = none from I.ok.hd hc) it p hp its.toArray) e1 ⟨e2, pt⟩ li ne hn fun y h' tk hy ho hit' hT hsz hk => ?_
    have ey : y = u := Option.some.inj (hy.symm.trans hu2)
    subst ey
    refine ⟨_, rfl, wpAny_letOwnedTupleGo_enum (s := { s with heap := h', toks := tk + 1 }) ho fun h2 he2 sb => ?_⟩
    have hT2 : h2.get? s.heap.objs.size = some { cls := .type "tuple", data := .seq #[.int i tk, y] } := (sb.2 _ (Nat.ne_of_gt l1)).trans hT
    have nw : ObjOk X.prog X.w (L2.upd H s.heap.objs.size (.tup [.int (i : Nat), x])) h2 s.heap.objs.size (.tup [.int (i : Nat), x]) :=
      ⟨by show 2 ≤ sizeLine; decide, [.int i tk, y], .cons ⟨_, rfl⟩ (.cons ru .nil), ⟨_, hT2, rfl, _, rfl⟩⟩
    have I1 : Inv X pins σ (L2.upd H s.heap.objs.size (.tup [.int (i : Nat), x])) { s with heap := h2, toks := tk + 1 } :=
      I.turnedNew (ch := [e, it]) (fun b o hb z => (sb.2 b (fun q => hb (by simp [q]))).trans (hk b o (fun q => hb (by simp [q])) (fun q => hb (by simp [q])) z)) hf (Nat.le_refl _) nw
    refine ⟨.ref s.heap.objs.size, _, I1, rfl, ⟨_, x, rfl, I.hok.fresh (Nat.le_refl _), rfl, fun ys hy => by rw [I.tuple_inj hy hq]; exact hx⟩,
      ⟨⟨y, ?_⟩, hit'.1.at fun o z => (sb.2 it (Ne.symm ne)).trans z, ne⟩, fun b hb => ?_⟩
    · rw [show ((i + 1 : Nat) : Int) = (i : Int) + 1 by omega]
      exact he2
    · have lb : b < s.heap.objs.size := by
        rcases List.mem_cons.mp hb with rfl | hb
        · exact l1
        · rw [List.mem_singleton.mp hb]; exact l2
      rw [upd_ne (Nat.ne_of_lt lb)]
      exact (hf b hb).1
  done := by
    intro X hP hw hK hc i pins s σ H E I hf st hg
    subst hP hw hK
    obtain ⟨⟨old, e1⟩, e2, ne⟩ := st
    obtain ⟨xs, hq, hx⟩ := hg
    obtain ⟨its, rv, pt, _⟩ := I.tuple hq
    obtain ⟨f0, f1, f2, f3, f4, f5⟩ := hf it (by simp)
    have lr := rv.length
    have hs : its.toArray.size = i := by
      rw [List.size_toArray]
      omega
    subst hs
    exact wpAny_pyNext_enum_endD (Draws.tuple (show X.A.in1.handled = none from I.ok.hd hc) it p hp its.toArray) e1 ⟨e2, pt⟩
      fun h' eb => ⟨rfl, I.turned (t' := s.toks) (fun b o hb z => eb b o hb z) f0 f1 f3 f4 f5⟩
  self := fun A i s Q E st h => let ⟨⟨_, z⟩, _⟩ := st; wpAny_pyIter_enum z h

/-- enumerate of a list or of a tuple -/
def iEnumA (K : PySem.W.Frag) (ta : TA) : TI := fun σ H R => ta σ H fun vs H1 => ∃ p xs, vs = [.ref p] ∧ ((SqL K H1 p xs ∧ R (Ite K p) H1) ∨ (SqT K H1 p xs ∧ R (IteT K p) H1))
theorem pi_enumT {X : Cx} {e : Expr} {ta : TA} {p pos tp : Pos} {es : List Expr} {kk : Nat} (hg : Gl X "enumerate") (hm : X.mg "enumerate" = none) (ha : PA X [e] ta)
    (hs : starEach [e] X.env = [(false, eval e X.env)] := by rfl) :
    PI X (.Tuple es kk tp) (.Call (.Name "enumerate" p) [e] [] pos) (fun σ H R => ta σ H fun vs H1 => ∃ p xs, vs = [.ref p] ∧ SqT X.K H1 p xs ∧ R (IteT X.K p) H1) := by
  refine ⟨fun pins s σ H R I h => Call_ (ld_blt I hg hm boot_enumerate (PyProof.Rows.callWith_type1 (thn (ha.run pos pins s σ H _ I h) fun us s1 ⟨vs, H1, I1, r1, q1⟩ => ?_) hs rfl))⟩
  obtain ⟨q, xs, ex, hq, hR⟩ := q1
  subst ex
  cases r1 with
  | cons r rr =>
    cases rr
    cases r
    obtain ⟨its, rv, pt, _⟩ := I1.tuple hq
    obtain ⟨ot, et, _⟩ := id pt
    have lq : q < s1.heap.objs.size := Heap.lt_size et
    refine callEnumT pt fun h' he hit hsz hk => wpAny_pyIter_enum he ?_
    have I2 : Inv X pins σ H1 { s1 with heap := h' } := I1.kept (t' := s1.toks) hk
    refine ⟨s1.heap.objs.size + 1, [s1.heap.objs.size + 1, s1.heap.objs.size], _, _, H1, rfl, I2,
      turnEnumT q (s1.heap.objs.size + 1) s1.heap.objs.size (Nat.ne_of_lt lq) (Nat.ne_of_lt (Nat.lt_succ_of_lt lq)), ⟨⟨.none, he⟩, hit, Nat.succ_ne_self _⟩, fun b hb => ?_, hR⟩
    have lb : s1.heap.objs.size ≤ b := by
      rcases List.mem_cons.mp hb with rfl | hb
      · omega
      · rw [List.mem_singleton.mp hb]; exact Nat.le_refl _
    exact I1.fpOk lb (I1.hok.fresh lb)
theorem kiEnumT {X : Cx} (K : PySem.W.Frag) {e : Expr} {ta : TA} {p pos tp : Pos} {es : List Expr} {kk : Nat} (h : X.K = K) (hg : Gl X "enumerate") (hm : X.mg "enumerate" = none) (ha : PA X [e] ta)
    (hs : starEach [e] X.env = [(false, eval e X.env)] := by rfl) :
    PI X (.Tuple es kk tp) (.Call (.Name "enumerate" p) [e] [] pos) (fun σ H R => ta σ H fun vs H1 => ∃ p xs, vs = [.ref p] ∧ SqT K H1 p xs ∧ R (IteT K p) H1) := h ▸ pi_enumT hg hm ha hs
theorem walk_enumT {K : PySem.W.Frag} {p : Addr} {xs : List V} : Walk (IteT K p) xs.length (fun H => SqT K H p xs) (YPair (fun i => some (.int (i : Nat))) (fun i => xs[i]?)) where
  goes := fun i H hi q => ⟨xs, xs[i], q, List.getElem?_eq_getElem hi⟩
  stops := fun H q => ⟨xs, q, rfl⟩
  yields := fun i H x H' hi q ⟨T, y, e, nT, e2, f⟩ => ⟨T, .int (i : Nat), y, e, nT, e2, rfl, f xs q⟩
end Pf
namespace Pf
open PySem PySem.Spec PyProof.Rows L2
/-! ### rows, logs, doings as data -/
abbrev Row := Int × Int × Bool
def rowD (r : Row) : PyData := .tuple [.int r.1, .int r.2.1, .bool r.2.2]
def rowsD (rs : List Row) : PyData := .tuple (rs.map rowD)
def flagsD (fs : List Bool) : PyData := .tuple (fs.map PyData.bool)
def GoodRow (n : Int) (r : Row) : Prop := 0 ≤ r.1 ∧ r.1 < n ∧ 0 ≤ r.2.1 ∧ r.2.1 < n ∧ (r.2.1 = r.1 + 1 ∨ r.2.1 = r.1 - 1)
theorem im_rowD (r : Row) : im (rowD r) = true := rfl
theorem imAll_map {α : Type} {f : α → PyData} (h : ∀ x, im (f x) = true) (xs : List α) : imAll (xs.map f) = true := (imAll_iff _).mpr fun e he => by
  obtain ⟨x, _, rfl⟩ := List.mem_map.mp he
  exact h x
theorem im_rowsD (rs : List Row) : im (rowsD rs) = true := imAll_map im_rowD rs
theorem im_flagsD (fs : List Bool) : im (flagsD fs) = true := imAll_map (f := PyData.bool) (fun _ => rfl) fs
theorem of_row {K : PySem.W.Frag} {H : Hp} {v : V} {r : Row} (h : Dp K H v (rowD r)) : ∃ p, v = .ref p ∧ SqT K H p [.int r.1, .int r.2.1, .bl r.2.2] := by
  unfold rowD at h
  cases h with
  | tup q a =>
    cases a with
    | cons a1 a2 =>
      cases a2 with
      | cons a3 a4 =>
        cases a4 with
        | cons a5 a6 =>
          cases a6
          cases a1; cases a3; cases a5
          exact ⟨_, rfl, q⟩
theorem dp_row {K : PySem.W.Frag} {H : Hp} {p : Addr} {r : Row} (h : SqT K H p [.int r.1, .int r.2.1, .bl r.2.2]) : Dp K H (.ref p) (rowD r) := .tup h (.cons (.int _) (.cons (.int _) (.cons (.bl _) .nil)))
theorem of_tup {K : PySem.W.Frag} {H : Hp} {v : V} {ds : List PyData} (h : Dp K H v (.tuple ds)) : ∃ p xs, v = .ref p ∧ SqT K H p xs ∧ DpAll K H xs ds := by
  cases h with
  | tup q a => exact ⟨_, _, rfl, q, a⟩
theorem dpAll_flags {K : PySem.W.Frag} {H : Hp} : ∀ fs : List Bool, DpAll K H (fs.map V.bl) (fs.map PyData.bool)
  | [] => .nil
  | b :: r => .cons (.bl b) (dpAll_flags r)
theorem dpAll_flags_eq {K : PySem.W.Frag} {H : Hp} : ∀ {fs : List Bool} {vs : List V}, DpAll K H vs (fs.map PyData.bool) → vs = fs.map V.bl
  | [], _, .nil => rfl
  | b :: r, _, .cons p q => by
    cases p
    rw [dpAll_flags_eq q]
    rfl
theorem of_flags {K : PySem.W.Frag} {H : Hp} {v : V} {fs : List Bool} (h : Dp K H v (flagsD fs)) : ∃ p, v = .ref p ∧ SqT K H p (fs.map V.bl) := by
  obtain ⟨p, xs, rfl, q, a⟩ := of_tup h
  rw [dpAll_flags_eq a] at q
  exact ⟨p, rfl, q⟩
theorem dp_flags {K : PySem.W.Frag} {H : Hp} {p : Addr} {fs : List Bool} (h : SqT K H p (fs.map V.bl)) : Dp K H (.ref p) (flagsD fs) := .tup h (dpAll_flags fs)
/-- a log of n offices with the rows rs, of the class at C -/
def LogAt (K : PySem.W.Frag) (C : Addr) (H : Hp) (v : V) (n : Int) (rs : List Row) : Prop := ∃ a dx p, v = .ref a ∧ H a = some (.ins C dx [("offices", .int n), ("rows", .ref p)]) ∧ Dp K H (.ref p) (rowsD rs)
theorem LogAt.tx {K : PySem.W.Frag} {C : Addr} {H H' : Hp} {v : V} {n : Int} {rs : List Row} (h : LogAt K C H v n rs) (t : Tx H H') : LogAt K C H' v n rs := by
  obtain ⟨a, dx, p, rfl, e, d⟩ := h
  exact ⟨a, dx, p, rfl, t _ _ e (fun z w => by cases w), Dp.tx t _ _ (im_rowsD rs) d⟩
def GoodLog (n : Int) (rs : List Row) : Prop := 1 ≤ n ∧ n ≤ 12 ∧ rs.length ≤ 60 ∧ ∀ r ∈ rs, GoodRow n r
/-- a log that may have been returned: rows of any number -/
def AnyLog (n : Int) (rs : List Row) : Prop := 1 ≤ n ∧ n ≤ 12 ∧ rs.length ≤ 100000 ∧ ∀ r ∈ rs, GoodRow n r
theorem map_get {α β : Type} {f : α → β} {xs : List α} {i : Nat} {x : α} (h : xs[i]? = some x) : (xs.map f)[i]? = some (f x) := by rw [List.getElem?_map, h]; rfl
end Pf
namespace Pf
open PySem PySem.Spec PyProof.Rows L2
/-! ### sheets led over rows -/
theorem rising_range {f : Nat → Int} {n : Nat} (h : ∀ i j, i ≤ j → j < n → f i ≤ f j) : ((List.range n).map f).Pairwise (· ≤ ·) := by
  rw [List.pairwise_iff_getElem]
  intro i j hi hj hij
  have hj' : j < n := by simpa using hj
  simp only [List.getElem_map, List.getElem_range]
  exact h i j (by omega) hj'
def firstSt (n : Int) : List Int := (List.range n.toNat).map fun (i : Nat) => (i : Int)
def stepR (hs : List Int) (r : Row) (f : Bool) : List Int := if f = true then hs.set r.1.toNat (hs.getD r.2.1.toNat 0) else hs
def stAt (n : Int) (rs : List Row) (fs : List Bool) (i : Nat) : List Int := ((rs.zip fs).take i).foldl (fun h p => stepR h p.1 p.2) (firstSt n)
def allSt (n : Int) (rs : List Row) (fs : List Bool) : List PyData := (List.range (rs.length + 1)).map fun i => tupI (stAt n rs fs i)
theorem st_succ {n : Int} {rs : List Row} {fs : List Bool} {i : Nat} {r : Row} {f : Bool} (h : rs[i]? = some r) (k : fs[i]? = some f) : stAt n rs fs (i + 1) = stepR (stAt n rs fs i) r f := by
  unfold stAt
  rw [take_snoc ((List.getElem?_zip_eq_some (z := (r, f))).mpr ⟨h, k⟩), List.foldl_append]
  rfl
/-- sheets of n offices: they never fall -/
def GoodSt (n : Int) (hs : List Int) : Prop := (hs.length : Int) = n ∧ (∀ x ∈ hs, 0 ≤ x ∧ x < n) ∧ hs.Pairwise (· ≤ ·)
theorem firstSt_len (n : Int) : (firstSt n).length = n.toNat := by unfold firstSt; simp
theorem first_good {n : Int} (h : 0 ≤ n) : GoodSt n (firstSt n) := by
  refine ⟨by rw [firstSt_len]; omega, fun x hx => ?_, ?_⟩
  · obtain ⟨i, hi, rfl⟩ := List.mem_map.mp hx
    have := List.mem_range.mp hi
    omega
  · exact rising_range fun i j hij _ => by omega
theorem getD_of {hs : List Int} {i : Nat} {z : Int} (h : hs[i]? = some z) : hs.getD i 0 = z := by
  rw [List.getD_eq_getElem?_getD, h]; rfl
theorem set_good {n : Int} {hs : List Int} (h : GoodSt n hs) {x y : Nat} (hx : (x : Int) < n) (hy : (y : Int) < n) (hn : y = x + 1 ∨ x = y + 1) : GoodSt n (hs.set x (hs.getD y 0)) := by
  obtain ⟨h1, h2, h3⟩ := h
  have hyl : y < hs.length := by omega
  have e : hs.getD y 0 = hs[y] := getD_of (List.getElem?_eq_getElem hyl)
  rw [e]
  refine ⟨by rw [List.length_set]; exact h1, fun z hz => ?_, ?_⟩
  · rcases List.mem_or_eq_of_mem_set hz with hz | hz
    · exact h2 z hz
    · rw [hz]; exact h2 _ (List.getElem_mem hyl)
  · rw [List.pairwise_iff_getElem] at h3 ⊢
    intro i j hi hj hij
    rw [List.length_set] at hi hj
    rw [List.getElem_set, List.getElem_set]
    split
    · rename_i e1
      subst e1
      rw [if_neg (by omega)]
      by_cases q : y = j
      · subst q; exact Int.le_refl _
      · exact h3 y j hyl hj (by omega)
    · split
      · rename_i e1 e2
        subst e2
        by_cases q : i = y
        · subst q; exact Int.le_refl _
        · exact h3 i y hi hyl (by omega)
      · exact h3 i j hi hj hij
theorem step_good {n : Int} {hs : List Int} (h : GoodSt n hs) {r : Row} (g : GoodRow n r) (f : Bool) : GoodSt n (stepR hs r f) := by
  unfold stepR
  obtain ⟨g1, g2, g3, g4, g5⟩ := g
  split
  · exact set_good h (by omega) (by omega) (by omega)
  · exact h
theorem st_good {n : Int} (hn : 0 ≤ n) {rs : List Row} {fs : List Bool} (hg : ∀ r ∈ rs, GoodRow n r) (hl : fs.length = rs.length) : ∀ i, i ≤ rs.length → GoodSt n (stAt n rs fs i)
  | 0, _ => first_good hn
  | i + 1, h => by
    have hi : i < rs.length := by omega
    have hf : i < fs.length := by omega
    rw [st_succ (List.getElem?_eq_getElem hi) (List.getElem?_eq_getElem hf)]
    exact step_good (st_good hn hg hl i (by omega)) (hg _ (List.getElem_mem hi)) _
theorem rgV_first (n : Int) : rgV 0 n = (firstSt n).map V.int := by
  unfold rgV firstSt
  rw [List.map_map, Int.sub_zero]
  refine List.map_congr_left fun i _ => ?_
  show V.int (0 + (i : Int)) = V.int (i : Int)
  rw [Int.zero_add]
theorem atI_lastG {α : Type} {xs : List α} {v : α} (h : xs[xs.length - 1]? = some v) : atI xs (-1) = some v := by
  have hl : xs ≠ [] := fun e => by rw [e] at h; cases h
  have e : xs = xs.dropLast ++ [xs.getLast hl] := (List.dropLast_concat_getLast hl).symm
  have ez : xs.getLast hl = v := by
    rw [← List.getLast?_eq_getElem?, List.getLast?_eq_getLast hl] at h
    exact Option.some.inj h
  rw [e, ez]
  exact atI_last _ _
/-- an item by a whole number -/
theorem atI_at {α : Type} {xs : List α} {i : Int} {v : α} (h0 : 0 ≤ i) (h : xs[i.toNat]? = some v) : atI xs i = some v := by
  have e : i = ((i.toNat : Nat) : Int) := by omega
  rw [e]
  exact atI_nat h
theorem ixN_at {n : Nat} {i : Int} (h0 : 0 ≤ i) (h : i < n) : ixN n i = some i.toNat := by
  unfold ixN
  rw [if_pos h0, if_pos h]
theorem range1_map {α : Type} {f : Nat → α} {n : Nat} : (List.range (n + 1)).map f = (List.range n).map f ++ [f n] := by
  rw [List.range_succ, List.map_append]
  rfl
theorem imAll_tupI (f : Nat → List Int) (n : Nat) : imAll ((List.range n).map fun i => tupI (f i)) = true := imAll_map (fun i => im_ints _) _
/-- drawn data, each by its place -/
theorem lc_drawI {K : PySem.W.Frag} {J : It} {n : Nat} {G : Hp → Prop} {Y : Nat → Hp → V → Hp → Prop} {g : TG} {tt : TT} {te : TE} {vs : List Nat} {σ : L2.St} {H1 : Hp} {D : Addr} {Qd : Hp → Prop} {d c : Addr} (w : Walk J n G Y) (PD : Nat → PyData → Prop) (hn : n < sizeLine) (him : ∀ i e, PD i e → im e = true) (nD1 : H1 D = none) (hD : Dice d c H1) (hG : ∀ H, Fr d H1 H → G H)
    (hs : ∀ i x H H' (C : V → Hp → Prop) (Cn : Hp → Prop), i < n → Fr d H1 H → Dice d c H → Y i H x H' → (∀ y e H4, Fr d H H4 → Dice d c H4 → Dp K H4 y e → PD i e → C y H4) →
      g x (wipe σ vs) H' fun σ2 H2 => wipe σ2 vs = wipe σ vs ∧ tt σ2 H2 fun b H3 => if b = true then te σ2 H3 C else Cn H3)
    (hd : ∀ H xs ds, Fr d H1 H → Dice d c H → H D = some (.lst xs) → DpAll K H xs ds → ds.length = n → (∀ i e, ds[i]? = some e → PD i e) → Qd H) :
    ∃ W : Nat → Nat → Hp → Prop, (∃ m, W 0 m (L2.upd H1 D (.lst []))) ∧ ∀ i m H, W i m H →
      (J.stop i H ∧ Qd H) ∨ (J.go i H ∧ ∃ Nx : Hp → Prop, (∀ H', Nx H' → ∃ m', m' < m ∧ W (i + 1) m' H') ∧ ∀ x H', J.yld i H x H' → g x (wipe σ vs) H' fun σ2 H2 => wipe σ2 vs = wipe σ vs ∧ tt σ2 H2 fun b H3 =>
        if b = true then te σ2 H3 fun y H4 => ∃ acc, H4 D = some (.lst acc) ∧ acc.length < sizeLine ∧ Nx (L2.upd H4 D (.lst (acc ++ [y]))) else Nx H3) := by
  refine lc_cps w (fun i H acc => Fr d H1 H ∧ Dice d c H ∧ ∃ ds, DpAll K H acc ds ∧ ds.length = i ∧ ∀ i e, ds[i]? = some e → PD i e) ⟨Fr.new nD1, hD.new nD1, [], .nil, rfl, fun i e h => by simp at h⟩ (fun i H acc hi r e => hG H r.1) (fun i x H H' acc C Cn hi r e hy hC hN => ?_)
    (fun H acc ⟨r1, r2, ds, r3, r4, r5⟩ e => hd H acc ds r1 r2 e r3 r4 r5)
  obtain ⟨r1, r2, ds, r3, r4, r5⟩ := r
  refine hs i x H H' C Cn hi r1 r2 hy (fun y ee H4 f4 d4 dy pe => ?_)
  have e4 : H4 D = some (.lst acc) := f4 _ _ (hD.nd nD1) e
  have hall : ∀ j z, (ds ++ [ee])[j]? = some z → PD j z := fun j z hz => by
    by_cases hj : j < ds.length
    · rw [List.getElem?_append_left hj] at hz
      exact r5 j z hz
    · have hj2 : j = ds.length := by
        have := (List.getElem?_eq_some_iff.mp hz).1
        rw [List.length_append, List.length_singleton] at this
        omega
      subst hj2
      rw [List.getElem?_concat_length] at hz
      cases hz
      rw [r4]
      exact pe
  refine hC y H4 e4 (by rw [DpAll.len r3]; omega) ⟨Fr.put (r1.trans f4) nD1, d4.put (hD.nd nD1) (hD.nc nD1), ds ++ [ee], ?_, by rw [List.length_append, r4]; rfl, hall⟩
  have im1 : imAll (ds ++ [ee]) = true := (imAll_iff _).mpr fun z hz => by
    obtain ⟨j, hj⟩ := List.mem_iff_getElem?.mp hz
    exact him j z (hall j z hj)
  have im0 : imAll ds = true := (imAll_iff _).mpr fun z hz => by
    obtain ⟨j, hj⟩ := List.mem_iff_getElem?.mp hz
    exact him j z (r5 j z hj)
  exact Dp.txAll (Tx.lst e4) _ _ im1 (DpAll.snoc (Dp.txAll (r2.tx f4) _ _ im0 r3) dy)
end Pf
namespace Pf
open PySem PySem.Spec PyProof.Rows L2
theorem cutV_take (xs : List V) (i : Nat) : cutV xs none (some (i : Int)) = xs.take i := by
  unfold cutV
  rw [HT.sIx_none, HT.sIx_nat, Nat.sub_zero, List.drop_zero]
  by_cases h : i ≤ xs.length
  · rw [Nat.min_eq_left h]
  · rw [Nat.min_eq_right (by omega), List.take_length, List.take_of_length_le (by omega)]
theorem cutV_drop (xs : List V) (i : Nat) : cutV xs (some (i : Int)) none = xs.drop i := by
  unfold cutV
  rw [HT.sIx_none, HT.sIx_nat]
  by_cases h : i ≤ xs.length
  · rw [Nat.min_eq_left h]
    exact List.take_of_length_le (by rw [List.length_drop]; exact Nat.le_refl _)
  · rw [Nat.min_eq_right (by omega), Nat.sub_self, List.take_zero, List.drop_of_length_le (by omega)]
abbrev lstI (ns : List Int) : PyData := .list (ns.map PyData.int)
theorem shaped_lstI (ns : List Int) : SeqAt.shaped (lstI ns) = true := by
  unfold SeqAt.shaped
  rw [Bool.and_eq_true]
  refine ⟨canLay_ints ns, decide_eq_true ?_⟩
  show PyData.depthAll (ns.map PyData.int) + 1 ≤ 64
  rw [depth_ints]
  decide
theorem eqv_lstI (ns ms : List Int) : PyData.eqv (lstI ns) (lstI ms) = decide (ns = ms) := eqv_ints ns ms
theorem dp_lstI {K : PySem.W.Frag} {H : Hp} {p : Addr} {ns : List Int} (h : SqL K H p (ns.map V.int)) : Dp K H (.ref p) (lstI ns) := .lst h (dpAll_ints ns)
/-- a log as it is made -/
theorem log_made {H H' : Hp} {C x dx : Addr} (nx : H x = none) (nd : H dx = none) (f : Fr x (L2.upd (L2.upd H dx (.own x)) x (.ins C dx [])) H') : Same H H' := fun b o e => by
  have n1 : b ≠ x := ne_of_none e nx
  have n2 : b ≠ dx := ne_of_none e nd
  exact f b o n1 (by rw [upd_ne n1, upd_ne n2]; exact e)
theorem set_cut {hs : List Int} {x : Nat} {z : Int} (h : x < hs.length) : (hs.set x z).map V.int = ((hs.map V.int).take x ++ [V.int z]) ++ (hs.map V.int).drop (x + 1) := by
  rw [List.set_eq_take_append_cons_drop, if_pos h, List.map_append, List.map_cons, List.map_take, List.map_drop, List.append_assoc]
  rfl
/-- drawn whole numbers -/
def IntIn (m : Int) (e : PyData) : Prop := ∃ z, e = .int z ∧ 0 ≤ z ∧ z < m
theorem IntIn.all {K : PySem.W.Frag} {H : Hp} {m : Int} : ∀ {xs : List V} {ds : List PyData}, DpAll K H xs ds → (∀ e ∈ ds, IntIn m e) → ∃ ns : List Int, xs = ns.map V.int ∧ ns.length = ds.length ∧ ∀ x ∈ ns, 0 ≤ x ∧ x < m
  | _, _, .nil, _ => ⟨[], rfl, rfl, fun x hx => by cases hx⟩
  | _, _, .cons p q, h => by
    obtain ⟨ns, e1, e2, e3⟩ := IntIn.all q fun e he => h e (List.mem_cons_of_mem _ he)
    obtain ⟨z, rfl, z0, z1⟩ := h _ (List.mem_cons_self ..)
    cases p
    refine ⟨z :: ns, by rw [e1]; rfl, by rw [List.length_cons, List.length_cons, e2], fun x hx => ?_⟩
    rcases List.mem_cons.mp hx with rfl | hx
    · exact ⟨z0, z1⟩
    · exact e3 x hx
end Pf

--BODY
namespace Pf
open PySem PySem.Spec PyProof.Rows L2
theorem DpAll.take {K : PySem.W.Frag} {H : Hp} : ∀ {xs : List V} {ds : List PyData} (i : Nat), DpAll K H xs ds → DpAll K H (xs.take i) (ds.take i)
  | _, _, 0, _ => by rw [List.take_zero, List.take_zero]; exact .nil
  | _, _, _ + 1, .nil => by rw [List.take_nil, List.take_nil]; exact .nil
  | _, _, i + 1, .cons p q => by rw [List.take_succ_cons, List.take_succ_cons]; exact .cons p (DpAll.take i q)
theorem DpAll.drop {K : PySem.W.Frag} {H : Hp} : ∀ {xs : List V} {ds : List PyData} (i : Nat), DpAll K H xs ds → DpAll K H (xs.drop i) (ds.drop i)
  | _, _, 0, h => by rw [List.drop_zero, List.drop_zero]; exact h
  | _, _, _ + 1, .nil => by rw [List.drop_nil, List.drop_nil]; exact .nil
  | _, _, i + 1, .cons p q => by rw [List.drop_succ_cons, List.drop_succ_cons]; exact DpAll.drop i q
theorem canLay_rows : ∀ rs : List Row, PyData.canLayAll0 (rs.map rowD) = true
  | [] => rfl
  | r :: rs => by
    show (PyData.canLay0 (rowD r) && PyData.canLayAll0 (rs.map rowD)) = true
    rw [canLay_rows rs]
    rfl
theorem depth_rows : ∀ rs : List Row, PyData.depthAll (rs.map rowD) ≤ 1
  | [] => Nat.zero_le _
  | r :: rs => by
    have := depth_rows rs
    show max (PyData.depth (rowD r)) (PyData.depthAll (rs.map rowD)) ≤ 1
    have e : PyData.depth (rowD r) = 1 := rfl
    omega
theorem shaped_rowsD (rs : List Row) : SeqAt.shaped (rowsD rs) = true := by
  unfold SeqAt.shaped
  rw [Bool.and_eq_true]
  refine ⟨canLay_rows rs, decide_eq_true ?_⟩
  have := depth_rows rs
  show PyData.depthAll (rs.map rowD) + 1 ≤ 64
  omega
theorem eqv_self {d : PyData} (h : SeqAt.shaped d = true) : PyData.eqv d d = true := SeqAt.eqv_refl d (SeqAt.canLay_of_shaped h)
/-- two logs alike -/
def LogEq (K : PySem.W.Frag) (C : Addr) (x y : Addr) (H : Hp) : Prop := ∃ n rs, LogAt K C H (.ref x) n rs ∧ LogAt K C H (.ref y) n rs
def loose (rs : List Row) : List Row := rs.map fun r => (r.1, r.2.1, false)
end Pf
namespace Pf
open PySem PySem.Spec PyProof.Rows L2
theorem loose_st (n : Int) (rs : List Row) (fs : List Bool) (i : Nat) : stAt n (loose rs) fs i = stAt n rs fs i := by
  unfold stAt loose
  rw [List.zip_map_left, ← List.map_take, List.foldl_map]
  rfl
theorem loose_len (rs : List Row) : (loose rs).length = rs.length := by unfold loose; simp
theorem loose_good {n : Int} {rs : List Row} (h : AnyLog n rs) : AnyLog n (loose rs) := ⟨h.1, h.2.1, by rw [loose_len]; exact h.2.2.1, fun r hr => by
  obtain ⟨q, hq, rfl⟩ := List.mem_map.mp hr
  exact h.2.2.2 q hq⟩
theorem put_out {rs : List Row} {r : Row} {k : Nat} (h : k ≤ rs.length) : (rs.take k ++ r :: rs.drop k).take k ++ (rs.take k ++ r :: rs.drop k).drop (k + 1) = rs := by
  have e : (rs.take k).length = k := by rw [List.length_take]; omega
  rw [List.take_append_of_le_length (by omega), List.take_of_length_le (by omega), List.drop_append, e, List.drop_of_length_le (by omega), show k + 1 - k = 1 by omega]
  show rs.take k ++ ([] ++ rs.drop k) = rs
  rw [List.nil_append, List.take_append_drop]
theorem dp_cut {K : PySem.W.Frag} {H : Hp} {p : Addr} {xs : List V} {rs : List Row} {i j : Nat} (h : SqT K H p (xs.take i ++ xs.drop j)) (ha : DpAll K H xs (rs.map rowD)) : Dp K H (.ref p) (rowsD (rs.take i ++ rs.drop j)) := .tup h (by
  rw [List.map_append, List.map_take, List.map_drop]
  exact DpAll.app (DpAll.take _ ha) (DpAll.drop _ ha))
theorem dp_put {K : PySem.W.Frag} {H : Hp} {p : Addr} {xs : List V} {rs : List Row} {i j : Nat} {v : V} {r : Row} (h : SqT K H p ((xs.take i ++ [v]) ++ xs.drop j)) (ha : DpAll K H xs (rs.map rowD)) (hv : Dp K H v (rowD r)) : Dp K H (.ref p) (rowsD (rs.take i ++ r :: rs.drop j)) := .tup h (by
  rw [List.map_append, List.map_cons, List.map_take, List.map_drop, show rowD r :: List.drop j (List.map rowD rs) = [rowD r] ++ List.drop j (List.map rowD rs) from rfl, ← List.append_assoc]
  exact DpAll.app (DpAll.app (DpAll.take _ ha) (.cons hv .nil)) (DpAll.drop _ ha))
end Pf
namespace Pf
open PySem PySem.Spec PyProof.Rows L2
theorem units65 {k : Nat} {A : Around} (hr : Room k A) : A.units + 65 < cLine := by
  have := hr.un
  omega
def idleP (n : Int) (rs : List Row) (fs : List Bool) (i : Nat) : Bool := fs.getD i false && decide (stAt n rs fs i = stAt n rs fs (i + 1))
def idleTo (n : Int) (rs : List Row) (fs : List Bool) (m : Nat) : List Int := ((List.range m).filter (idleP n rs fs)).map fun (i : Nat) => (i : Int)
theorem idle_succ (n : Int) (rs : List Row) (fs : List Bool) (m : Nat) : idleTo n rs fs (m + 1) = idleTo n rs fs m ++ (if idleP n rs fs m = true then [(m : Int)] else []) := by
  unfold idleTo
  rw [List.range_succ, List.filter_append, List.map_append]
  by_cases h : idleP n rs fs m = true
  · rw [filt1 h, if_pos h]; rfl
  · rw [filt0 h, if_neg h]; rfl
theorem idle_len (n : Int) (rs : List Row) (fs : List Bool) (m : Nat) : (idleTo n rs fs m).length ≤ m := by
  unfold idleTo
  rw [List.length_map]
  have := List.length_filter_le (idleP n rs fs) (List.range m)
  rw [List.length_range] at this
  exact this
theorem allSt_at {n : Int} {rs : List Row} {fs : List Bool} {j : Nat} (h : j ≤ rs.length) : (allSt n rs fs)[j]? = some (tupI (stAt n rs fs j)) := by
  unfold allSt
  rw [List.getElem?_map, List.getElem?_range (by omega)]
  rfl
theorem allSt_len (n : Int) (rs : List Row) (fs : List Bool) : (allSt n rs fs).length = rs.length + 1 := by unfold allSt; simp
theorem imAll_allSt (n : Int) (rs : List Row) (fs : List Bool) : imAll (allSt n rs fs) = true := imAll_tupI _ _
/-- an item of such a list -/
theorem st_item {K : PySem.W.Frag} {H : Hp} {xs : List V} {n : Int} {rs : List Row} {fs : List Bool} {j : Nat} (h : DpAll K H xs (allSt n rs fs)) (hj : j ≤ rs.length) : ∃ v, xs[j]? = some v ∧ Dp K H v (tupI (stAt n rs fs j)) := by
  have hl : j < xs.length := by rw [DpAll.len h, allSt_len]; omega
  exact ⟨_, List.getElem?_eq_getElem hl, DpAll.at h (List.getElem?_eq_getElem hl) (allSt_at hj)⟩
/-- all doings of rows -/
def dStep (r : Row) (d : List Bool) : List (List Bool) := if r.2.2 = true then [d ++ [true]] else [d ++ [false], d ++ [true]]
def dTo : List Row → List (List Bool) → List (List Bool)
  | [], ds => ds
  | r :: rs, ds => dTo rs (ds.flatMap (dStep r))
def dAt (rs : List Row) (i : Nat) : List (List Bool) := dTo (rs.take i) [[]]
theorem dTo_snoc : ∀ (rs : List Row) (r : Row) (ds : List (List Bool)), dTo (rs ++ [r]) ds = (dTo rs ds).flatMap (dStep r)
  | [], _, _ => rfl
  | q :: rs, r, ds => dTo_snoc rs r (ds.flatMap (dStep q))
theorem dAt_succ {rs : List Row} {i : Nat} {r : Row} (h : rs[i]? = some r) : dAt rs (i + 1) = (dAt rs i).flatMap (dStep r) := by
  unfold dAt
  rw [take_snoc h, dTo_snoc]
theorem dStep_len (r : Row) (d : List Bool) : (dStep r d).length ≤ 2 := by
  unfold dStep
  split
  · exact Nat.le_succ 1
  · exact Nat.le_refl 2
theorem flatMap_len {α β : Type} (f : α → List β) (h : ∀ x, (f x).length ≤ 2) : ∀ xs : List α, (xs.flatMap f).length ≤ 2 * xs.length
  | [] => Nat.zero_le _
  | x :: xs => by
    rw [List.flatMap_cons, List.length_append, List.length_cons]
    have := h x
    have := flatMap_len f h xs
    omega
theorem dAt_len {rs : List Row} : ∀ i, i ≤ rs.length → (dAt rs i).length ≤ 2 ^ i
  | 0, _ => Nat.le_refl 1
  | i + 1, h => by
    rw [dAt_succ (List.getElem?_eq_getElem (show i < rs.length by omega))]
    have h1 := flatMap_len _ (dStep_len rs[i]) (dAt rs i)
    have h2 := dAt_len i (show i ≤ rs.length by omega)
    rw [Nat.pow_succ]
    omega
theorem canLay_flags : ∀ fs : List Bool, PyData.canLayAll0 (fs.map PyData.bool) = true
  | [] => rfl
  | _ :: r => by
    show (PyData.canLay0 (.bool _) && PyData.canLayAll0 (r.map PyData.bool)) = true
    rw [canLay_flags r]
    rfl
theorem depth_flags : ∀ fs : List Bool, PyData.depthAll (fs.map PyData.bool) = 0
  | [] => rfl
  | _ :: r => by
    show max (PyData.depth (.bool _)) (PyData.depthAll (r.map PyData.bool)) = 0
    rw [depth_flags r]
    rfl
theorem depth_flagsD (fs : List Bool) : PyData.depth (flagsD fs) = 1 := by
  show PyData.depthAll (fs.map PyData.bool) + 1 = 1
  rw [depth_flags]
theorem shaped_flagsD (fs : List Bool) : SeqAt.shaped (flagsD fs) = true := by
  unfold SeqAt.shaped
  rw [Bool.and_eq_true]
  exact ⟨canLay_flags fs, decide_eq_true (by rw [depth_flagsD]; decide)⟩
theorem canLay_fl : ∀ ds : List (List Bool), PyData.canLayAll0 (ds.map flagsD) = true
  | [] => rfl
  | d :: r => by
    show (PyData.canLay0 (flagsD d) && PyData.canLayAll0 (r.map flagsD)) = true
    rw [canLay_fl r, show PyData.canLay0 (flagsD d) = true from canLay_flags d]
    rfl
theorem depth_fl : ∀ ds : List (List Bool), PyData.depthAll (ds.map flagsD) ≤ 1
  | [] => Nat.zero_le _
  | d :: r => by
    have := depth_fl r
    show max (PyData.depth (flagsD d)) (PyData.depthAll (r.map flagsD)) ≤ 1
    rw [depth_flagsD]
    omega
theorem shaped_fl (ds : List (List Bool)) : SeqAt.shaped (.list (ds.map flagsD)) = true := by
  unfold SeqAt.shaped
  rw [Bool.and_eq_true]
  refine ⟨canLay_fl ds, decide_eq_true ?_⟩
  have := depth_fl ds
  show PyData.depthAll (ds.map flagsD) + 1 ≤ 64
  omega
theorem eqv_flags : ∀ fs gs : List Bool, PyData.eqvAll (fs.map PyData.bool) (gs.map PyData.bool) = decide (fs = gs)
  | [], [] => rfl
  | [], _ :: _ => rfl
  | _ :: _, [] => rfl
  | x :: r, y :: q => by
    show ((x == y) && PyData.eqvAll (r.map PyData.bool) (q.map PyData.bool)) = _
    rw [eqv_flags r q, Bool.eq_iff_iff]
    simp
theorem any_fl (ds : List (List Bool)) (fs : List Bool) : ((ds.map flagsD).any fun z => PyData.eqv z (flagsD fs)) = decide (fs ∈ ds) := by
  rw [Bool.eq_iff_iff, List.any_eq_true, decide_eq_true_iff]
  constructor
  · rintro ⟨z, hz, e⟩
    obtain ⟨g, hg, rfl⟩ := List.mem_map.mp hz
    have e2 : PyData.eqvAll (g.map PyData.bool) (fs.map PyData.bool) = true := e
    rw [eqv_flags] at e2
    rw [← of_decide_eq_true e2]
    exact hg
  · intro h
    exact ⟨flagsD fs, List.mem_map.mpr ⟨fs, h, rfl⟩, eqv_self (shaped_flagsD fs)⟩
end Pf
namespace Pf
open PySem PySem.Spec PyProof.Rows L2
theorem kit_self {K : PySem.W.Frag} {C : Addr} : PySem.W.kitOne K (.ref C) (.ref C) = some true := by
  unfold PySem.W.kitOne
  exact if_pos (by first | exact beq_self_eq_true _ | simp | rfl)
end Pf
namespace Pf
open PySem PySem.Spec PyProof.Rows L2
theorem range_map_ofX {n : Int} {rs : List Row} {fs : List Bool} {i : Nat} {e : PyData} (h : (allSt n rs fs)[i]? = some e) : ∃ j, j ≤ rs.length ∧ e = tupI (stAt n rs fs j) := by
  have hl : i < rs.length + 1 := by
    have := (List.getElem?_eq_some_iff.mp h).1
    rwa [allSt_len] at this
  rw [allSt_at (by omega)] at h
  exact ⟨i, by omega, (Option.some.inj h).symm⟩
end Pf
namespace Pf
open PySem PySem.Spec PyProof.Rows L2
theorem kInD {X : Cx} (K : PySem.W.Frag) (h : X.K = K) (hu : X.A.units + 65 < cLine) : OpR X (compareOp .In) (rInD K) := kO K (r := rInD) h (op_inD hu)
end Pf
namespace Pf
open PySem PySem.Spec PyProof.Rows L2
theorem kRepT {X : Cx} (K : PySem.W.Frag) (h : X.K = K) : OpR X (binaryOp .Mult) (rRepT K) := kO K (r := rRepT) h op_repT
/-! ### orders -/
def swapAt (o : List Int) (p : Nat) : List Int := if o.getD p 0 < o.getD (p + 1) 0 then (o.set p (o.getD (p + 1) 0)).set (p + 1) (o.getD p 0) else o
def isL (r : Row) : Bool := decide (r.1 < r.2.1)
def placeR (r : Row) : Int := (if r.2.1 > r.1 then r.2.1 else r.1) - 1
def sideR (rs : List Row) (b : Bool) : List Row := rs.filter fun r => isL r == b
def ordF (o : List Int) (rs : List Row) : List Int := rs.foldl (fun o r => swapAt o (placeR r).toNat) o
def ordOf (n : Int) (rs : List Row) (b : Bool) : List Int := ordF (firstSt n) (sideR rs b)
theorem swap_len (o : List Int) (p : Nat) : (swapAt o p).length = o.length := by
  unfold swapAt
  split
  · rw [List.length_set, List.length_set]
  · rfl
theorem ordF_len : ∀ (rs : List Row) (o : List Int), (ordF o rs).length = o.length
  | [], _ => rfl
  | r :: rs, o => by
    show (ordF (swapAt o (placeR r).toNat) rs).length = o.length
    rw [ordF_len rs, swap_len]
theorem ordF_snoc (o : List Int) (rs : List Row) (r : Row) : ordF o (rs ++ [r]) = swapAt (ordF o rs) (placeR r).toNat := by
  unfold ordF
  rw [List.foldl_append]
  rfl
theorem side_snoc (rs : List Row) (r : Row) (b : Bool) : sideR (rs ++ [r]) b = sideR rs b ++ (if (isL r == b) = true then [r] else []) := by
  unfold sideR
  rw [List.filter_append]
  by_cases h : (isL r == b) = true
  · rw [filt1 (p := fun r => isL r == b) h, if_pos h]
  · rw [filt0 (p := fun r => isL r == b) h, if_neg h]
theorem ordOf_snoc (n : Int) (rs : List Row) (r : Row) (b : Bool) : ordOf n (rs ++ [r]) b = if (isL r == b) = true then swapAt (ordOf n rs b) (placeR r).toNat else ordOf n rs b := by
  unfold ordOf
  rw [side_snoc]
  split
  · rw [ordF_snoc]
  · rw [List.append_nil]
theorem ordOf_len (n : Int) (rs : List Row) (b : Bool) : (ordOf n rs b).length = n.toNat := by
  unfold ordOf
  rw [ordF_len, firstSt_len]
theorem place_of {n : Int} {r : Row} (g : GoodRow n r) : 0 ≤ placeR r ∧ placeR r + 1 < n := by
  obtain ⟨g1, g2, g3, g4, g5⟩ := g
  unfold placeR
  split <;> omega
theorem getD_set_eq {o : List Int} {p : Nat} {z : Int} (h : p < o.length) : (o.set p z).getD p 0 = z := by
  rw [List.getD_eq_getElem?_getD, List.getElem?_set_self h]
  rfl
theorem getD_set_ne {o : List Int} {p q : Nat} {z : Int} (h : p ≠ q) : (o.set p z).getD q 0 = o.getD q 0 := by
  rw [List.getD_eq_getElem?_getD, List.getElem?_set_ne h, List.getD_eq_getElem?_getD]
theorem swap_swap {o : List Int} {p : Nat} (h : p + 1 < o.length) : swapAt (swapAt o p) p = swapAt o p := by
  by_cases c : o.getD p 0 < o.getD (p + 1) 0
  · have e : swapAt o p = (o.set p (o.getD (p + 1) 0)).set (p + 1) (o.getD p 0) := if_pos c
    rw [e]
    unfold swapAt
    rw [if_neg]
    rw [getD_set_eq (by rw [List.length_set]; exact h), getD_set_ne (by omega), getD_set_eq (by omega)]
    omega
  · have e : swapAt o p = o := if_neg c
    rw [e, e]
/-- the last row once more -/
theorem ord_again {n : Int} {rs : List Row} {r : Row} (hr : rs.getLast? = some r) (g : GoodRow n r) (b : Bool) : ordOf n (rs ++ [r]) b = ordOf n rs b := by
  obtain ⟨ps, rfl⟩ := List.getLast?_eq_some_iff.mp hr
  rw [ordOf_snoc, ordOf_snoc]
  split
  · have hp := place_of g
    exact swap_swap (by rw [ordOf_len]; omega)
  · rfl
theorem ord_loose (n : Int) (rs : List Row) (b : Bool) : ordOf n (loose rs) b = ordOf n rs b := by
  unfold ordOf sideR loose ordF
  rw [List.filter_map, List.foldl_map]
  rfl
theorem ord_lefts (n : Int) (rs : List Row) : ordOf n (rs.filter isL) true = ordOf n rs true ∧ ordOf n (rs.filter isL) false = firstSt n := by
  have e1 : (fun r : Row => isL r == true) = isL := by
    funext r
    cases isL r <;> rfl
  constructor
  · unfold ordOf sideR
    rw [List.filter_filter, e1]
    congr 2
    funext r
    cases isL r <;> rfl
  · unfold ordOf sideR
    rw [List.filter_filter, List.filter_eq_nil_iff.mpr (fun r _ => by cases isL r <;> decide)]
    rfl
def pairD (n : Int) (rs : List Row) : PyData := .tuple [tupI (ordOf n rs true), tupI (ordOf n rs false)]
theorem im_pairD (n : Int) (rs : List Row) : im (pairD n rs) = true := by
  show (im (tupI (ordOf n rs true)) && (im (tupI (ordOf n rs false)) && true)) = true
  rw [im_ints, im_ints]
  rfl
theorem shaped_pair (x y : List Int) : SeqAt.shaped (.tuple [tupI x, tupI y]) = true := by
  unfold SeqAt.shaped
  rw [Bool.and_eq_true]
  refine ⟨?_, decide_eq_true ?_⟩
  · show (PyData.canLay0 (tupI x) && (PyData.canLay0 (tupI y) && true)) = true
    rw [show PyData.canLay0 (tupI x) = true from canLay_ints x, show PyData.canLay0 (tupI y) = true from canLay_ints y]
    rfl
  · show max (PyData.depthAll (x.map PyData.int) + 1) (max (PyData.depthAll (y.map PyData.int) + 1) 0) + 1 ≤ 64
    rw [depth_ints, depth_ints]
    decide
theorem dpAll_rep {K : PySem.W.Frag} {H : Hp} {xs : List V} {rs : List Row} (h : DpAll K H xs (rs.map rowD)) : ∀ k : Nat, DpAll K H (List.replicate k xs).flatten ((List.replicate k rs).flatten.map rowD)
  | 0 => .nil
  | k + 1 => by
    rw [List.replicate_succ, List.replicate_succ, List.flatten_cons, List.flatten_cons, List.map_append]
    exact DpAll.app h (dpAll_rep h k)
theorem rep_mem {rs : List Row} {r : Row} {k : Nat} (h : r ∈ (List.replicate k rs).flatten) : r ∈ rs := by
  obtain ⟨l, hl, hr⟩ := List.mem_flatten.mp h
  rw [(List.mem_replicate.mp hl).2] at hr
  exact hr
theorem rep_len (rs : List Row) (k : Nat) : (List.replicate k rs).flatten.length = k * rs.length := by
  rw [List.length_flatten, List.map_replicate, List.sum_replicate_nat]
theorem getD_at {o : List Int} {p : Nat} (h : p < o.length) : o[p]? = some (o.getD p 0) := by
  rw [List.getElem?_eq_getElem h, getD_of (List.getElem?_eq_getElem h)]
theorem cutV_last {xs : List V} {v : V} (h : xs.getLast? = some v) : cutV xs (some (-1)) none = [v] := by
  obtain ⟨ys, rfl⟩ := List.getLast?_eq_some_iff.mp h
  have e1 : HT.sIx (ys ++ [v]).length 0 (some (-1)) = ys.length := by
    show (if (-1 : Int) < 0 then ((-1 : Int) + ((ys ++ [v]).length : Int)).toNat else min (-1 : Int).toNat (ys ++ [v]).length) = ys.length
    rw [if_pos (by decide), List.length_append, List.length_singleton]
    omega
  unfold cutV
  rw [e1, HT.sIx_none, List.drop_left, List.length_append, List.length_singleton, Nat.add_sub_cancel_left]
  rfl
end Pf

--BODY
namespace Pf
open PySem PySem.Spec PyProof.Rows L2 HT
section
variable {prog : Program} {w : World} {A : Around} {E : Value → Shared → Prop} {s : Shared}
theorem sliceApplied_rev {sl : Addr} {vl vu vs : Value} {n : Nat} {Q : Int × Int × Nat → Shared → Prop} (hs : s.heap.IsSliceOf sl vl vu vs) (pl : IsPart vl none) (pu : IsPart vu none) (ps : IsPart vs (some (-1)))
    (h : Q ((n : Int) - 1, -1, n) s) : wpAny (model prog w) A (Builtin.Slice.sliceApplied (.ref sl) (pure (n : Int))) Q E s := by
  obtain ⟨os, hos, hcs, hds⟩ := id hs
  unfold Builtin.Slice.sliceApplied Builtin.Slice.sliceFields
  refine wpAny_bind (wpAny_bind (wpAny_field hos hds (x := vl) rfl (wpAny_bind (wpAny_field hos hds (x := vu) rfl (wpAny_bind (wpAny_field hos hds (x := vs) rfl (wpAny_pure ?_)))))))
  refine wpAny_bind (slicePart_ ps ?_)
  show wpAny _ _ (if ((-1 : Int) == 0) = true then _ else _) _ _ s
  rw [if_neg (by decide)]
  refine wpAny_bind (slicePart_ pl (wpAny_bind (slicePart_ pu (wpAny_bind (wpAny_pure ?_)))))
  show wpAny _ _ (pure ((n : Int) - 1, (-1 : Int), Builtin.Slice.slicePlaces ((n : Int) - 1) (-1) (-1))) _ _ s
  have e : Builtin.Slice.slicePlaces ((n : Int) - 1) (-1) (-1) = n := by
    unfold Builtin.Slice.slicePlaces
    rw [if_neg (by decide)]
    by_cases c : (n : Int) - 1 > -1
    · rw [if_pos c, show (- -1 : Int) = 1 by decide, Int.ediv_one]
      omega
    · rw [if_neg c]
      omega
  rw [e]
  exact wpAny_pure h
theorem fm_congr {α β : Type} {f g : α → Option β} : ∀ {l : List α}, (∀ x ∈ l, f x = g x) → l.filterMap f = l.filterMap g
  | [], _ => rfl
  | x :: l, h => by
    rw [List.filterMap_cons, List.filterMap_cons, h x (List.mem_cons_self ..), fm_congr fun y hy => h y (List.mem_cons_of_mem _ hy)]
theorem pick_rev (xs : Array Value) : ((List.range xs.size).filterMap fun (m : Nat) => xs[(((xs.size : Int) - 1) + (m : Int) * (-1)).toNat]?).toArray = xs.toList.reverse.toArray := by
  have e : (List.range xs.size).filterMap (fun (m : Nat) => xs[(((xs.size : Int) - 1) + (m : Int) * (-1)).toNat]?) = ((List.range xs.size).map (fun k => xs.size - 1 - k)).filterMap (xs[·]?) := by
    rw [List.filterMap_map]
    refine fm_congr fun m hm => ?_
    have := List.mem_range.mp hm
    have e2 : (((xs.size : Int) - 1) + (m : Int) * (-1)).toNat = xs.size - 1 - m := by omega
    rw [e2]
    rfl
  rw [e, PySem.W.krv_range, List.filterMap_reverse, PySem.W.krv_all]
theorem getItem_tuple_rev {t sl : Addr} {items : Array Value} {vl vu vs : Value} {Q : Value → Shared → Prop} (ht : IsTup s.heap t items) (hs : s.heap.IsSliceOf sl vl vu vs) (pl : IsPart vl none) (pu : IsPart vu none) (ps : IsPart vs (some (-1)))
    (h : Q (.ref s.heap.objs.size) { s with heap := s.heap.push { cls := .type "tuple", data := .seq items.toList.reverse.toArray } })
    (hsz : items.size ≤ sizeLine) : wpAny (model prog w) A (getItem (.ref t) (.ref sl)) Q E s := by
  have htake : sizeOk (.seq items.toList.reverse.toArray) := by
    show items.toList.reverse.toArray.size ≤ sizeLine
    rw [List.size_toArray, List.length_reverse, Array.length_toList]
    exact hsz
  obtain ⟨os, hos, hcs, hds⟩ := id hs
  have hTs : s.TypeIs (.ref sl) "slice" := ⟨os, hos, hcs⟩
  unfold getItem
  try with_reducible refine wpAny_holding ?_
  first | refine wpAny_bind (wpAny_pure ?_) | skip
  refine wpAny_bind (wpAny_sequenceKey ht.typeIs (by decide) ?_)
  refine wpAny_bind (wpAny_callSpecial?_slot (name := Str.ofString "__getitem__") ht.typeIs PyProof.Rows.slot_tuple_getitem
    (wpAny_call_entry PyProof.Rows.slot_tuple_getitem ht.typeIs entry_tuple_getitem ?_ (args_tuple_getitem _ _)))
  show wpAny _ _ (Builtin.Tuple.tupleItemsOf (.ref t) >>= _) _ _ s
  refine wpAny_bind (tupleItemsOf_ ht ?_)
  refine wpAny_bind (wpAny_typeOf hTs ?_)
  rw [if_pos (by decide)]
  refine wpAny_bind (sliceApplied_rev hs pl pu ps ?_)
  show wpAny _ _ (if ((((items.size : Int) - 1) == 0 && (-1 : Int) == 1 && items.size == items.size) = true) then _ else _) _ _ s
  rw [if_neg (by rw [show ((-1 : Int) == 1) = false by decide, Bool.and_false, Bool.false_and]; exact Bool.false_ne_true), pick_rev]
  first
    | exact wpAny_bind (m := Builtin.Tuple.tupleExact _) (wpAny_newObj_type (wpAny_pure ⟨_, rfl, wpAny_pure h⟩) htake)
    | exact wpAny_bind (m := Builtin.Tuple.tupleExact _) (wpAny_newObj_type (wpAny_bind (wpAny_pure (wpAny_pure ⟨_, rfl, wpAny_pure h⟩))) htake)
    | exact wpAny_bind (wpAny_bind (m := Builtin.Tuple.tupleExact _) (wpAny_newObj_type (wpAny_pure (wpAny_pure ⟨_, rfl, wpAny_pure h⟩)) htake))
    | exact wpAny_bind (wpAny_bind (m := Builtin.Tuple.tupleExact _) (wpAny_newObj_type (wpAny_pure ⟨_, rfl, wpAny_pure h⟩) htake))
end
section
variable {X : Cx}
/-- t[::-1] of a tuple -/
def tRevT (K : PySem.W.Frag) (te : TE) : TE := fun σ H Q => te σ H fun x H1 => ∃ a xs, x = .ref a ∧ SqT K H1 a xs ∧ ∀ p, H1 p = none → Q (.ref p) (L2.upd H1 p (.tup xs.reverse))
theorem pe_revT {e : Expr} {te : TE} {k : Nat} {p1 p2 p3 pos : Pos} (he : PE X e te) : PE X (.Subscript e (.Slice none none (some (.UnaryOp .USub (.Constant (.int 1) k p1) p2)) p3) pos) (tRevT X.K te) := by
  refine ⟨fun pins s σ H Q I h => ?_⟩
  refine Subscript_ (thn (he.run pins s σ H _ I h) fun v s1 ⟨x, H1, I1, r1, q1⟩ => ?_)
  obtain ⟨a, xs, ex, hx, q⟩ := q1
  subst ex
  cases r1
  have hst : PO X (some (.UnaryOp .USub (.Constant (.int 1) k p1) p2)) (tPart (tUn (rU fun i => .int (-i)) (tC (.int 1)))) := po_some (pe_un un_neg pe_int)
  refine wpAny_Slice (thn (po_none.run pins s1 σ H1 (fun o H2 => o = none ∧ H2 = H1) I1 ⟨rfl, rfl⟩) fun vl s2 ⟨l, H2, I2, pl, el, e2⟩ => ?_)
  subst el e2
  refine thn (po_none.run pins s2 σ H2 (fun o H3 => o = none ∧ H3 = H2) I2 ⟨rfl, rfl⟩) fun vu s3 ⟨u, H3, I3, pu, eu, e3⟩ => ?_
  subst eu e3
  refine thn (hst.run pins s3 σ H3 (fun o H4 => o = some (-1) ∧ H4 = H3) I3 ⟨1, rfl, -1, rfl, rfl, rfl⟩) fun vs s4 ⟨o, H4, I4, ps, eo, e4⟩ => ?_
  subst eo e4
  have I5 : Inv X pins σ H4 { s4 with heap := s4.heap.push { cls := .type "slice", data := .fields #[vl, vu, vs] } } := I4.kept (t' := s4.toks) fun b ob q => Heap.get?_push_of_some _ q
  obtain ⟨its, r, ht, hz⟩ := I5.tuple hx
  have hlen := r.length
  show wpAny (model X.prog X.w) X.A (subscriptTail e (.Slice none none (some (.UnaryOp .USub (.Constant (.int 1) k p1) p2)) p3) (.ref a) (.ref s4.heap.objs.size)) (EP X pins σ Q) X.xe { s4 with heap := s4.heap.push { cls := .type "slice", data := .fields #[vl, vu, vs] } }
  refine tail_any (ops := [.ref a, .ref s4.heap.objs.size]) ht.typeIs (PyProof.Rows.slot_tuple_getitem.lookup) ?_ (by with_unfolding_all rfl)
  refine getItem_tuple_rev ht (Heap.IsSliceOf.new _ vl vu vs) pl pu ps ?_ (by rw [List.size_toArray]; omega)
  refine ⟨.ref _, _, I5.laid (t' := s4.toks) (o := .tup xs.reverse) (fun b ob q => Heap.get?_push_of_some _ q) (Nat.le_refl _) ?_, rfl, q _ (I5.hok.fresh (Nat.le_refl _))⟩
  exact ⟨by rw [List.length_reverse]; exact hz, _, r.reverse, IsTup.new _ _⟩
theorem keRevT (K : PySem.W.Frag) {e : Expr} {te : TE} {k : Nat} {p1 p2 p3 pos : Pos} (h : X.K = K) (he : PE X e te) : PE X (.Subscript e (.Slice none none (some (.UnaryOp .USub (.Constant (.int 1) k p1) p2)) p3) pos) (tRevT K te) := h ▸ pe_revT he
theorem keRevL (K : PySem.W.Frag) {e : Expr} {te : TE} {k : Nat} {p1 p2 p3 pos : Pos} (h : X.K = K) (he : PE X e te) : PE X (.Subscript e (.Slice none none (some (.UnaryOp .USub (.Constant (.int 1) k p1) p2)) p3) pos) (tRevL K te) := h ▸ pe_revL he
theorem g_revT {K : PySem.W.Frag} {te : TE} {σ : L2.St} {H : Hp} {Q : VK} (q : te σ H fun x H1 => ∃ a xs, x = .ref a ∧ SqT K H1 a xs ∧ ∀ p, H1 p = none → Q (.ref p) (L2.upd H1 p (.tup xs.reverse))) : tRevT K te σ H Q := q
theorem g_revL {K : PySem.W.Frag} {te : TE} {σ : L2.St} {H : Hp} {Q : VK} (q : te σ H fun x H1 => ∃ a xs, x = .ref a ∧ SqL K H1 a xs ∧ ∀ p, H1 p = none → Q (.ref p) (L2.upd H1 p (.lst xs.reverse))) : tRevL K te σ H Q := q
theorem g_iR3 {ta : TA} {σ : L2.St} {H : Hp} {R : It → Hp → Prop} (q : ta σ H fun vs H1 => ∃ (i j c : Int) (n : Nat), vs = [.int i, .int j, .int c] ∧ RgC i j c n ∧ R (Itc i c n) H1) : iRng3 ta σ H R := q
end
end Pf

--BODY
namespace Pf
open PySem PySem.Spec PyProof.Rows L2
theorem tuple_mulSame (l : Addr) (items : Array Value) (n : Nat) (dd : Option Addr) (sl : Array (Option Value)) (x : Int) (u : Tok) (c0 : (decide (x < -(2 ^ 63)) || decide (x ≥ 2 ^ 63)) = false) (c1 : (items.isEmpty || x == 1) = true) :
    Meets (Builtin.«tuple.__mul__» ⟨[.ref l, .int x u], []⟩) (fun _ R s => s.heap.get? l = some { cls := .type "tuple", dict := dd, data := .seq items n, slots := sl } ∧
      R (.ok (.ret (Value.ref l))) s) :=
  .of_wp fun prog w A R s h => by
    obtain ⟨hp, g, d, tk, os⟩ := s
    obtain ⟨hl, h⟩ := h
    have f1 := AutoSeq1.idx_int
    wp_walk using wpAny_loadPart' hl
    repeat (first
      | (refine wpAny_ite_false (decide_eq_false (by rw [c0]; exact Bool.false_ne_true)) ?_; wp_walk using wpAny_loadPart' hl)
      | (refine wpAny_ite_true (decide_eq_true c1) ?_; wp_walk using wpAny_loadPart' hl))
    exact ⟨_, rfl, h⟩
theorem tuple_mulZero (l : Addr) (items : Array Value) (n : Nat) (dd : Option Addr) (sl : Array (Option Value)) (x : Int) (u : Tok) (c0 : (decide (x < -(2 ^ 63)) || decide (x ≥ 2 ^ 63)) = false) (c1 : (items.isEmpty || x == 1) = false) (c2 : (decide (x ≤ 0) || items.isEmpty) = true) :
    Meets (Builtin.«tuple.__mul__» ⟨[.ref l, .int x u], []⟩) (fun _ R s => s.heap.get? l = some { cls := .type "tuple", dict := dd, data := .seq items n, slots := sl } ∧
      R (.ok (.ret (Value.ref s.heap.objs.size))) { s with heap := s.heap.push { cls := Value.type "tuple", data := Data.seq #[] }, toks := s.toks }) :=
  .of_wp fun prog w A R s h => by
    obtain ⟨hp, g, d, tk, os⟩ := s
    obtain ⟨hl, h⟩ := h
    have f1 := AutoSeq1.idx_int
    wp_walk using wpAny_loadPart' hl
    repeat (first
      | (refine wpAny_ite_false (decide_eq_false (by rw [c0]; exact Bool.false_ne_true)) ?_; wp_walk using wpAny_loadPart' hl)
      | (refine wpAny_ite_false (decide_eq_false (by rw [c1]; exact Bool.false_ne_true)) ?_; wp_walk using wpAny_loadPart' hl)
      | (refine wpAny_ite_true (decide_eq_true c2) ?_; wp_walk using wpAny_loadPart' hl))
    exact ⟨_, rfl, h⟩
/-- a tuple some times, any number -/
def rRepA (K : PySem.W.Frag) : R2 := fun x y H Q => ∃ l k xs, x = .ref l ∧ y = .int k ∧ SqT K H l xs ∧ 0 ≤ k ∧ k ≤ 1000 ∧ xs.length ≤ 1000 ∧ ∀ p H', Same H H' → SqT K H' p (List.replicate k.toNat xs).flatten → Q (.ref p) H'
theorem op_repA {X : Cx} : OpR X (binaryOp .Mult) (rRepA X.K) := by
  intro pins s σ H x y v u Q I rx ry h
  obtain ⟨l, k, xs, rfl, rfl, hT, h1, h2, hz, q⟩ := h
  by_cases hbig : xs ≠ [] ∧ 2 ≤ k
  · exact op_repT pins s σ H _ _ v u Q I rx ry ⟨l, k, xs, rfl, rfl, hT, hbig.1, hbig.2, h2, hz, fun p np => q p _ (same_new np) SqT.new⟩
  cases rx
  obtain ⟨t, rfl⟩ := ry
  obtain ⟨its, r, ⟨⟨cls, dd, data, sl⟩, ho, hc, n, hd⟩, hs⟩ := I.tuple hT
  simp only at hc hd
  subst hc hd
  have hle : its.length = xs.length := r.length.symm
  have c0 : (decide (k < -(2 ^ 63)) || decide (k ≥ 2 ^ 63)) = false := by
    rw [decide_eq_false (by omega), decide_eq_false (by omega)] <;> rfl
  by_cases hs1 : xs = [] ∨ k = 1
  · have c1 : (its.toArray.isEmpty || k == 1) = true := by
      rcases hs1 with e | e
      · have : its = [] := List.eq_nil_of_length_eq_zero (by rw [hle, e]; rfl)
        rw [this]
        rfl
      · rw [e]
        exact Bool.or_true _
    refine wpAny_binaryOp_repeat_ref (T := "tuple") (U := "int") (by decide) ⟨_, ho, rfl⟩ (fun s' => typeIs_int s' k t) noFill_tuple_mul F.fills_int_mul F.slot_int_rmul repeat_tuple F.slot_int_index.lookup
      (call_meets F.slot_int_rmul (typeIs_int s k t) F.entry_int_rmul (F.args_int_rmul_2 _ _) (int_rmul_tuple k t l its.toArray n dd sl)
        ⟨ho, rfl, ⟨_, ho, rfl⟩, call_meets F.slot_tuple_mul ⟨_, ho, rfl⟩ F.entry_tuple_mul (F.args_tuple_mul_2 _ _) (tuple_mulSame l its.toArray n dd sl k t c0 c1) ⟨ho, ?_⟩⟩)
    have e : (List.replicate k.toNat xs).flatten = xs := by
      rcases hs1 with e | e
      · rw [e]
        exact List.flatten_eq_nil_iff.mpr fun z hz => (List.mem_replicate.mp hz).2
      · rw [e]
        show (List.replicate 1 xs).flatten = xs
        rw [List.replicate_one, List.flatten_singleton]
    refine ⟨.ref l, H, I, rfl, q l H (Same.refl H) (by rw [e]; exact hT)⟩
  · have hne : xs ≠ [] := fun e => hs1 (.inl e)
    have hk1 : k ≠ 1 := fun e => hs1 (.inr e)
    have hk0 : k = 0 := by
      by_cases c : 2 ≤ k
      · exact absurd ⟨hne, c⟩ hbig
      · omega
    have hi : its.toArray.isEmpty = false := by
      cases its with
      | nil => exact absurd (List.eq_nil_of_length_eq_zero (by rw [← hle]; rfl)) hne
      | cons a b => rfl
    have c1 : (its.toArray.isEmpty || k == 1) = false := by
      rw [hi, Bool.false_or]
      exact beq_eq_false_iff_ne.mpr hk1
    have c2 : (decide (k ≤ 0) || its.toArray.isEmpty) = true := by
      rw [decide_eq_true (by omega)]
      rfl
    refine wpAny_binaryOp_repeat_ref (T := "tuple") (U := "int") (by decide) ⟨_, ho, rfl⟩ (fun s' => typeIs_int s' k t) noFill_tuple_mul F.fills_int_mul F.slot_int_rmul repeat_tuple F.slot_int_index.lookup
      (call_meets F.slot_int_rmul (typeIs_int s k t) F.entry_int_rmul (F.args_int_rmul_2 _ _) (int_rmul_tuple k t l its.toArray n dd sl)
        ⟨ho, rfl, ⟨_, ho, rfl⟩, call_meets F.slot_tuple_mul ⟨_, ho, rfl⟩ F.entry_tuple_mul (F.args_tuple_mul_2 _ _) (tuple_mulZero l its.toArray n dd sl k t c0 c1 c2) ⟨ho, ?_⟩⟩)
    refine ⟨.ref s.heap.objs.size, _, I.laid (t' := s.toks) (o := .tup []) (fun b ob q => Heap.get?_push_of_some _ q) (Nat.le_refl _) ?_, rfl, q _ _ (same_new (I.hok.fresh (Nat.le_refl _))) ?_⟩
    · exact ⟨Nat.zero_le _, [], .nil, IsTup.new _ _⟩
    · rw [hk0]
      exact SqT.new
theorem kRepA {X : Cx} (K : PySem.W.Frag) (h : X.K = K) : OpR X (binaryOp .Mult) (rRepA K) := kO K (r := rRepA) h op_repA
end Pf

namespace Pf
open PySem PySem.Spec PyProof.Rows L2
/-! ### len(set(t)) of a tuple of whole numbers -/
def tLenSetT (K : PySem.W.Frag) (ta : TE) : TE := fun σ H Q => ta σ H fun x H1 => ∃ (l : Addr) (ns : List Int), x = .ref l ∧ SqT K H1 l (ns.map V.int) ∧ ns.length ≤ 1000 ∧ ∀ out : List Int, out.Nodup → (∀ k, k ∈ out ↔ k ∈ ns) → Q (.int (out.length : Nat)) H1
theorem pe_lenSetT {X : Cx} {a : Expr} {ta : TE} {p p2 q pos : Pos} (hc : X.calm = true) (hg : Gl X "len") (hm : X.mg "len" = none) (hg2 : Gl X "set") (hm2 : X.mg "set" = none) (ha : PE X a ta)
    (na : starEach [a] X.env = (false, eval a X.env) :: starEach [] X.env := by rfl) : PE X (.Call (.Name "len" p) [.Call (.Name "set" p2) [a] [] q] [] pos) (tLenSetT X.K ta) := by
  refine ⟨fun pins s σ H Q I h => ?_⟩
  refine Call_ (ld_blt I hg hm boot_len ?_)
  refine PyProof.Rows.callWith_builtin1 (PyProof.Rows.args_cons ?_ rfl) rfl rfl
  refine Call_ (ld_blt I hg2 hm2 boot_set ?_)
  refine PyProof.Rows.callWith_type1 (PyProof.Rows.args_cons (thn (ha.run pins s σ H _ I h) fun v s1 ⟨x, H1, I1, r1, q1⟩ => PyProof.Rows.args_nil ?_) na) na rfl
  obtain ⟨l, ns, rfl, hq, hl, q1⟩ := q1
  cases r1
  obtain ⟨its, rv, pt, hz⟩ := I1.tuple hq
  have hi : IntsAre its.toArray.toList ns := ints_of_vals rv
  refine call_set_tupI ns (I1.ok.hd hc) (show s1.heap.IsTuple l its.toArray from pt) hi (by unfold scanBound; omega) fun h' tk c R1 hcn k => ?_
  refine PyProof.Rows.args_nil ?_
  obtain ⟨o, es, ep, t, ho, hex, hdt, g, nd, hm2, hb, hf, hn, hr, hl2⟩ := R1
  have I2 : Inv X pins σ H1 { s1 with heap := h', toks := tk } := I1.kept fun b o e => k b o e
  have hlen : (es.toList.map keyOf).length = es.size := by rw [List.length_map, Array.length_toList]
  have q2 := q1 (es.toList.map keyOf) nd fun j => by rw [← hm2 j, decide_eq_true_eq]
  rw [hlen] at q2
  have hsz : es.size ≤ ns.length := by
    have hsub : ∀ j ∈ es.toList.map keyOf, j ∈ ns := fun j hj => by
      have := (hm2 j).mpr hj
      simpa using this
    rw [← hlen]
    exact List.Nodup.length_le_of_subset nd hsub
  exact call_len_set ho hex hdt hf (by omega) ⟨.int es.size, H1, I2.tok _, ⟨_, rfl⟩, q2⟩
theorem keLenSetT {X : Cx} (K : PySem.W.Frag) {a : Expr} {ta : TE} {p p2 q pos : Pos} (h : X.K = K) (hc : X.calm = true) (hg : Gl X "len") (hm : X.mg "len" = none) (hg2 : Gl X "set") (hm2 : X.mg "set" = none) (ha : PE X a ta)
    (na : starEach [a] X.env = (false, eval a X.env) :: starEach [] X.env := by rfl) : PE X (.Call (.Name "len" p) [.Call (.Name "set" p2) [a] [] q] [] pos) (tLenSetT K ta) := h ▸ pe_lenSetT hc hg hm hg2 hm2 ha na
theorem g_lenSetT {K : PySem.W.Frag} {ta : TE} {σ : L2.St} {H : Hp} {Q : VK} (q : ta σ H fun x H1 => ∃ (l : Addr) (ns : List Int), x = .ref l ∧ SqT K H1 l (ns.map V.int) ∧ ns.length ≤ 1000 ∧ ∀ out : List Int, out.Nodup → (∀ k, k ∈ out ↔ k ∈ ns) → Q (.int (out.length : Nat)) H1) : tLenSetT K ta σ H Q := q
end Pf

namespace Pf
open PySem PySem.Spec PyProof.Rows L2
/-! ### sorted(set(t)) of a tuple of whole numbers -/
def tSortSet (K : PySem.W.Frag) (ta : TE) : TE := fun σ H Q => ta σ H fun x H1 => ∃ (l : Addr) (ns : List Int), x = .ref l ∧ SqT K H1 l (ns.map V.int) ∧ ns.length < 60 ∧
  ∀ (out : List Int) (p : Addr), out.Pairwise (· < ·) → (∀ k, k ∈ out ↔ k ∈ ns) → H1 p = none → Q (.ref p) (upd H1 p (.lst (out.map V.int)))
theorem pe_sortSet {X : Cx} {a : Expr} {ta : TE} {p p2 q pos : Pos} (hc : X.calm = true) (hg : Gl X "sorted") (hm : X.mg "sorted" = none) (hg2 : Gl X "set") (hm2 : X.mg "set" = none) (ha : PE X a ta)
    (na : starEach [a] X.env = (false, eval a X.env) :: starEach [] X.env := by rfl) : PE X (.Call (.Name "sorted" p) [.Call (.Name "set" p2) [a] [] q] [] pos) (tSortSet X.K ta) := by
  refine ⟨fun pins s σ H Q I h => ?_⟩
  refine Call_ (ld_blt I hg hm boot_sorted ?_)
  refine PyProof.Rows.callWith_builtin1 (PyProof.Rows.args_cons ?_ rfl) rfl rfl
  refine Call_ (ld_blt I hg2 hm2 boot_set ?_)
  refine PyProof.Rows.callWith_type1 (PyProof.Rows.args_cons (thn (ha.run pins s σ H _ I h) fun v s1 ⟨x, H1, I1, r1, q1⟩ => PyProof.Rows.args_nil ?_) na) na rfl
  obtain ⟨l, ns, rfl, hq, hl, q1⟩ := q1
  cases r1
  obtain ⟨its, rv, pt, hz⟩ := I1.tuple hq
  have hi : IntsAre its.toArray.toList ns := ints_of_vals rv
  refine call_set_tupI ns (I1.ok.hd hc) (show s1.heap.IsTuple l its.toArray from pt) hi (by unfold scanBound; omega) fun h' tk c R1 hcn k => ?_
  refine PyProof.Rows.args_nil ?_
  have I2 : Inv X pins σ H1 { s1 with heap := h', toks := tk } := I1.kept fun b o e => k b o e
  have R2 : SetR X.w ({ s1 with heap := h', toks := tk } : Shared).heap s1.heap.objs.size (fun j => decide (j ∈ ns)) c := R1
  generalize ({ s1 with heap := h', toks := tk } : Shared) = s2 at I2 R2 ⊢
  refine sorted_set R2 (I2.ok.hd hc) (by omega) fun s' p out c2 ns' k2 g o hp hg3 hi2 hs hm3 hl2 => ?_
  have hlen : (ns'.map V.int).length ≤ sizeLine := by rw [List.length_map, hl2, sizeLine_eq]; omega
  have hn : H1 p = none := I2.hok.fresh hp
  have J : Inv X pins σ (upd H1 p (.lst (ns'.map V.int))) { s2 with heap := s'.heap, gens := s'.gens, drawn := s'.drawn, toks := s'.toks } :=
    I2.call (ch := []) (Un.laid k2 hp hn) (I2.hok.laid k2 hp ⟨hlen, out.toList, c2, vals_of_ints hi2, hg3⟩) (by rw [g]; exact I2.bare) (fun _ z => nomatch z)
  have e : s' = { s2 with heap := s'.heap, gens := s'.gens, drawn := s'.drawn, toks := s'.toks } := by
    cases s'
    cases s2
    cases o
    rfl
  rw [e]
  exact ⟨.ref p, _, J, rfl, q1 ns' p hs (fun j => by rw [hm3 j, decide_eq_true_eq]) hn⟩
theorem keSortSet {X : Cx} (K : PySem.W.Frag) {a : Expr} {ta : TE} {p p2 q pos : Pos} (h : X.K = K) (hc : X.calm = true) (hg : Gl X "sorted") (hm : X.mg "sorted" = none) (hg2 : Gl X "set") (hm2 : X.mg "set" = none) (ha : PE X a ta)
    (na : starEach [a] X.env = (false, eval a X.env) :: starEach [] X.env := by rfl) : PE X (.Call (.Name "sorted" p) [.Call (.Name "set" p2) [a] [] q] [] pos) (tSortSet K ta) := h ▸ pe_sortSet hc hg hm hg2 hm2 ha na
theorem g_sortSet {K : PySem.W.Frag} {ta : TE} {σ : L2.St} {H : Hp} {Q : VK} (q : ta σ H fun x H1 => ∃ (l : Addr) (ns : List Int), x = .ref l ∧ SqT K H1 l (ns.map V.int) ∧ ns.length < 60 ∧ ∀ (out : List Int) (p : Addr), out.Pairwise (· < ·) → (∀ k, k ∈ out ↔ k ∈ ns) → H1 p = none → Q (.ref p) (upd H1 p (.lst (out.map V.int)))) : tSortSet K ta σ H Q := q
def tTruth (K : PySem.W.Frag) (ta : TE) : TT := fun σ H Q => ta σ H fun x H' => ∃ k, TruV K x H' k ∧ Q k H'
theorem kTruth {X : Cx} (K : PySem.W.Frag) {a : Expr} {ta : TE} (h : X.K = K) (ha : PE X a ta) (he : ∀ whole, isTrue a X.env whole = (do let v ← whole; standAt a.pos; holding [v] (truthy v))) : PT X a (tTruth K ta) := h ▸ pt_truth ha he
theorem g_truth {K : PySem.W.Frag} {ta : TE} {σ : L2.St} {H : Hp} {Q : Bool → Hp → Prop} (q : ta σ H fun x H' => ∃ k, TruV K x H' k ∧ Q k H') : tTruth K ta σ H Q := q
end Pf

namespace Pf
open PySem PySem.Spec PyProof.Rows L2
/-! ### set(l) of a list of whole numbers, with its order, and sorted of it -/
section
variable {P : Program} {w : World} {A : Around} {E : Value → Shared → Prop} {s : Shared}
abbrev freshSet (w : World) : Obj := { cls := .type "set", dict := none, data := .set #[] 0 (.fresh 0 0 (!w.params.followText "set-order")) }
/-- a list of ints, given to the fresh set at the heap's end -/
theorem fill_by_list {l : Addr} {items : Array Value} {ns : List Int} (hh : A.in1.handled = none) (hl : s.heap.IsList l items) (hit : IntsAre items.toList ns) (hb : ns.length + 1 < scanBound)
    {R : Result → Shared → Prop}
    (h : ∀ (h' : Heap) (tk c : Nat), SetR w h' s.heap.objs.size (fun j => decide (j ∈ ns)) c → c ≤ ns.length → (∀ b o, s.heap.get? b = some o → h'.get? b = some o) → R (.ok (.ret .none)) { s with heap := h', toks := tk }) :
    codeAny (model P w) A (.builtin "set.update.loop" ⟨[.ref s.heap.objs.size, .ref (s.heap.push (freshSet w)).objs.size], []⟩) R { s with heap := (s.heap.push (freshSet w)).push { cls := .type "list_iterator", data := .fields #[.ref l, .int 0 0] } } := by
  have hsz : items.size = ns.length := (Array.length_toList ..).symm.trans (IntsAre.length hit)
  have hz : (s.heap.push (freshSet w)).objs.size = s.heap.objs.size + 1 := Heap.size_push ..
  have hlS : l < s.heap.objs.size := by
    obtain ⟨o, e, _⟩ := hl
    exact Heap.lt_size e
  have hne : l ≠ (s.heap.push (freshSet w)).objs.size := by
    rw [hz]
    exact Nat.ne_of_lt (Nat.lt_succ_of_lt hlS)
  have hfar : s.heap.objs.size ∉ [(s.heap.push (freshSet w)).objs.size, l] := by
    rw [hz]
    simp only [List.mem_cons, List.not_mem_nil, or_false, not_or]
    exact ⟨Nat.ne_of_lt (Nat.lt_succ_self _), Nat.ne_of_gt hlS⟩
  refine set_update_ints ((Walks.list hh _ l hne items).toS) s.heap.objs.size hfar ns hsz hb (fun i v hv => ?_) items.size 0 _ rfl (Nat.zero_le _) ⟨⟨_, Heap.get?_push_size _ rfl, rfl, rfl⟩, Heap.IsList.push (Heap.IsList.push hl _) _⟩ ⟨0, Nat.le_refl 0, setR_new_at (Heap.get?_push_of_some _ (Heap.get?_push_size _ rfl))⟩ (fun s' c hm hc hS => ?_)
  · have hi : i < ns.length := by rw [← hsz]; exact (Array.getElem?_eq_some_iff.mp hv).1
    obtain ⟨t, e⟩ := IntsAre.int_at hit i v (by rw [Array.getElem?_toList]; exact hv)
    refine ⟨ns[i], t, List.getElem?_eq_getElem hi, ?_⟩
    rw [e, List.getD_eq_getElem?_getD, List.getElem?_eq_getElem hi]
    rfl
  · obtain ⟨h', g, d, tk, os⟩ := s'
    obtain rfl : g = s.gens := hm.gens
    obtain rfl : d = s.drawn := hm.drawn
    obtain rfl : os = s.os := hm.os
    refine h h' tk c hS (hsz ▸ hc) fun b o e => ?_
    have hb0 : b < s.heap.objs.size := Heap.lt_size e
    refine hm.heap b o ?_ (Heap.get?_push_of_some _ (Heap.get?_push_of_some _ e))
    rw [hz]
    simp only [List.mem_cons, List.not_mem_nil, or_false, not_or]
    exact ⟨Nat.ne_of_lt hb0, Nat.ne_of_lt (Nat.lt_succ_of_lt hb0)⟩
set_option maxHeartbeats 3200000 in
theorem set_by_list {l : Addr} {items : Array Value} (ns : List Int) {Q : Value → Shared → Prop} (hh : A.handled = none) (hl : s.heap.IsList l items) (hit : IntsAre items.toList ns) (hb : ns.length + 1 < scanBound)
    (h : ∀ (h' : Heap) (tk c : Nat), SetR w h' s.heap.objs.size (fun j => decide (j ∈ ns)) c → c ≤ ns.length → (∀ b o, s.heap.get? b = some o → h'.get? b = some o) → Q (.ref s.heap.objs.size) { s with heap := h', toks := tk }) :
    wpAny (model P w) A (call (.type "set") [.ref l]) Q E s := by
  have hmro := PySem.F.called_set.mro
  obtain ⟨_, _, hmro⟩ := hmro
  have hmade := PySem.F.called_set.made
  have hsub := PySem.F.called_set.sub
  have hn := PySem.F.called_set.notType
  have hcc := PySem.F.called_set.canCreate
  have hct := PySem.F.typeCall_set_1 (.ref l)
  refine wpAny_call (codeAny_of_tree ?_)
  show wpAny _ _ (callAny (.type "set") _) _ _ _
  refine wpAny_pure ⟨Code.quiet_builtin _ (by decide +kernel), codeAny_builtin PySem.F.entry_type_call ?_⟩
  rw [Around.under_plain (weight_type_call_type "set" [.ref l] []) rfl]
  repeat (any_goals (first | assumption | wp_step))
  refine codeAny_mono (code_set_led1 (.ref l) (E := E) (Q₁ := fun obj s1 => obj = .ref s.heap.objs.size ∧ s1 = { s with heap := s.heap.push (freshSet w) }) ⟨rfl, rfl⟩) fun r s1 hr => ?_
  match r, hr with
  | .error e, hr => exact hr
  | .ok (.ret obj), hr =>
    obtain ⟨rfl, rfl⟩ := hr
    have hS : (s.heap.push (freshSet w)).get? s.heap.objs.size = some (freshSet w) := Heap.get?_push_size _ rfl
    have hT : Shared.TypeIs { s with heap := s.heap.push (freshSet w) } (.ref s.heap.objs.size) "set" := ⟨_, hS, rfl⟩
    have hli := PySem.F.called_set.init.lookup
    have hbi := PySem.F.called_set.init.bind (.ref s.heap.objs.size)
    repeat (any_goals (first | assumption | wp_step))
    refine codeAny_mono (codeAny_call_builtin (R := wants (fun v s2 => v = .none ∧ ∃ h' tk c, s2 = { s with heap := h', toks := tk } ∧ SetR w h' s.heap.objs.size (fun j => decide (j ∈ ns)) c ∧ c ≤ ns.length ∧ (∀ b o, s.heap.get? b = some o → h'.get? b = some o)) E) PySem.F.called_set.init.plain PySem.F.entry_set_init (check_set_init_1 hT ?_)) fun r2 s2 hr2 => ?_
    · have hl1 : (s.heap.push (freshSet w)).IsList l items := Heap.IsList.push hl _
      have hl' := hl
      obtain ⟨⟨oc, od, oda, osl⟩, ho, hcl, nl, hda⟩ := hl'
      simp only at hcl hda
      subst hcl
      subst hda
      have ho' := Heap.get?_push_of_some (freshSet w) ho
      have k1 := PySem.F.sub_list_set
      have k2 := PySem.F.sub_list_frozenset
      have k3 : (Value.type "list" == Value.type "dict") = false := by decide
      unfold Builtin.«set.__init__» noKeywords Builtin.Frozenset.updateFrom
      generalize hPI : pyIter = PI
      wp_walk
      subst hPI
      refine wpAny_pyIter_list hl1 ?_
      refine wpAny_bind (wpAny_runValue ?_)
      refine fill_by_list (by simp [hh]) hl hit hb fun h' tk c q1 q2 q3 => ?_
      show wpAny _ _ _ _ _ _
      refine wpAny_pure ?_
      show wpAny _ _ (ret Value.none) _ _ _
      exact wpAny_pure ⟨rfl, h', tk, c, rfl, q1, q2, q3⟩
    · match r2, hr2 with
      | .error e, hr2 => exact hr2
      | .ok (.ret v), hr2 =>
        obtain ⟨rfl, h', tk, c, rfl, q1, q2, q3⟩ := hr2
        repeat (any_goals (first | assumption | wp_step))
        exact h _ _ _ q1 q2 q3
end
def tSortSetL (K : PySem.W.Frag) (ta : TE) : TE := fun σ H Q => ta σ H fun x H1 => ∃ (l : Addr) (ns : List Int), x = .ref l ∧ SqL K H1 l (ns.map V.int) ∧ ns.length < 60 ∧
  ∀ (out : List Int) (p : Addr), out.Pairwise (· < ·) → (∀ k, k ∈ out ↔ k ∈ ns) → H1 p = none → Q (.ref p) (upd H1 p (.lst (out.map V.int)))
theorem pe_sortSetL {X : Cx} {a : Expr} {ta : TE} {p p2 q pos : Pos} (hc : X.calm = true) (hg : Gl X "sorted") (hm : X.mg "sorted" = none) (hg2 : Gl X "set") (hm2 : X.mg "set" = none) (ha : PE X a ta)
    (na : starEach [a] X.env = (false, eval a X.env) :: starEach [] X.env := by rfl) : PE X (.Call (.Name "sorted" p) [.Call (.Name "set" p2) [a] [] q] [] pos) (tSortSetL X.K ta) := by
  refine ⟨fun pins s σ H Q I h => ?_⟩
  refine Call_ (ld_blt I hg hm boot_sorted ?_)
  refine PyProof.Rows.callWith_builtin1 (PyProof.Rows.args_cons ?_ rfl) rfl rfl
  refine Call_ (ld_blt I hg2 hm2 boot_set ?_)
  refine PyProof.Rows.callWith_type1 (PyProof.Rows.args_cons (thn (ha.run pins s σ H _ I h) fun v s1 ⟨x, H1, I1, r1, q1⟩ => PyProof.Rows.args_nil ?_) na) na rfl
  obtain ⟨l, ns, rfl, hq, hl, q1⟩ := q1
  cases r1
  obtain ⟨its, rv, pt, hz⟩ := I1.list hq
  have hi : IntsAre its.toArray.toList ns := ints_of_vals rv
  refine set_by_list ns (I1.ok.hd hc) pt.isList hi (by unfold scanBound; omega) fun h' tk c R1 hcn k => ?_
  refine PyProof.Rows.args_nil ?_
  have I2 : Inv X pins σ H1 { s1 with heap := h', toks := tk } := I1.kept fun b o e => k b o e
  have R2 : SetR X.w ({ s1 with heap := h', toks := tk } : Shared).heap s1.heap.objs.size (fun j => decide (j ∈ ns)) c := R1
  generalize ({ s1 with heap := h', toks := tk } : Shared) = s2 at I2 R2 ⊢
  refine sorted_set R2 (I2.ok.hd hc) (by omega) fun s' p out c2 ns' k2 g o hp hg3 hi2 hs hm3 hl2 => ?_
  have hlen : (ns'.map V.int).length ≤ sizeLine := by rw [List.length_map, hl2, sizeLine_eq]; omega
  have hn : H1 p = none := I2.hok.fresh hp
  have J : Inv X pins σ (upd H1 p (.lst (ns'.map V.int))) { s2 with heap := s'.heap, gens := s'.gens, drawn := s'.drawn, toks := s'.toks } :=
    I2.call (ch := []) (Un.laid k2 hp hn) (I2.hok.laid k2 hp ⟨hlen, out.toList, c2, vals_of_ints hi2, hg3⟩) (by rw [g]; exact I2.bare) (fun _ z => nomatch z)
  have e : s' = { s2 with heap := s'.heap, gens := s'.gens, drawn := s'.drawn, toks := s'.toks } := by
    cases s'
    cases s2
    cases o
    rfl
  rw [e]
  exact ⟨.ref p, _, J, rfl, q1 ns' p hs (fun j => by rw [hm3 j, decide_eq_true_eq]) hn⟩
theorem keSortSetL {X : Cx} (K : PySem.W.Frag) {a : Expr} {ta : TE} {p p2 q pos : Pos} (h : X.K = K) (hc : X.calm = true) (hg : Gl X "sorted") (hm : X.mg "sorted" = none) (hg2 : Gl X "set") (hm2 : X.mg "set" = none) (ha : PE X a ta)
    (na : starEach [a] X.env = (false, eval a X.env) :: starEach [] X.env := by rfl) : PE X (.Call (.Name "sorted" p) [.Call (.Name "set" p2) [a] [] q] [] pos) (tSortSetL K ta) := h ▸ pe_sortSetL hc hg hm hg2 hm2 ha na
theorem g_sortSetL {K : PySem.W.Frag} {ta : TE} {σ : L2.St} {H : Hp} {Q : VK} (q : ta σ H fun x H1 => ∃ (l : Addr) (ns : List Int), x = .ref l ∧ SqL K H1 l (ns.map V.int) ∧ ns.length < 60 ∧ ∀ (out : List Int) (p : Addr), out.Pairwise (· < ·) → (∀ k, k ∈ out ↔ k ∈ ns) → H1 p = none → Q (.ref p) (upd H1 p (.lst (out.map V.int)))) : tSortSetL K ta σ H Q := q
end Pf

namespace Pf
open PySem PySem.Spec PyProof.Rows L2
local macro_rules | `(tactic| walk_at "one") => `(tactic| first
  | refine g_var rfl ?_ | refine g_c ?_ | refine g_op ?_ | refine g_rI0 ?_ | refine g_eqI ?_ | refine g_neI ?_ | refine g_eqB ?_ | refine g_neB ?_ | refine g_test ?_ | refine g_tB ?_ | refine g_bl ?_
  | refine g_and ?_ | refine g_or ?_ | refine g_not ?_ | refine g_andV ?_ | refine g_orV ?_ | refine g_notV ?_ | refine g_if ?_ | refine g_un ?_ | refine g_rU ?_ | refine g_chain ?_
  | refine g_ifS ?_ | refine g_next ?_ | refine g_asg ?_ | refine g_name ?_ | refine g_sub ?_ | refine g_ret ?_ | refine g_drop ?_ | refine g_cons ?_ | refine g_nil ?_ | refine g_cb ?_
  | refine g_tup ?_ | refine g_lst ?_ | refine g_sl ?_ | refine g_nopart ?_ | refine g_part ?_ | refine g_part2 ?_ | refine g_call ?_ | (show (∃ k, [V.int _] = [V.int k] ∧ _) ∨ _; refine .inl ⟨_, rfl, ?_⟩) | refine g_yes ?_ | refine g_oFF ?_ | refine g_oTx ?_ | refine g_oFT ?_ | refine g_noTx ?_ | refine g_noFT ?_ | refine g_noFF ?_ | refine g_nT ?_ | refine g_nF ?_ | refine g_sfld ?_ | refine g_fld ?_ | refine g_make ?_ | refine g_lstRg ?_ | refine g_tupRg ?_ | refine g_rg1 ?_ | refine g_lc ?_ | refine g_for ?_ | refine g_iL ?_ | refine g_iT ?_ | refine g_iR1 ?_ | refine g_iR2 ?_ | refine g_iZA ?_ | refine g_bm ?_ | refine iteT ?_ | refine iteF ?_)
local macro_rules | `(tactic| walk_at "go") => `(tactic| repeat (with_reducible first | walk_at "one" | refine g_seq ?_))
local macro_rules | `(tactic| walk_at "gs") => `(tactic| ((repeat (with_reducible walk_at "one")); try dsimp only))
def topS (i : Nat) : Stmt := PySem.Challenge.pw_takenover_k23_whole_editions_that_pass.main.body.getD i (.Pass ⟨0, 0, 0, 0⟩)
abbrev s_is_integer : Stmt := topS 8
theorem sc_is_integer : FnScope ["thing"] ["thing"] (defScope s_is_integer) := ⟨rfl, rfl, rfl, by decide +kernel, rfl, by decide +kernel, by decide +kernel⟩
abbrev s_is_between : Stmt := topS 9
theorem sc_is_between : FnScope ["thing", "least", "most"] ["thing", "least", "most"] (defScope s_is_between) := ⟨rfl, rfl, rfl, by decide +kernel, rfl, by decide +kernel, by decide +kernel⟩
abbrev s_is_number : Stmt := topS 10
theorem sc_is_number : FnScope ["thing", "many"] ["thing", "many"] (defScope s_is_number) := ⟨rfl, rfl, rfl, by decide +kernel, rfl, by decide +kernel, by decide +kernel⟩
abbrev s_is_word : Stmt := topS 11
theorem sc_is_word : FnScope ["thing", "word"] ["thing", "word"] (defScope s_is_word) := ⟨rfl, rfl, rfl, by decide +kernel, rfl, by decide +kernel, by decide +kernel⟩
abbrev s_is_tuple_of : Stmt := topS 12
theorem sc_is_tuple_of : FnScope ["thing", "many"] ["thing", "many"] (defScope s_is_tuple_of) := ⟨rfl, rfl, rfl, by decide +kernel, rfl, by decide +kernel, by decide +kernel⟩
abbrev s_are_numbers : Stmt := topS 13
theorem sc_are_numbers : FnScope ["things", "many", "thing"] ["things", "many"] (defScope s_are_numbers) := ⟨rfl, rfl, rfl, by decide +kernel, rfl, by decide +kernel, by decide +kernel⟩
abbrev s_is_side : Stmt := topS 14
theorem sc_is_side : FnScope ["thing"] ["thing"] (defScope s_is_side) := ⟨rfl, rfl, rfl, by decide +kernel, rfl, by decide +kernel, by decide +kernel⟩
abbrev s_is_list : Stmt := topS 15
theorem sc_is_list : FnScope ["log", "thing", "edition"] ["log", "thing"] (defScope s_is_list) := ⟨rfl, rfl, rfl, by decide +kernel, rfl, by decide +kernel, by decide +kernel⟩
abbrev s_is_copying : Stmt := topS 23
theorem sc_is_copying : FnScope ["offices", "thing", "x", "y", "sure"] ["offices", "thing"] (defScope s_is_copying) := ⟨rfl, rfl, rfl, by decide +kernel, rfl, by decide +kernel, by decide +kernel⟩
abbrev s_is_row : Stmt := topS 24
theorem sc_is_row : FnScope ["offices", "thing"] ["offices", "thing"] (defScope s_is_row) := ⟨rfl, rfl, rfl, by decide +kernel, rfl, by decide +kernel, by decide +kernel⟩
abbrev s_wrong_part : Stmt := topS 25
theorem sc_wrong_part : FnScope ["offices", "rows", "is_right", "number", "row"] ["offices", "rows", "is_right"] (defScope s_wrong_part) := ⟨rfl, rfl, rfl, by decide +kernel, rfl, by decide +kernel, by decide +kernel⟩
abbrev s_is_left : Stmt := topS 26
theorem sc_is_left : FnScope ["row"] ["row"] (defScope s_is_left) := ⟨rfl, rfl, rfl, by decide +kernel, rfl, by decide +kernel, by decide +kernel⟩
abbrev s_cut_between : Stmt := topS 27
theorem sc_cut_between : FnScope ["row"] ["row"] (defScope s_cut_between) := ⟨rfl, rfl, rfl, by decide +kernel, rfl, by decide +kernel, by decide +kernel⟩
abbrev s_Log_init : Stmt := inClass (topS 40) 0
theorem sc_Log_init : FnScope ["self", "offices", "rows", "part"] ["self", "offices", "rows"] (defScope s_Log_init) := ⟨rfl, rfl, rfl, by decide +kernel, rfl, by decide +kernel, by decide +kernel⟩
abbrev s_check_side : Stmt := topS 17
theorem sc_check_side : FnScope ["side"] ["side"] (defScope s_check_side) := ⟨rfl, rfl, rfl, by decide +kernel, rfl, by decide +kernel, by decide +kernel⟩
abbrev s_check_cut : Stmt := topS 18
theorem sc_check_cut : FnScope ["offices", "cut"] ["offices", "cut"] (defScope s_check_cut) := ⟨rfl, rfl, rfl, by decide +kernel, rfl, by decide +kernel, by decide +kernel⟩
abbrev s_check_list : Stmt := topS 19
theorem sc_check_list : FnScope ["log", "editions"] ["log", "editions"] (defScope s_check_list) := ⟨rfl, rfl, rfl, by decide +kernel, rfl, by decide +kernel, by decide +kernel⟩
abbrev s_barred_cut : Stmt := topS 29
theorem sc_barred_cut : FnScope ["side", "row"] ["side", "row"] (defScope s_barred_cut) := ⟨rfl, rfl, rfl, by decide +kernel, rfl, by decide +kernel, by decide +kernel⟩
abbrev s_walk_price : Stmt := topS 30
theorem sc_walk_price : FnScope ["side", "start", "end"] ["side", "start", "end"] (defScope s_walk_price) := ⟨rfl, rfl, rfl, by decide +kernel, rfl, by decide +kernel, by decide +kernel⟩
abbrev s_is_post : Stmt := topS 31
theorem sc_is_post : FnScope ["log", "side", "thing", "first", "stands", "last", "cuts", "cut", "row"] ["log", "side", "thing"] (defScope s_is_post) := ⟨rfl, rfl, rfl, by decide +kernel, rfl, by decide +kernel, by decide +kernel⟩
abbrev s_check_post : Stmt := topS 32
theorem sc_check_post : FnScope ["log", "side", "thing"] ["log", "side", "thing"] (defScope s_check_post) := ⟨rfl, rfl, rfl, by decide +kernel, rfl, by decide +kernel, by decide +kernel⟩
abbrev s_post_price : Stmt := topS 33
theorem sc_post_price : FnScope ["log", "side", "thing", "first", "stands", "last", "start", "end"] ["log", "side", "thing"] (defScope s_post_price) := ⟨rfl, rfl, rfl, by decide +kernel, rfl, by decide +kernel, by decide +kernel⟩
abbrev s_cheapest_walks : Stmt := topS 34
theorem sc_cheapest_walks : FnScope ["log", "side", "first", "free_way", "cut", "least", "passing", "row", "stood", "free", "paid"] ["log", "side", "first"] (defScope s_cheapest_walks) := ⟨rfl, rfl, rfl, by decide +kernel, rfl, by decide +kernel, by decide +kernel⟩
abbrev s_check_ends : Stmt := topS 35
theorem sc_check_ends : FnScope ["log", "side", "first", "last"] ["log", "side", "first", "last"] (defScope s_check_ends) := ⟨rfl, rfl, rfl, by decide +kernel, rfl, by decide +kernel, by decide +kernel⟩
abbrev s_post : Stmt := topS 36
theorem sc_post : FnScope ["log", "side", "first", "last", "_", "passing", "now", "stands", "cut", "stood"] ["log", "side", "first", "last"] (defScope s_post) := ⟨rfl, rfl, rfl, by decide +kernel, rfl, by decide +kernel, by decide +kernel⟩
abbrev s_editions_passing : Stmt := topS 37
theorem sc_editions_passing : FnScope ["side", "first", "last", "editions", "held", "there", "edition"] ["side", "first", "last", "editions"] (defScope s_editions_passing) := ⟨rfl, rfl, rfl, by decide +kernel, rfl, by decide +kernel, by decide +kernel⟩
abbrev s_passed : Stmt := topS 38
theorem sc_passed : FnScope ["log", "side", "thing", "editions"] ["log", "side", "thing", "editions"] (defScope s_passed) := ⟨rfl, rfl, rfl, by decide +kernel, rfl, by decide +kernel, by decide +kernel⟩
abbrev s_law_hand : Stmt := topS 42
theorem sc_law_hand : FnScope ["_law_script", "_law_cells", "_law_cell"] ["_law_script"] (defScope s_law_hand) := ⟨rfl, rfl, rfl, by decide +kernel, rfl, by decide +kernel, by decide +kernel⟩
abbrev s_law_draw : Stmt := topS 43
theorem sc_law_draw : FnScope ["_law_hand_here", "_law_many", "_law_cell", "_law_digit", "_law_number"] ["_law_hand_here", "_law_many"] (defScope s_law_draw) := ⟨rfl, rfl, rfl, by decide +kernel, rfl, by decide +kernel, by decide +kernel⟩
abbrev s_law_is : Stmt := topS 44
theorem sc_law_is : FnScope ["_law_told", "_law_due", "_law_one", "_law_two"] ["_law_told", "_law_due"] (defScope s_law_is) := ⟨rfl, rfl, rfl, by decide +kernel, rfl, by decide +kernel, by decide +kernel⟩
abbrev s_law_some : Stmt := topS 45
theorem sc_law_some : FnScope ["_law_hand_here", "_law_things"] ["_law_hand_here", "_law_things"] (defScope s_law_some) := ⟨rfl, rfl, rfl, by decide +kernel, rfl, by decide +kernel, by decide +kernel⟩
abbrev s_law_row : Stmt := topS 46
theorem sc_law_row : FnScope ["_law_hand_here", "_law_offices_here", "_law_share", "_law_one", "_law_other"] ["_law_hand_here", "_law_offices_here", "_law_share"] (defScope s_law_row) := ⟨rfl, rfl, rfl, by decide +kernel, rfl, by decide +kernel, by decide +kernel⟩
abbrev s_law_rows : Stmt := topS 47
theorem sc_law_rows : FnScope ["_law_hand_here", "_law_offices_here", "_law_many", "_law_share", "_law_turn"] ["_law_hand_here", "_law_offices_here", "_law_many", "_law_share"] (defScope s_law_rows) := ⟨rfl, rfl, rfl, by decide +kernel, rfl, by decide +kernel, by decide +kernel⟩
abbrev s_law_led : Stmt := topS 48
theorem sc_law_led : FnScope ["_law_offices_here", "_law_rows_here", "_law_doing", "_law_now", "_law_flag", "_law_row_here"] ["_law_offices_here", "_law_rows_here", "_law_doing"] (defScope s_law_led) := ⟨rfl, rfl, rfl, by decide +kernel, rfl, by decide +kernel, by decide +kernel⟩
abbrev s_law_doings : Stmt := topS 49
theorem sc_law_doings : FnScope ["_law_rows_here", "_law_found", "_law_row_here", "_law_later", "_law_doing"] ["_law_rows_here"] (defScope s_law_doings) := ⟨rfl, rfl, rfl, by decide +kernel, rfl, by decide +kernel, by decide +kernel⟩
abbrev s_law_bars : Stmt := topS 50
theorem sc_law_bars : FnScope ["_law_side", "_law_row_here"] ["_law_side", "_law_row_here"] (defScope s_law_bars) := ⟨rfl, rfl, rfl, by decide +kernel, rfl, by decide +kernel, by decide +kernel⟩
abbrev s_law_passing : Stmt := topS 51
theorem sc_law_passing : FnScope ["_law_side", "_law_first", "_law_last", "_law_editions", "_law_some_here", "_law_one"] ["_law_side", "_law_first", "_law_last", "_law_editions"] (defScope s_law_passing) := ⟨rfl, rfl, rfl, by decide +kernel, rfl, by decide +kernel, by decide +kernel⟩
abbrev s_law_list : Stmt := topS 52
theorem sc_law_list : FnScope ["_law_hand_here", "_law_offices_here", "_law_rows_here", "_law_doing", "_law_found", "_law_share", "_law_office", "_law_turn", "_law_row_here"] ["_law_hand_here", "_law_offices_here", "_law_rows_here"] (defScope s_law_list) := ⟨rfl, rfl, rfl, by decide +kernel, rfl, by decide +kernel, by decide +kernel⟩
abbrev s_law_drawn_post : Stmt := topS 53
theorem sc_law_drawn_post : FnScope ["_law_hand_here", "_law_offices_here", "_law_rows_here", "_law_side", "_law_stands", "_law_here", "_law_first", "_law_row_here"] ["_law_hand_here", "_law_offices_here", "_law_rows_here", "_law_side"] (defScope s_law_drawn_post) := ⟨rfl, rfl, rfl, by decide +kernel, rfl, by decide +kernel, by decide +kernel⟩
abbrev s_law_offices : Stmt := topS 54
theorem sc_law_offices : FnScope ["_law_hand_here", "_law_most"] ["_law_hand_here", "_law_most"] (defScope s_law_offices) := ⟨rfl, rfl, rfl, by decide +kernel, rfl, by decide +kernel, by decide +kernel⟩
abbrev s_law : Stmt := topS 55
theorem sc_law : FnScope ["_law_script", "_law_hand_here", "_law_turn", "_law_offices_here", "_law_rows_here", "_law_log", "_law_finals", "_law_side", "_law_thing", "_law_cost", "_law_again", "_law_editions", "_law_due", "_law_doing", "_law_row_here"] ["_law_script"] (defScope s_law) := ⟨rfl, rfl, rfl, by decide +kernel, rfl, by decide +kernel, by decide +kernel⟩
/-- where the defs stand behind the top -/
structure Ad where
  f_is_integer : Addr
  d_is_integer : FuncData
  f_is_between : Addr
  d_is_between : FuncData
  f_is_number : Addr
  d_is_number : FuncData
  f_is_word : Addr
  d_is_word : FuncData
  f_is_tuple_of : Addr
  d_is_tuple_of : FuncData
  f_are_numbers : Addr
  d_are_numbers : FuncData
  f_is_side : Addr
  d_is_side : FuncData
  f_is_list : Addr
  d_is_list : FuncData
  f_is_copying : Addr
  d_is_copying : FuncData
  f_is_row : Addr
  d_is_row : FuncData
  f_wrong_part : Addr
  d_wrong_part : FuncData
  f_is_left : Addr
  d_is_left : FuncData
  f_cut_between : Addr
  d_cut_between : FuncData
  f_Log_init : Addr
  d_Log_init : FuncData
  f_check_side : Addr
  d_check_side : FuncData
  f_check_cut : Addr
  d_check_cut : FuncData
  f_check_list : Addr
  d_check_list : FuncData
  f_barred_cut : Addr
  d_barred_cut : FuncData
  f_walk_price : Addr
  d_walk_price : FuncData
  f_is_post : Addr
  d_is_post : FuncData
  f_check_post : Addr
  d_check_post : FuncData
  f_post_price : Addr
  d_post_price : FuncData
  f_cheapest_walks : Addr
  d_cheapest_walks : FuncData
  f_check_ends : Addr
  d_check_ends : FuncData
  f_post : Addr
  d_post : FuncData
  f_editions_passing : Addr
  d_editions_passing : FuncData
  f_passed : Addr
  d_passed : FuncData
  f_law_hand : Addr
  d_law_hand : FuncData
  f_law_draw : Addr
  d_law_draw : FuncData
  f_law_is : Addr
  d_law_is : FuncData
  f_law_some : Addr
  d_law_some : FuncData
  f_law_row : Addr
  d_law_row : FuncData
  f_law_rows : Addr
  d_law_rows : FuncData
  f_law_led : Addr
  d_law_led : FuncData
  f_law_doings : Addr
  d_law_doings : FuncData
  f_law_bars : Addr
  d_law_bars : FuncData
  f_law_passing : Addr
  d_law_passing : FuncData
  f_law_list : Addr
  d_law_list : FuncData
  f_law_drawn_post : Addr
  d_law_drawn_post : FuncData
  f_law_offices : Addr
  d_law_offices : FuncData
  f_law : Addr
  d_law : FuncData
  c_Log : Addr
/-- what the top has left -/
structure Txt (K : PySem.W.Frag) (mg : Str → Option Value) (a : Ad) : Prop where
  F_is_integer : Fun K "is_integer" "is_integer" s_is_integer a.f_is_integer a.d_is_integer
  g_is_integer : mg "is_integer" = some (.ref a.f_is_integer)
  b_is_integer : Binds K a.d_is_integer ["thing"] []
  F_is_between : Fun K "is_between" "is_between" s_is_between a.f_is_between a.d_is_between
  g_is_between : mg "is_between" = some (.ref a.f_is_between)
  b_is_between : Binds K a.d_is_between ["thing", "least", "most"] []
  F_is_number : Fun K "is_number" "is_number" s_is_number a.f_is_number a.d_is_number
  g_is_number : mg "is_number" = some (.ref a.f_is_number)
  b_is_number : Binds K a.d_is_number ["thing", "many"] []
  F_is_word : Fun K "is_word" "is_word" s_is_word a.f_is_word a.d_is_word
  g_is_word : mg "is_word" = some (.ref a.f_is_word)
  b_is_word : Binds K a.d_is_word ["thing", "word"] []
  F_is_tuple_of : Fun K "is_tuple_of" "is_tuple_of" s_is_tuple_of a.f_is_tuple_of a.d_is_tuple_of
  g_is_tuple_of : mg "is_tuple_of" = some (.ref a.f_is_tuple_of)
  b_is_tuple_of : Binds K a.d_is_tuple_of ["thing", "many"] []
  F_are_numbers : Fun K "are_numbers" "are_numbers" s_are_numbers a.f_are_numbers a.d_are_numbers
  g_are_numbers : mg "are_numbers" = some (.ref a.f_are_numbers)
  b_are_numbers : Binds K a.d_are_numbers ["things", "many"] []
  F_is_side : Fun K "is_side" "is_side" s_is_side a.f_is_side a.d_is_side
  g_is_side : mg "is_side" = some (.ref a.f_is_side)
  b_is_side : Binds K a.d_is_side ["thing"] []
  F_is_list : Fun K "is_list" "is_list" s_is_list a.f_is_list a.d_is_list
  g_is_list : mg "is_list" = some (.ref a.f_is_list)
  b_is_list : Binds K a.d_is_list ["log", "thing"] []
  F_is_copying : Fun K "is_copying" "is_copying" s_is_copying a.f_is_copying a.d_is_copying
  g_is_copying : mg "is_copying" = some (.ref a.f_is_copying)
  b_is_copying : Binds K a.d_is_copying ["offices", "thing"] []
  F_is_row : Fun K "is_row" "is_row" s_is_row a.f_is_row a.d_is_row
  g_is_row : mg "is_row" = some (.ref a.f_is_row)
  b_is_row : Binds K a.d_is_row ["offices", "thing"] []
  F_wrong_part : Fun K "wrong_part" "wrong_part" s_wrong_part a.f_wrong_part a.d_wrong_part
  g_wrong_part : mg "wrong_part" = some (.ref a.f_wrong_part)
  b_wrong_part : Binds K a.d_wrong_part ["offices", "rows", "is_right"] []
  F_is_left : Fun K "is_left" "is_left" s_is_left a.f_is_left a.d_is_left
  g_is_left : mg "is_left" = some (.ref a.f_is_left)
  b_is_left : Binds K a.d_is_left ["row"] []
  F_cut_between : Fun K "cut_between" "cut_between" s_cut_between a.f_cut_between a.d_cut_between
  g_cut_between : mg "cut_between" = some (.ref a.f_cut_between)
  b_cut_between : Binds K a.d_cut_between ["row"] []
  F_Log_init : Fun K "__init__" "Log.__init__" s_Log_init a.f_Log_init a.d_Log_init
  b_Log_init : Binds K a.d_Log_init ["self", "offices", "rows"] []
  F_check_side : Fun K "check_side" "check_side" s_check_side a.f_check_side a.d_check_side
  g_check_side : mg "check_side" = some (.ref a.f_check_side)
  b_check_side : Binds K a.d_check_side ["side"] []
  F_check_cut : Fun K "check_cut" "check_cut" s_check_cut a.f_check_cut a.d_check_cut
  g_check_cut : mg "check_cut" = some (.ref a.f_check_cut)
  b_check_cut : Binds K a.d_check_cut ["offices", "cut"] []
  F_check_list : Fun K "check_list" "check_list" s_check_list a.f_check_list a.d_check_list
  g_check_list : mg "check_list" = some (.ref a.f_check_list)
  b_check_list : Binds K a.d_check_list ["log", "editions"] []
  F_barred_cut : Fun K "barred_cut" "barred_cut" s_barred_cut a.f_barred_cut a.d_barred_cut
  g_barred_cut : mg "barred_cut" = some (.ref a.f_barred_cut)
  b_barred_cut : Binds K a.d_barred_cut ["side", "row"] []
  F_walk_price : Fun K "walk_price" "walk_price" s_walk_price a.f_walk_price a.d_walk_price
  g_walk_price : mg "walk_price" = some (.ref a.f_walk_price)
  b_walk_price : Binds K a.d_walk_price ["side", "start", "end"] []
  F_is_post : Fun K "is_post" "is_post" s_is_post a.f_is_post a.d_is_post
  g_is_post : mg "is_post" = some (.ref a.f_is_post)
  b_is_post : Binds K a.d_is_post ["log", "side", "thing"] []
  F_check_post : Fun K "check_post" "check_post" s_check_post a.f_check_post a.d_check_post
  g_check_post : mg "check_post" = some (.ref a.f_check_post)
  b_check_post : Binds K a.d_check_post ["log", "side", "thing"] []
  F_post_price : Fun K "post_price" "post_price" s_post_price a.f_post_price a.d_post_price
  g_post_price : mg "post_price" = some (.ref a.f_post_price)
  b_post_price : Binds K a.d_post_price ["log", "side", "thing"] []
  F_cheapest_walks : Fun K "cheapest_walks" "cheapest_walks" s_cheapest_walks a.f_cheapest_walks a.d_cheapest_walks
  g_cheapest_walks : mg "cheapest_walks" = some (.ref a.f_cheapest_walks)
  b_cheapest_walks : Binds K a.d_cheapest_walks ["log", "side", "first"] []
  F_check_ends : Fun K "check_ends" "check_ends" s_check_ends a.f_check_ends a.d_check_ends
  g_check_ends : mg "check_ends" = some (.ref a.f_check_ends)
  b_check_ends : Binds K a.d_check_ends ["log", "side", "first", "last"] []
  F_post : Fun K "post" "post" s_post a.f_post a.d_post
  g_post : mg "post" = some (.ref a.f_post)
  b_post : Binds K a.d_post ["log", "side", "first", "last"] []
  F_editions_passing : Fun K "editions_passing" "editions_passing" s_editions_passing a.f_editions_passing a.d_editions_passing
  g_editions_passing : mg "editions_passing" = some (.ref a.f_editions_passing)
  b_editions_passing : Binds K a.d_editions_passing ["side", "first", "last", "editions"] []
  F_passed : Fun K "passed" "passed" s_passed a.f_passed a.d_passed
  g_passed : mg "passed" = some (.ref a.f_passed)
  b_passed : Binds K a.d_passed ["log", "side", "thing", "editions"] []
  F_law_hand : Fun K "_law_hand" "_law_hand" s_law_hand a.f_law_hand a.d_law_hand
  g_law_hand : mg "_law_hand" = some (.ref a.f_law_hand)
  b_law_hand : Binds K a.d_law_hand ["_law_script"] []
  F_law_draw : Fun K "_law_draw" "_law_draw" s_law_draw a.f_law_draw a.d_law_draw
  g_law_draw : mg "_law_draw" = some (.ref a.f_law_draw)
  b_law_draw : Binds K a.d_law_draw ["_law_hand_here", "_law_many"] []
  F_law_is : Fun K "_law_is" "_law_is" s_law_is a.f_law_is a.d_law_is
  g_law_is : mg "_law_is" = some (.ref a.f_law_is)
  b_law_is : Binds K a.d_law_is ["_law_told", "_law_due"] []
  F_law_some : Fun K "_law_some" "_law_some" s_law_some a.f_law_some a.d_law_some
  g_law_some : mg "_law_some" = some (.ref a.f_law_some)
  b_law_some : Binds K a.d_law_some ["_law_hand_here", "_law_things"] []
  F_law_row : Fun K "_law_row" "_law_row" s_law_row a.f_law_row a.d_law_row
  g_law_row : mg "_law_row" = some (.ref a.f_law_row)
  b_law_row : Binds K a.d_law_row ["_law_hand_here", "_law_offices_here", "_law_share"] []
  F_law_rows : Fun K "_law_rows" "_law_rows" s_law_rows a.f_law_rows a.d_law_rows
  g_law_rows : mg "_law_rows" = some (.ref a.f_law_rows)
  b_law_rows : Binds K a.d_law_rows ["_law_hand_here", "_law_offices_here", "_law_many", "_law_share"] []
  F_law_led : Fun K "_law_led" "_law_led" s_law_led a.f_law_led a.d_law_led
  g_law_led : mg "_law_led" = some (.ref a.f_law_led)
  b_law_led : Binds K a.d_law_led ["_law_offices_here", "_law_rows_here", "_law_doing"] []
  F_law_doings : Fun K "_law_doings" "_law_doings" s_law_doings a.f_law_doings a.d_law_doings
  g_law_doings : mg "_law_doings" = some (.ref a.f_law_doings)
  b_law_doings : Binds K a.d_law_doings ["_law_rows_here"] []
  F_law_bars : Fun K "_law_bars" "_law_bars" s_law_bars a.f_law_bars a.d_law_bars
  g_law_bars : mg "_law_bars" = some (.ref a.f_law_bars)
  b_law_bars : Binds K a.d_law_bars ["_law_side", "_law_row_here"] []
  F_law_passing : Fun K "_law_passing" "_law_passing" s_law_passing a.f_law_passing a.d_law_passing
  g_law_passing : mg "_law_passing" = some (.ref a.f_law_passing)
  b_law_passing : Binds K a.d_law_passing ["_law_side", "_law_first", "_law_last", "_law_editions"] []
  F_law_list : Fun K "_law_list" "_law_list" s_law_list a.f_law_list a.d_law_list
  g_law_list : mg "_law_list" = some (.ref a.f_law_list)
  b_law_list : Binds K a.d_law_list ["_law_hand_here", "_law_offices_here", "_law_rows_here"] []
  F_law_drawn_post : Fun K "_law_drawn_post" "_law_drawn_post" s_law_drawn_post a.f_law_drawn_post a.d_law_drawn_post
  g_law_drawn_post : mg "_law_drawn_post" = some (.ref a.f_law_drawn_post)
  b_law_drawn_post : Binds K a.d_law_drawn_post ["_law_hand_here", "_law_offices_here", "_law_rows_here", "_law_side"] []
  F_law_offices : Fun K "_law_offices" "_law_offices" s_law_offices a.f_law_offices a.d_law_offices
  g_law_offices : mg "_law_offices" = some (.ref a.f_law_offices)
  b_law_offices : Binds K a.d_law_offices ["_law_hand_here", "_law_most"] []
  F_law : Fun K "law" "law" s_law a.f_law a.d_law
  g_law : mg "law" = some (.ref a.f_law)
  b_law : Binds K a.d_law ["_law_script"] []
  gc_Log : mg "Log" = some (.ref a.c_Log)
  cl_Log : Cls K a.c_Log
  n_Log_offices : NoAttr K a.c_Log "offices"
  n_Log_rows : NoAttr K a.c_Log "rows"
  mk_Log : Mk K a.c_Log a.f_Log_init
  g_MOST_OFFICES : ∃ t, mg "MOST_OFFICES" = some (.int 12 t)
  g_MOST_ROWS : ∃ t, mg "MOST_ROWS" = some (.int 60 t)
  z_isinstance : mg "isinstance" = none
  z_int : mg "int" = none
  z_bool : mg "bool" = none
  z_tuple : mg "tuple" = none
  z_list : mg "list" = none
  z_len : mg "len" = none
  z_abs : mg "abs" = none
  z_all : mg "all" = none
  z_zip : mg "zip" = none
  z_range : mg "range" = none
  z_enumerate : mg "enumerate" = none
  z_max : mg "max" = none
  z_min : mg "min" = none
  z_sum : mg "sum" = none
  z_str : mg "str" = none
  z_set : mg "set" = none
  z_sorted : mg "sorted" = none
section
variable {P : Program} {w : World} {K : PySem.W.Frag} {mg : Str → Option Value} {base : Heap} {a : Ad}
/-! ### the drawn numbers, the other way -/
def sp_law_hand (K : PySem.W.Frag) : Sp := fun vs H Q _ => ∃ (s : Addr) (ns : List Int), vs = [.ref s] ∧ SqL K H s (ns.map V.int) ∧ ns.length ≤ 63 ∧ ∀ H' d c, Same H H' → H d = none → Dice d c H' → Q (.ref d) H'
theorem ok_law_hand (T : Txt K mg a) : FnOk P w K mg base CX0 1 a.f_law_hand a.d_law_hand ["_law_script"] (sp_law_hand K) := by
  refine T.F_law_hand.ok sc_law_hand (fun vs H Q E h => ?_) (fun cdv A outer s H vs Q E hr h => ?_)
  · obtain ⟨s, ns, rfl, _⟩ := h
    rfl
  · obtain ⟨s0, ns, rfl, hS, hlen, q⟩ := h
    refine ⟨_, (pss_cons (ps_setLc (i := 1) (own := [("_law_cell", 2)]) (g := (gName 2)) rfl sc_law_hand.nd rfl rfl (sw_true rfl rfl rfl (by decide +kernel)) (kiList K rfl (pe_slice (kSlL K rfl) (pv 0) po_none (po_some pe_int))) (blkOk_by (own := [("_law_cell", 2)]) (N := ["_law_script", "_law_cells", "_law_cell"]) (sc := defScope s_law_hand) (by decide +kernel)) (fun _ _ _ _ _ => (pg_name (i := 2) sc_law_hand.nd rfl (.inl rfl))) (fun _ _ _ _ _ => pts_nil) (fun _ _ _ _ _ => (pe_callB call_abs (by rfl) T.z_abs (by decide +kernel) (pa_cons (pe_callTy call_int1 (by rfl) T.z_int (by decide +kernel) (pa_cons (pv 2) pa_nil)) pa_nil))))
  (pss_one (ps_ret (pe_lst (pa_cons (pv 1) (pa_cons pe_int (pa_cons pe_int (pa_cons (pe_op op_add pe_int (pe_callB (kLen K rfl) (by rfl) T.z_len (by decide +kernel) (pa_cons (pv 1) pa_nil))) (pa_cons pe_int pa_nil))))))))), ?_⟩
    walk_at "go"
    refine ⟨s0, ns.map V.int, rfl, hS, fun p np => ?_⟩
    walk_at "go"
    refine ⟨p, rfl, ⟨_, SqL.new⟩, fun D nD => ?_⟩
    have npD : p ≠ D := fun e => by
      rw [← e, upd_same] at nD
      cases nD
    have nD0 : H D = none := by
      rw [upd_ne npD.symm] at nD
      exact nD
    have hcl : (cutV (ns.map V.int) none (some 63)).length ≤ 63 := by
      have := cutV_length (ns.map V.int) none (some 63)
      rw [List.length_map] at this
      omega
    refine lc_it (walk_list (K := K) (a := p) (xs := cutV (ns.map V.int) none (some 63))) (fun i H' => Same H H' ∧ H' p = some (.lst (cutV (ns.map V.int) none (some 63))) ∧ ∃ cs : List Int, H' D = some (.lst (cs.map V.int)) ∧ cs.length = i ∧ ∀ x ∈ cs, 0 ≤ x)
      ⟨Same.put (same_new np) nD0, ?_, [], upd_same, rfl, fun x hx => by cases hx⟩ (fun i H' _ h => SqL.at h.2.1) (fun i x H1 H2 hi h hy => ?_) (fun H' h => ?_)
    · rw [upd_ne npD, upd_same]
    · obtain ⟨sm, hp, cs, hD, hl, h0⟩ := h
      obtain ⟨rfl, hx⟩ := hy
      obtain ⟨z, rfl⟩ := cutV_int hx
      refine ⟨rfl, g_yes (iteT ?_)⟩
      refine ⟨.int z, rfl, .inl ⟨z, rfl, z, rfl, cs.map V.int, hD, ?_, Same.put sm nD0, ?_, cs ++ [if z < 0 then -z else z], ?_, ?_, ?_⟩⟩
      · rw [List.length_map, hl]
        exact small1000 (by omega)
      · rw [upd_ne npD]
        exact hp
      · rw [upd_same, List.map_append]
        rfl
      · rw [List.length_append, hl]
        rfl
      · intro x hx
        rcases List.mem_append.mp hx with hx | hx
        · exact h0 x hx
        · rw [List.mem_singleton.mp hx]
          split <;> omega
    · obtain ⟨sm, hp, cs, hD, hl, h0⟩ := h
      walk_at "go"
      refine ⟨_, _, rfl, .inl (SqL.at hD), ?_⟩
      walk_at "go"
      refine ⟨by show 5 ≤ sizeLine; decide, fun d nd => ?_⟩
      refine q _ d D (sm.trans (same_new nd)) ?_ ⟨cs, 0, 0, 1 + (cs.map V.int).length, 0, upd_same, ?_, ?_, h0, by decide, by decide, by omega, by rw [List.length_map]; omega, by decide⟩
      · exact sm.free nd
      · rw [upd_ne (ne_of_none hD nd)]
        exact hD
      · exact ne_of_none hD nd
def sp_law_draw : Sp := fun vs H Q _ => ∃ (d c : Addr) (n : Int), vs = [.ref d, .int n] ∧ Dice d c H ∧ 0 < n ∧ n ≤ 1000000000000 ∧ ∀ H' r, Fr d H H' → Dice d c H' → 0 ≤ r → r < n → Q (.int r) H'
theorem ok_law_draw (T : Txt K mg a) : FnOk P w K mg base CX0 1 a.f_law_draw a.d_law_draw ["_law_hand_here", "_law_many"] sp_law_draw := by
  refine T.F_law_draw.ok sc_law_draw (fun vs H Q E h => ?_) (fun cdv A outer s H vs Q E hr h => ?_)
  · obtain ⟨d, c, n, rfl, _⟩ := h
    rfl
  · obtain ⟨d, c, n, rfl, hD, n0, n1, q⟩ := h
    refine ⟨_, (pss_cons (ps_if (PW.pt (pw_and (pt_cmpR op_eq (pe_ix (kIxL K rfl) (pv 0) pe_int (fun _ _ => rfl)) pe_int (nomark _)) (pw_and1 (pt_cmpR op_lt (pe_ix (kIxL K rfl) (pv 0) pe_int (fun _ _ => rfl)) (pe_callB (kLen K rfl) (by rfl) T.z_len (by decide +kernel) (pa_cons (pe_ix (kIxL K rfl) (pv 0) pe_int (fun _ _ => rfl)) pa_nil)) (nomark _)))))
  (pss_cons (ps_set (i := 2) sc_law_draw.nd rfl (.inl rfl) (pe_ix (kIxL K rfl) (pe_ix (kIxL K rfl) (pv 0) pe_int (fun _ _ => rfl)) (pe_ix (kIxL K rfl) (pv 0) pe_int (fun _ _ => rfl)) (fun _ _ => rfl)))
  (pss_cons (ps_asg (pe_op op_add (pe_ix (kIxL K rfl) (pv 0) pe_int (fun _ _ => rfl)) pe_int) (pg_sub (pv 0) pe_int set_list))
  (pss_cons (ps_asg (pe_op op_mod (pe_callTy call_int1 (by rfl) T.z_int (by decide +kernel) (pa_cons (pe_op op_add (pe_op op_add (pe_op op_mul (pe_ix (kIxL K rfl) (pv 0) pe_int (fun _ _ => rfl)) pe_int) (pv 2)) pe_int) pa_nil)) pe_int) (pg_sub (pv 0) pe_int set_list))
  (pss_one (ps_if (pt_cmpR op_ge (pv 2) (pe_op op_pow pe_int pe_int) (nomark _))
  (pss_one (ps_asg (pv 2) (pg_sub (pv 0) pe_int set_list)))
  pss_nil)))))
  pss_nil)
  (pss_cons (ps_if (pt_cmpR op_gt (pe_ix (kIxL K rfl) (pv 0) pe_int (fun _ _ => rfl)) pe_int (nomark _))
  (pss_cons (ps_set (i := 3) sc_law_draw.nd rfl (.inl rfl) (pe_op op_mod (pe_callTy call_int1 (by rfl) T.z_int (by decide +kernel) (pa_cons (pe_ix (kIxL K rfl) (pv 0) pe_int (fun _ _ => rfl)) pa_nil)) (pv 1)))
  (pss_cons (ps_asg (pe_op op_fdivW (pe_ix (kIxL K rfl) (pv 0) pe_int (fun _ _ => rfl)) (pv 1)) (pg_sub (pv 0) pe_int set_list))
  (pss_one (ps_ret (pv 3)))))
  pss_nil)
  (pss_cons (ps_asg (pe_op op_add (pe_ix (kIxL K rfl) (pv 0) pe_int (fun _ _ => rfl)) pe_int) (pg_sub (pv 0) pe_int set_list))
  (pss_cons (ps_set (i := 4) sc_law_draw.nd rfl (.inl rfl) (pe_op op_mod (pe_callTy call_int1 (by rfl) T.z_int (by decide +kernel) (pa_cons (pe_op op_mul (pe_callTy call_int1 (by rfl) T.z_int (by decide +kernel) (pa_cons (pe_op op_add (pe_ix (kIxL K rfl) (pv 0) pe_int (fun _ _ => rfl)) (pe_op op_mul pe_int (pe_ix (kIxL K rfl) (pv 0) pe_int (fun _ _ => rfl)))) pa_nil)) pe_int) pa_nil)) pe_int))
  (pss_cons (ps_set (i := 4) sc_law_draw.nd rfl (.inl rfl) (pe_op op_mod (pe_callTy call_int1 (by rfl) T.z_int (by decide +kernel) (pa_cons (pe_op op_mul (pv 4) (pe_op op_add (pe_op op_fdiv (pv 4) pe_int) pe_int)) pa_nil)) pe_int))
  (pss_cons (ps_set (i := 4) sc_law_draw.nd rfl (.inl rfl) (pe_op op_mod (pe_callTy call_int1 (by rfl) T.z_int (by decide +kernel) (pa_cons (pe_op op_mul (pv 4) (pe_op op_add (pe_op op_fdiv (pv 4) pe_int) pe_int)) pa_nil)) pe_int))
  (pss_one (ps_ret (pe_op op_mod (pe_callTy call_int1 (by rfl) T.z_int (by decide +kernel) (pa_cons (pe_op op_fdiv (pv 4) pe_int) pa_nil)) (pv 1)))))))))), ?_⟩
    obtain ⟨cs, i, qq, s1, t, h1, h2, ncd, h0, hi, hq, hs, hs2, ht⟩ := hD
    refine seq_cut (fun σ' H' => ∃ y2 i' q' s', σ' = [some (.ref d), some (.int n), y2, none, none] ∧ H' d = some (.lst [.ref c, .int i', .int q', .int s', .int t]) ∧ H' c = some (.lst (cs.map V.int)) ∧ Fr d H H' ∧ 0 ≤ i' ∧ 0 ≤ q' ∧ 0 ≤ s' ∧ s' < 2147483648) ?rest ?first
    case first =>
      intro N hN
      walk_at "go"
      refine g_ixL (SqL.at h1) rfl ?_
      walk_at "go"
      refine g_ite (fun e0 => ?_) (fun e0 => ?_)
      · walk_at "go"
        refine g_ixL (SqL.at h1) rfl ?_
        walk_at "go"
        refine g_ixL (SqL.at h1) rfl ?_
        walk_at "go"
        refine ⟨_, _, rfl, .inl (SqL.at h2), ?_⟩
        walk_at "go"
        refine g_ite (fun e1 => ?_) (fun e1 => ?_)
        · obtain ⟨z, hz, _, ez⟩ := atI_int hi e1
          have z0 := h0 z hz
          walk_at "go"
          refine g_ixL (SqL.at h1) rfl ?_
          walk_at "go"
          refine g_ixL (SqL.at h1) rfl ?_
          walk_at "go"
          refine g_ixL (SqL.at h2) ez ?_
          walk_at "go"
          refine g_ixL (SqL.at h1) rfl ?_
          walk_at "go"
          refine g_setL h1 rfl ?_
          have h1' : upd H d (.lst [.ref c, .int (i + 1), .int qq, .int s1, .int t]) d = some (.lst [.ref c, .int (i + 1), .int qq, .int s1, .int t]) := upd_same
          have h2' : upd H d (.lst [.ref c, .int (i + 1), .int qq, .int s1, .int t]) c = some (.lst (cs.map V.int)) := by rw [upd_ne ncd]; exact h2
          walk_at "go"
          refine g_ixL (SqL.at h1') rfl ?_
          walk_at "go"
          refine g_rI (.inl ⟨by omega, by omega⟩) ?_
          walk_at "go"
          refine g_rI (by decide) ?_
          walk_at "go"
          refine g_setL h1' rfl ?_
          generalize hw : (s1 * 69621 + z + 11) % 2147483629 = w1
          have w0 : 0 ≤ w1 := by rw [← hw]; exact Int.emod_nonneg _ (by decide)
          have w2 : w1 < 2147483629 := by rw [← hw]; exact Int.emod_lt_of_pos _ (by decide)
          have h1'' : upd (upd H d (.lst [.ref c, .int (i + 1), .int qq, .int s1, .int t])) d (.lst [.ref c, .int (i + 1), .int qq, .int w1, .int t]) d = some (.lst [.ref c, .int (i + 1), .int qq, .int w1, .int t]) := upd_same
          have h2'' : upd (upd H d (.lst [.ref c, .int (i + 1), .int qq, .int s1, .int t])) d (.lst [.ref c, .int (i + 1), .int qq, .int w1, .int t]) c = some (.lst (cs.map V.int)) := by rw [upd_ne ncd]; exact h2'
          walk_at "go"
          refine g_rI ⟨by decide, by decide, by decide⟩ ?_
          walk_at "go"
          refine g_ite (fun e2 => ?_) (fun e2 => ?_)
          · walk_at "go"
            refine g_setL h1'' rfl ?_
            refine hN _ _ ⟨_, i + 1, z, w1, rfl, upd_same, by rw [upd_ne ncd]; exact h2'', (Fr.upd.trans Fr.upd).trans Fr.upd, by omega, z0, w0, by omega⟩
          · walk_at "go"
            exact hN _ _ ⟨_, i + 1, qq, w1, rfl, h1'', h2'', Fr.upd.trans Fr.upd, by omega, hq, w0, by omega⟩
        · walk_at "go"
          exact hN _ _ ⟨_, i, qq, s1, rfl, h1, h2, Fr.refl d H, hi, hq, hs, hs2⟩
      · walk_at "go"
        exact hN _ _ ⟨_, i, qq, s1, rfl, h1, h2, Fr.refl d H, hi, hq, hs, hs2⟩
    case rest =>
      rintro σ' H1 ⟨y2, i, qq, s1, rfl, h1, h2, fr, hi, hq, hs, hs2⟩
      walk_at "go"
      refine g_ixL (SqL.at h1) rfl ?_
      walk_at "go"
      refine g_ite (fun e0 => ?_) (fun e0 => ?_)
      · walk_at "go"
        refine g_ixL (SqL.at h1) rfl ?_
        walk_at "go"
        refine g_rI n0 ?_
        walk_at "go"
        refine g_ixL (SqL.at h1) rfl ?_
        walk_at "go"
        refine g_rI (wide_div n0 (b := 60) (by omega) (by decide) (by decide)) ?_
        walk_at "go"
        refine g_setL h1 rfl ?_
        walk_at "go"
        exact q _ _ (fr.trans Fr.upd) ⟨cs, i, _, s1, t, upd_same, by rw [upd_ne ncd]; exact h2, ncd, h0, hi, Int.ediv_nonneg hq (by omega), hs, hs2, ht⟩ (Int.emod_nonneg _ (by omega)) (Int.emod_lt_of_pos _ n0)
      · walk_at "go"
        refine g_ixL (SqL.at h1) rfl ?_
        walk_at "go"
        refine g_setL h1 rfl ?_
        have h1' : upd H1 d (.lst [.ref c, .int i, .int qq, .int s1, .int (t + 1)]) d = some (.lst [.ref c, .int i, .int qq, .int s1, .int (t + 1)]) := upd_same
        walk_at "go"
        refine g_ixL (SqL.at h1') rfl ?_
        walk_at "go"
        refine g_ixL (SqL.at h1') rfl ?_
        walk_at "go"
        refine g_rI (.inl ⟨by decide, by decide⟩) ?_
        walk_at "go"
        refine g_rI (.inr ⟨by decide, by decide⟩) ?_
        walk_at "go"
        refine g_rI (by decide) ?_
        generalize hw : ((s1 + 7919 * (t + 1)) * 48271) % 2147483647 = w1
        have w0 : 0 ≤ w1 := by rw [← hw]; exact Int.emod_nonneg _ (by decide)
        have w2 : w1 < 2147483647 := by rw [← hw]; exact Int.emod_lt_of_pos _ (by decide)
        walk_at "go"
        refine g_rI ⟨by decide, by decide⟩ ?_
        walk_at "go"
        refine g_rI (.inl ⟨by omega, by omega⟩) ?_
        walk_at "go"
        refine g_rI (by decide) ?_
        generalize hm : (w1 * (w1 / 1009 + 69621)) % 2147483647 = m1
        have m0 : 0 ≤ m1 := by rw [← hm]; exact Int.emod_nonneg _ (by decide)
        have m2 : m1 < 2147483647 := by rw [← hm]; exact Int.emod_lt_of_pos _ (by decide)
        walk_at "go"
        refine g_rI ⟨by decide, by decide⟩ ?_
        walk_at "go"
        refine g_rI (.inl ⟨by omega, by omega⟩) ?_
        walk_at "go"
        refine g_rI (by decide) ?_
        walk_at "go"
        refine g_rI ⟨by decide, by decide⟩ ?_
        walk_at "go"
        refine g_rI n0 ?_
        exact q _ _ (fr.trans Fr.upd) ⟨cs, i, qq, s1, t + 1, upd_same, by rw [upd_ne ncd]; exact h2, ncd, h0, hi, hq, hs, hs2, by omega⟩ (Int.emod_nonneg _ (by omega)) (Int.emod_lt_of_pos _ n0)

end

section
variable {P : Program} {w : World} {K : PySem.W.Frag} {mg : Str → Option Value} {base : Heap} {a : Ad}
/-! ### kinds -/
def sp_is_integer (K : PySem.W.Frag) : Sp := fun vs H Q _ => ∃ v b, vs = [v] ∧ IntK K H v b ∧ Q (.bl b) H
theorem ok_is_integer (T : Txt K mg a) : FnOk P w K mg base CX0 1 a.f_is_integer a.d_is_integer ["thing"] (sp_is_integer K) := by
  refine T.F_is_integer.ok sc_is_integer (fun vs H Q E h => ?_) (fun cdv A outer s H vs Q E hr h => ?_)
  · obtain ⟨v, b, rfl, _⟩ := h
    rfl
  · obtain ⟨v, b, rfl, ⟨t, b1, b2, ty, k1, k2, rfl⟩, q⟩ := h
    refine ⟨_, (pss_one (ps_ret (pe_and (pe_callB (kIsi K rfl) (by rfl) T.z_isinstance (by decide +kernel) (pa_cons (pv 0) (pa_cons (pe_bltn (v := .ty "int") (by rfl) T.z_int (by decide +kernel) rfl) pa_nil))) (pe_one (pe_not (pe_callB (kIsi K rfl) (by rfl) T.z_isinstance (by decide +kernel) (pa_cons (pv 0) (pa_cons (pe_bltn (v := .ty "bool") (by rfl) T.z_bool (by decide +kernel) rfl) pa_nil)))))))), ?_⟩
    walk_at "go"
    refine g_isi ty k1 ?_
    walk_at "go"
    cases b1 with
    | true =>
      walk_at "go"
      refine g_isi ty k2 ?_
      walk_at "go"
      exact q
    | false =>
      walk_at "go"
      exact q
def sp_is_between (K : PySem.W.Frag) : Sp := fun vs H Q _ => ∃ v lo hi, vs = [v, .int lo, .int hi] ∧ ((∃ i, v = .int i ∧ Q (.bl (decide (lo ≤ i ∧ i ≤ hi))) H) ∨ (IntK K H v false ∧ Q (.bl false) H))
theorem ok_is_between (T : Txt K mg a) : FnOk P w K mg base CX0 2 a.f_is_between a.d_is_between ["thing", "least", "most"] (sp_is_between K) := by
  refine T.F_is_between.ok sc_is_between (fun vs H Q E h => ?_) (fun cdv A outer s H vs Q E hr h => ?_)
  · obtain ⟨v, lo, hi, rfl, _⟩ := h
    rfl
  · obtain ⟨v, lo, hi, rfl, h⟩ := h
    refine ⟨_, (pss_one (ps_ret (pe_and (pe_call (ok_is_integer T) (hr.mono (by first | decide | omega)) (by rfl) T.g_is_integer T.F_is_integer.kp (T.b_is_integer) .nil pass0 (pa_cons (pv 0) pa_nil)) (pe_one (pe_chain op_le op_le (pv 1) (pv 0) (pv 2)))))), ?_⟩
    rcases h with ⟨i, rfl, q⟩ | ⟨k, q⟩
    · walk_at "go"
      refine ⟨_, _, rfl, IntK.int i, ?_⟩
      walk_at "go"
      refine g_ite (fun e1 => ?_) (fun e1 => ?_)
      · walk_at "go"
        rw [show decide (i ≤ hi) = decide (lo ≤ i ∧ i ≤ hi) from by simp [e1]]
        exact q
      · walk_at "go"
        rw [show false = decide (lo ≤ i ∧ i ≤ hi) from by simp [e1]]
        exact q
    · walk_at "go"
      refine ⟨_, _, rfl, k, ?_⟩
      walk_at "go"
      exact q
def sp_is_number (K : PySem.W.Frag) : Sp := fun vs H Q _ => ∃ v n, vs = [v, .int n] ∧ ((∃ i, v = .int i ∧ Q (.bl (decide (0 ≤ i ∧ i < n))) H) ∨ (IntK K H v false ∧ Q (.bl false) H))
theorem ok_is_number (T : Txt K mg a) : FnOk P w K mg base CX0 3 a.f_is_number a.d_is_number ["thing", "many"] (sp_is_number K) := by
  refine T.F_is_number.ok sc_is_number (fun vs H Q E h => ?_) (fun cdv A outer s H vs Q E hr h => ?_)
  · obtain ⟨v, n, rfl, _⟩ := h
    rfl
  · obtain ⟨v, n, rfl, h⟩ := h
    refine ⟨_, (pss_one (ps_ret (pe_call (ok_is_between T) (hr.mono (by first | decide | omega)) (by rfl) T.g_is_between T.F_is_between.kp (T.b_is_between) .nil pass0 (pa_cons (pv 0) (pa_cons pe_int (pa_cons (pe_op op_sub (pv 1) pe_int) pa_nil)))))), ?_⟩
    rcases h with ⟨i, rfl, q⟩ | ⟨k, q⟩
    · walk_at "go"
      refine ⟨_, _, _, rfl, .inl ⟨i, rfl, ?_⟩⟩
      rw [show decide (0 ≤ i ∧ i ≤ n - 1) = decide (0 ≤ i ∧ i < n) from by
        rw [Bool.eq_iff_iff, decide_eq_true_iff, decide_eq_true_iff]; omega]
      exact q
    · walk_at "go"
      exact ⟨_, _, _, rfl, .inr ⟨k, q⟩⟩

end

section
variable {P : Program} {w : World} {K : PySem.W.Frag} {mg : Str → Option Value} {base : Heap} {a : Ad}
theorem small100k {n : Nat} (h : n ≤ 100000) : n < sizeLine := Nat.lt_of_le_of_lt h (by decide)
def SqA (K : PySem.W.Frag) (H : Hp) (p : Addr) (xs : List V) : Prop := SqT K H p xs ∨ H p = some (.lst xs)
theorem numsT {K : PySem.W.Frag} {H : Hp} {p : Addr} {xs : List V} (h : SqT K H p xs) : SqA K H p xs := .inl h
def sp_are_numbers (K : PySem.W.Frag) : Sp := fun vs H Q _ => ∃ (p : Addr) (ns : List Int) (n : Int), vs = [.ref p, .int n] ∧ SqA K H p (ns.map V.int) ∧ ns.length ≤ 100000 ∧ ∀ H', Same H H' → Q (.bl (ns.all fun i => decide (0 ≤ i ∧ i < n))) H'
theorem ok_are_numbers (T : Txt K mg a) : FnOk P w K mg base CX0 4 a.f_are_numbers a.d_are_numbers ["things", "many"] (sp_are_numbers K) := by
  refine T.F_are_numbers.ok sc_are_numbers (fun vs H Q E h => ?_) (fun cdv A outer s H vs Q E hr h => ?_)
  · obtain ⟨p, ns, n, rfl, _⟩ := h
    rfl
  · obtain ⟨p, ns, n, rfl, hp, hl, q⟩ := h
    rcases hp with hp | hp
    · refine ⟨_, (pss_one (ps_ret (pe_callB (kAll K rfl rfl) (by rfl) T.z_all (by decide +kernel) (pa_cons (pe_lc (own := [("thing", 2)]) (g := (gName 2)) rfl sc_are_numbers.nd (kiTup K rfl (pv 0)) (blkOk_by (own := [("thing", 2)]) (N := ["things", "many", "thing"]) (sc := defScope s_are_numbers) (by decide +kernel)) (fun _ _ _ _ _ => (pg_name (i := 2) sc_are_numbers.nd rfl (.inl rfl))) (fun _ _ _ _ _ => pts_nil) (fun _ _ _ _ _ => (pe_call (ok_is_number T) (hr.mono (by first | decide | omega)) (by rfl) T.g_is_number T.F_is_number.kp (T.b_is_number) .nil pass0 (pa_cons (pv 2) (pa_cons (pv 1) pa_nil))))) pa_nil)))), ?_⟩
      walk_at "go"
      refine ⟨_, rfl, ⟨_, hp⟩, fun D nD => ?_⟩
      refine lc_same (H0 := H) (walk_tup (K := K) (a := p) (xs := ns.map V.int)) (fun i => ((ns.take i).map fun i => decide (0 ≤ i ∧ i < n)).map V.bl) rfl (fun i _ => ?_) (Same.refl H) nD nD (fun H' s => (Tx.of s).seq hp) (fun i x H1 H2 C Cn hi s hy hC hN => ?_) (fun H' s hD => ?_)
      · rw [List.length_map, List.length_map, List.length_take]
        exact small100k (by omega)
      · obtain ⟨rfl, hx⟩ := hy
        obtain ⟨z, hz, rfl⟩ := map_at hx
        refine ⟨rfl, ?_⟩
        walk_at "go"
        refine ⟨_, _, rfl, .inl ⟨z, rfl, hC _ _ (Same.refl _) ?_⟩⟩
        rw [take_snoc hz, List.map_append, List.map_append]
        rfl
      · walk_at "go"
        rw [List.length_map] at hD
        refine ⟨D, _, rfl, SqL.at hD, ?_⟩
        rw [List.take_length, List.all_map]
        exact q _ s
    · refine ⟨_, (pss_one (ps_ret (pe_callB (kAll K rfl rfl) (by rfl) T.z_all (by decide +kernel) (pa_cons (pe_lc (own := [("thing", 2)]) (g := (gName 2)) rfl sc_are_numbers.nd (kiList K rfl (pv 0)) (blkOk_by (own := [("thing", 2)]) (N := ["things", "many", "thing"]) (sc := defScope s_are_numbers) (by decide +kernel)) (fun _ _ _ _ _ => (pg_name (i := 2) sc_are_numbers.nd rfl (.inl rfl))) (fun _ _ _ _ _ => pts_nil) (fun _ _ _ _ _ => (pe_call (ok_is_number T) (hr.mono (by first | decide | omega)) (by rfl) T.g_is_number T.F_is_number.kp (T.b_is_number) .nil pass0 (pa_cons (pv 2) (pa_cons (pv 1) pa_nil))))) pa_nil)))), ?_⟩
      walk_at "go"
      refine ⟨_, rfl, ⟨_, SqL.at hp⟩, fun D nD => ?_⟩
      refine lc_same (H0 := H) (walk_list (K := K) (a := p) (xs := ns.map V.int)) (fun i => ((ns.take i).map fun i => decide (0 ≤ i ∧ i < n)).map V.bl) rfl (fun i _ => ?_) (Same.refl H) nD nD (fun H' s => SqL.at (s _ _ hp)) (fun i x H1 H2 C Cn hi s hy hC hN => ?_) (fun H' s hD => ?_)
      · rw [List.length_map, List.length_map, List.length_take]
        exact small100k (by omega)
      · obtain ⟨rfl, hx⟩ := hy
        obtain ⟨z, hz, rfl⟩ := map_at hx
        refine ⟨rfl, ?_⟩
        walk_at "go"
        refine ⟨_, _, rfl, .inl ⟨z, rfl, hC _ _ (Same.refl _) ?_⟩⟩
        rw [take_snoc hz, List.map_append, List.map_append]
        rfl
      · walk_at "go"
        rw [List.length_map] at hD
        refine ⟨D, _, rfl, SqL.at hD, ?_⟩
        rw [List.take_length, List.all_map]
        exact q _ s

end

section
variable {P : Program} {w : World} {K : PySem.W.Frag} {mg : Str → Option Value} {base : Heap} {a : Ad}
/-! ### alike -/
mutual
def dep : PyData → Nat
  | .tuple ds => depAll ds + 1
  | .list ds => depAll ds + 1
  | _ => 0
def depAll : List PyData → Nat
  | [] => 0
  | d :: ds => max (dep d) (depAll ds)
end
mutual
def sm : PyData → Bool
  | .tuple ds => decide (ds.length ≤ 1000000) && smAll ds
  | .list ds => decide (ds.length ≤ 1000000) && smAll ds
  | _ => true
def smAll : List PyData → Bool
  | [] => true
  | d :: ds => sm d && smAll ds
end
theorem dep_at : ∀ {ds : List PyData} {i : Nat} {d : PyData}, ds[i]? = some d → dep d ≤ depAll ds
  | [], _, _, h => by simp at h
  | e :: ds, 0, _, h => by
    cases h
    unfold depAll
    omega
  | e :: ds, i + 1, _, h => by
    have := dep_at (ds := ds) (i := i) (by simpa using h)
    unfold depAll
    omega
theorem sm_at : ∀ {ds : List PyData} {i : Nat} {d : PyData}, smAll ds = true → ds[i]? = some d → sm d = true
  | [], _, _, _, h => by simp at h
  | e :: ds, 0, _, s, h => by
    cases h
    unfold smAll at s
    rw [Bool.and_eq_true] at s
    exact s.1
  | e :: ds, i + 1, _, s, h => by
    unfold smAll at s
    rw [Bool.and_eq_true] at s
    exact sm_at (ds := ds) (i := i) s.2 (by simpa using h)
theorem DpAll.get {K : PySem.W.Frag} {H : Hp} {vs : List V} {ds : List PyData} {i : Nat} {v : V} (h : DpAll K H vs ds) (e : vs[i]? = some v) : ∃ d, ds[i]? = some d ∧ Dp K H v d := by
  have hl : i < ds.length := by rw [← DpAll.len h]; exact (List.getElem?_eq_some_iff.mp e).1
  exact ⟨_, List.getElem?_eq_getElem hl, DpAll.at h e (List.getElem?_eq_getElem hl)⟩
theorem g_isiT {K : PySem.W.Frag} {H : Hp} {Q : VK} {x : V} {p : Addr} {n m : String} {t : Value} {b b2 : Bool} (hp : H p = some (.tup [.ty n, .ty m])) (ty : TyX K H x t) (k : PySem.W.kitOne K t (.type n) = some b) (k2 : PySem.W.kitOne K t (.type m) = some b2) (q : Q (.bl (b || b2)) H) : rIsiT K [x, .ref p] H Q :=
  ⟨x, p, _, t, [.type n, .type m], _, rfl, hp, .cons (.ty n) (.cons (.ty m) .nil), ty, kitAny2 k k2, q⟩
/-- what tells that data are no tuple and no list -/
def leafD : PyData → Bool
  | .tuple _ => false
  | .list _ => false
  | .dict _ => false
  | _ => true
theorem leaf_kit {K : PySem.W.Frag} {d : PyData} (h : leafD d = true) : PySem.W.kitOne K (.type (tyD d)) (.type "tuple") = some false ∧ PySem.W.kitOne K (.type (tyD d)) (.type "list") = some false ∧ ∃ b, PySem.W.kitOne K (.type (tyD d)) (.type "bool") = some b := by
  cases d with
  | none => exact ⟨kit_ty (a := "NoneType") (by decide +kernel), kit_ty (a := "NoneType") (by decide +kernel), false, kit_ty (a := "NoneType") (by decide +kernel)⟩
  | bool z => exact ⟨kit_ty (a := "bool") (by decide +kernel), kit_ty (a := "bool") (by decide +kernel), true, kit_ty (a := "bool") (by decide +kernel)⟩
  | int z => exact ⟨kit_ty (a := "int") (by decide +kernel), kit_ty (a := "int") (by decide +kernel), false, kit_ty (a := "int") (by decide +kernel)⟩
  | str z => exact ⟨kit_ty (a := "str") (by decide +kernel), kit_ty (a := "str") (by decide +kernel), false, kit_ty (a := "str") (by decide +kernel)⟩
  | tuple z => cases h
  | list z => cases h
  | dict z => cases h
theorem all_rep (n : Nat) : (List.replicate n true).all id = true := by
  rw [List.all_eq_true]
  intro x hx
  exact (List.mem_replicate.mp hx).2
def sp_law_is (K : PySem.W.Frag) (n : Nat) : Sp := fun vs H Q _ => ∃ x y d, vs = [x, y] ∧ Dp K H x d ∧ Dp K H y d ∧ dep d ≤ n ∧ sm d = true ∧ ∀ H', Same H H' → Q (.bl true) H'
theorem ok_law_is0 (T : Txt K mg a) {k : Nat} : FnOk P w K mg base CX0 (k + 1) a.f_law_is a.d_law_is ["_law_told", "_law_due"] (fun vs H Q _ => ∃ x y d, vs = [x, y] ∧ Dp K H x d ∧ Dp K H y d ∧ leafD d = true ∧ ∀ H', Same H H' → Q (.bl true) H') := by
  refine T.F_law_is.ok sc_law_is (fun vs H Q E h => ?_) (fun cdv A outer s H vs Q E hr h => ?_)
  · obtain ⟨x, y, d, rfl, _⟩ := h
    rfl
  · obtain ⟨x, y, d, rfl, hx, hy, lf, q⟩ := h
    refine ⟨_, (pss_cons (ps_if (pt_val (pe_callB (kIsiT K rfl) (by rfl) T.z_isinstance (by decide +kernel) (pa_cons (pv 1) (pa_cons (pe_tup (pa_cons (pe_bltn (v := .ty "tuple") (by rfl) T.z_tuple (by decide +kernel) rfl) (pa_cons (pe_bltn (v := .ty "list") (by rfl) T.z_list (by decide +kernel) rfl) pa_nil))) pa_nil)))) pss_never pss_nil)
  (pss_one (ps_ret (pe_and (pe_cmpR op_eq (pe_callB (kIsi K rfl) (by rfl) T.z_isinstance (by decide +kernel) (pa_cons (pv 0) (pa_cons (pe_bltn (v := .ty "bool") (by rfl) T.z_bool (by decide +kernel) rfl) pa_nil))) (pe_callB (kIsi K rfl) (by rfl) T.z_isinstance (by decide +kernel) (pa_cons (pv 1) (pa_cons (pe_bltn (v := .ty "bool") (by rfl) T.z_bool (by decide +kernel) rfl) pa_nil))) (nomark _)) (pe_one (pe_cmpR op_eq (pv 0) (pv 1) (nomark _))))))), ?_⟩
    walk_at "go"
    refine ⟨by show 2 ≤ sizeLine; decide, fun p np => ?_⟩
    walk_at "go"
    have s1 : Same H (upd H p (.tup [.ty "tuple", .ty "list"])) := same_new np
    have hy1 := Dp.same s1 _ _ hy
    have hx1 := Dp.same s1 _ _ hx
    obtain ⟨k1, k2, b, kb⟩ := leaf_kit (K := K) lf
    refine g_isiT upd_same (Dp.ty hy1) k1 k2 ?_
    · walk_at "go"
      refine g_isi (Dp.ty hx1) kb ?_
      walk_at "go"
      refine g_isi (Dp.ty hy1) kb ?_
      walk_at "go"
      rw [show (b == b) = true from by cases b <;> rfl]
      walk_at "go"
      have : x = y ∧ scal x y = true := by
        cases hx <;> cases hy <;> first | exact ⟨rfl, rfl⟩ | cases lf
      obtain ⟨rfl, sc⟩ := this
      refine ⟨sc, ?_⟩
      rw [decide_eq_true rfl]
      exact q _ s1
theorem ok_law_is_tuple (T : Txt K mg a) {n : Nat} (G : FnOk P w K mg base CX0 (n + 1) a.f_law_is a.d_law_is ["_law_told", "_law_due"] (sp_law_is K n)) : FnOk P w K mg base CX0 (n + 2) a.f_law_is a.d_law_is ["_law_told", "_law_due"] (fun vs H Q _ => ∃ x y ds, vs = [x, y] ∧ Dp K H x (.tuple ds) ∧ Dp K H y (.tuple ds) ∧ dep (.tuple ds) ≤ n + 1 ∧ sm (.tuple ds) = true ∧ ∀ H', Same H H' → Q (.bl true) H') := by
  refine T.F_law_is.ok sc_law_is (fun vs H Q E h => ?_) (fun cdv A outer s H vs Q E hr h => ?_)
  · obtain ⟨x, y, d, rfl, _⟩ := h
    rfl
  · obtain ⟨x, y, ds, rfl, hx, hy, hd, hsm, q⟩ := h
    refine ⟨_, (pss_cons (ps_if (pt_val (pe_callB (kIsiT K rfl) (by rfl) T.z_isinstance (by decide +kernel) (pa_cons (pv 1) (pa_cons (pe_tup (pa_cons (pe_bltn (v := .ty "tuple") (by rfl) T.z_tuple (by decide +kernel) rfl) (pa_cons (pe_bltn (v := .ty "list") (by rfl) T.z_list (by decide +kernel) rfl) pa_nil))) pa_nil))))
  (pss_cons (ps_if (PW.pt (pw_or (pt_cmpR op_ne (pe_callB (kIsi K rfl) (by rfl) T.z_isinstance (by decide +kernel) (pa_cons (pv 0) (pa_cons (pe_bltn (v := .ty "tuple") (by rfl) T.z_tuple (by decide +kernel) rfl) pa_nil))) (pe_callB (kIsi K rfl) (by rfl) T.z_isinstance (by decide +kernel) (pa_cons (pv 1) (pa_cons (pe_bltn (v := .ty "tuple") (by rfl) T.z_tuple (by decide +kernel) rfl) pa_nil))) (nomark _)) (pw_or1 (pt_not (pt_val (pe_callB (kIsiT K rfl) (by rfl) T.z_isinstance (by decide +kernel) (pa_cons (pv 0) (pa_cons (pe_tup (pa_cons (pe_bltn (v := .ty "tuple") (by rfl) T.z_tuple (by decide +kernel) rfl) (pa_cons (pe_bltn (v := .ty "list") (by rfl) T.z_list (by decide +kernel) rfl) pa_nil))) pa_nil))))))))
  (pss_one (ps_ret pe_bl))
  pss_nil)
  (pss_one (ps_ret (pe_and (pe_cmpR op_eq (pe_callB (kLen K rfl) (by rfl) T.z_len (by decide +kernel) (pa_cons (pv 0) pa_nil)) (pe_callB (kLen K rfl) (by rfl) T.z_len (by decide +kernel) (pa_cons (pv 1) pa_nil)) (nomark _)) (pe_one (pe_callB (kAll K rfl rfl) (by rfl) T.z_all (by decide +kernel) (pa_cons (pe_lc (own := [("_law_one", 2), ("_law_two", 3)]) (g := (gTup K 2 (gCons (gName 2) (gCons (gName 3) gNil)))) rfl sc_law_is.nd (kiZip K rfl (by rfl) T.z_zip (pa_cons (pv 0) (pa_cons (pv 1) pa_nil))) (blkOk_by (own := [("_law_one", 2), ("_law_two", 3)]) (N := ["_law_told", "_law_due", "_law_one", "_law_two"]) (sc := defScope s_law_is) (by decide +kernel)) (fun _ _ _ _ _ => (kgTup K rfl rfl (pgs_cons (pg_name (i := 2) sc_law_is.nd rfl (.inl rfl)) (pgs_cons (pg_name (i := 3) sc_law_is.nd rfl (.inl rfl)) pgs_nil)))) (fun _ _ _ _ _ => pts_nil) (fun _ _ _ _ _ => (pe_call G (hr.mono (by first | decide | omega)) (by rfl) T.g_law_is T.F_law_is.kp (T.b_law_is) .nil pass0 (pa_cons (pv 2) (pa_cons (pv 3) pa_nil))))) pa_nil)))))))
  pss_nil)
  (pss_one (ps_ret (pe_and (pe_cmpR op_eq (pe_callB (kIsi K rfl) (by rfl) T.z_isinstance (by decide +kernel) (pa_cons (pv 0) (pa_cons (pe_bltn (v := .ty "bool") (by rfl) T.z_bool (by decide +kernel) rfl) pa_nil))) (pe_callB (kIsi K rfl) (by rfl) T.z_isinstance (by decide +kernel) (pa_cons (pv 1) (pa_cons (pe_bltn (v := .ty "bool") (by rfl) T.z_bool (by decide +kernel) rfl) pa_nil))) (nomark _)) (pe_one (pe_cmpR op_eq (pv 0) (pv 1) (nomark _))))))), ?_⟩
    walk_at "go"
    refine ⟨by show 2 ≤ sizeLine; decide, fun p np => ?_⟩
    walk_at "go"
    have s1 : Same H (upd H p (.tup [.ty "tuple", .ty "list"])) := same_new np
    have hy1 := Dp.same s1 _ _ hy
    have hx1 := Dp.same s1 _ _ hx
    refine g_isiT (b := true) (b2 := false) upd_same (Dp.ty hy1) (kit_ty (a := "tuple") (by decide +kernel)) (kit_ty (a := "tuple") (by decide +kernel)) ?_
    walk_at "go"
    refine g_isi (b := true) (Dp.ty hx1) (kit_ty (a := "tuple") (b := "tuple") (by decide +kernel)) ?_
    walk_at "go"
    refine g_isi (b := true) (Dp.ty hy1) (kit_ty (a := "tuple") (b := "tuple") (by decide +kernel)) ?_
    walk_at "go"
    rw [show (true == true) = true from rfl]
    walk_at "go"
    refine ⟨by show 2 ≤ sizeLine; decide, fun p2 np2 => ?_⟩
    walk_at "go"
    have s2 := s1.trans (same_new (o := .tup [.ty "tuple", .ty "list"]) np2)
    have hy2 := Dp.same s2 _ _ hy
    have hx2 := Dp.same s2 _ _ hx
    refine g_isiT (b := true) (b2 := false) upd_same (Dp.ty hx2) (kit_ty (a := "tuple") (by decide +kernel)) (kit_ty (a := "tuple") (by decide +kernel)) ?_
    walk_at "go"
    cases hx2 with
    | tup qx rx =>
    cases hy2 with
    | tup qy ry =>
      refine ⟨_, _, rfl, .inr qx, ?_⟩
      walk_at "go"
      refine ⟨_, _, rfl, .inr qy, ?_⟩
      walk_at "go"
      rw [DpAll.len rx, DpAll.len ry, decide_eq_true rfl]
      walk_at "go"
      refine ⟨_, _, _, _, rfl, .inr ⟨qx, qy, fun D nD => ?_⟩⟩
      have hlen : ds.length ≤ 1000000 := by
        unfold sm at hsm
        rw [Bool.and_eq_true] at hsm
        exact of_decide_eq_true hsm.1
      have hall : smAll ds = true := by
        unfold sm at hsm
        rw [Bool.and_eq_true] at hsm
        exact hsm.2
      have hda : depAll ds ≤ n := by
        unfold dep at hd
        omega
      refine lc_same (H0 := upd (upd H p (.tup [.ty "tuple", .ty "list"])) p2 (.tup [.ty "tuple", .ty "list"])) (walk_zipT (K := K) (n := ds.length) (by rw [DpAll.len rx, DpAll.len ry, Nat.min_self])) (fun i => (List.replicate i true).map V.bl) rfl (fun i hi => ?_) (Same.refl _) nD nD (fun H' s' => ⟨(Tx.of s').seq qx, (Tx.of s').seq qy⟩) (fun i x' H2 H3 C Cn hi s3 hy' hC hN => ?_) (fun H' s3 hD => ?_)
      · rw [List.length_map, List.length_replicate]
        exact Nat.lt_of_le_of_lt (show i ≤ 1000000 by omega) (by decide)
      · obtain ⟨Tp, x1, y1, rfl, nT, rfl, e1, e2⟩ := hy'
        obtain ⟨d1, g1, r1⟩ := DpAll.get rx e1
        obtain ⟨d2, g2, r2⟩ := DpAll.get ry e2
        have ed : d2 = d1 := Option.some.inj (g2.symm.trans g1)
        subst ed
        have sT : Same _ (upd H2 Tp (.tup [x1, y1])) := s3.trans (same_new nT)
        refine ⟨Tp, _, rfl, SqT.new, rfl, _, _, rfl, _, _, rfl, rfl, rfl, ?_⟩
        walk_at "go"
        refine ⟨x1, y1, d2, rfl, Dp.same sT _ _ r1, Dp.same sT _ _ r2, Nat.le_trans (dep_at g1) hda, sm_at hall g1, fun H4 s4 => hC _ _ ((same_new nT).trans s4) ?_⟩
        rw [List.replicate_succ', List.map_append]
        rfl
      · walk_at "go"
        refine ⟨D, _, rfl, SqL.at hD, ?_⟩
        rw [all_rep]
        exact q _ (s2.trans s3)
theorem ok_law_is_list (T : Txt K mg a) {n : Nat} (G : FnOk P w K mg base CX0 (n + 1) a.f_law_is a.d_law_is ["_law_told", "_law_due"] (sp_law_is K n)) : FnOk P w K mg base CX0 (n + 2) a.f_law_is a.d_law_is ["_law_told", "_law_due"] (fun vs H Q _ => ∃ x y ds, vs = [x, y] ∧ Dp K H x (.list ds) ∧ Dp K H y (.list ds) ∧ dep (.list ds) ≤ n + 1 ∧ sm (.list ds) = true ∧ ∀ H', Same H H' → Q (.bl true) H') := by
  refine T.F_law_is.ok sc_law_is (fun vs H Q E h => ?_) (fun cdv A outer s H vs Q E hr h => ?_)
  · obtain ⟨x, y, d, rfl, _⟩ := h
    rfl
  · obtain ⟨x, y, ds, rfl, hx, hy, hd, hsm, q⟩ := h
    refine ⟨_, (pss_cons (ps_if (pt_val (pe_callB (kIsiT K rfl) (by rfl) T.z_isinstance (by decide +kernel) (pa_cons (pv 1) (pa_cons (pe_tup (pa_cons (pe_bltn (v := .ty "tuple") (by rfl) T.z_tuple (by decide +kernel) rfl) (pa_cons (pe_bltn (v := .ty "list") (by rfl) T.z_list (by decide +kernel) rfl) pa_nil))) pa_nil))))
  (pss_cons (ps_if (PW.pt (pw_or (pt_cmpR op_ne (pe_callB (kIsi K rfl) (by rfl) T.z_isinstance (by decide +kernel) (pa_cons (pv 0) (pa_cons (pe_bltn (v := .ty "tuple") (by rfl) T.z_tuple (by decide +kernel) rfl) pa_nil))) (pe_callB (kIsi K rfl) (by rfl) T.z_isinstance (by decide +kernel) (pa_cons (pv 1) (pa_cons (pe_bltn (v := .ty "tuple") (by rfl) T.z_tuple (by decide +kernel) rfl) pa_nil))) (nomark _)) (pw_or1 (pt_not (pt_val (pe_callB (kIsiT K rfl) (by rfl) T.z_isinstance (by decide +kernel) (pa_cons (pv 0) (pa_cons (pe_tup (pa_cons (pe_bltn (v := .ty "tuple") (by rfl) T.z_tuple (by decide +kernel) rfl) (pa_cons (pe_bltn (v := .ty "list") (by rfl) T.z_list (by decide +kernel) rfl) pa_nil))) pa_nil))))))))
  (pss_one (ps_ret pe_bl))
  pss_nil)
  (pss_one (ps_ret (pe_and (pe_cmpR op_eq (pe_callB (kLen K rfl) (by rfl) T.z_len (by decide +kernel) (pa_cons (pv 0) pa_nil)) (pe_callB (kLen K rfl) (by rfl) T.z_len (by decide +kernel) (pa_cons (pv 1) pa_nil)) (nomark _)) (pe_one (pe_callB (kAll K rfl rfl) (by rfl) T.z_all (by decide +kernel) (pa_cons (pe_lc (own := [("_law_one", 2), ("_law_two", 3)]) (g := (gTup K 2 (gCons (gName 2) (gCons (gName 3) gNil)))) rfl sc_law_is.nd (kiZip K rfl (by rfl) T.z_zip (pa_cons (pv 0) (pa_cons (pv 1) pa_nil))) (blkOk_by (own := [("_law_one", 2), ("_law_two", 3)]) (N := ["_law_told", "_law_due", "_law_one", "_law_two"]) (sc := defScope s_law_is) (by decide +kernel)) (fun _ _ _ _ _ => (kgTup K rfl rfl (pgs_cons (pg_name (i := 2) sc_law_is.nd rfl (.inl rfl)) (pgs_cons (pg_name (i := 3) sc_law_is.nd rfl (.inl rfl)) pgs_nil)))) (fun _ _ _ _ _ => pts_nil) (fun _ _ _ _ _ => (pe_call G (hr.mono (by first | decide | omega)) (by rfl) T.g_law_is T.F_law_is.kp (T.b_law_is) .nil pass0 (pa_cons (pv 2) (pa_cons (pv 3) pa_nil))))) pa_nil)))))))
  pss_nil)
  (pss_one (ps_ret (pe_and (pe_cmpR op_eq (pe_callB (kIsi K rfl) (by rfl) T.z_isinstance (by decide +kernel) (pa_cons (pv 0) (pa_cons (pe_bltn (v := .ty "bool") (by rfl) T.z_bool (by decide +kernel) rfl) pa_nil))) (pe_callB (kIsi K rfl) (by rfl) T.z_isinstance (by decide +kernel) (pa_cons (pv 1) (pa_cons (pe_bltn (v := .ty "bool") (by rfl) T.z_bool (by decide +kernel) rfl) pa_nil))) (nomark _)) (pe_one (pe_cmpR op_eq (pv 0) (pv 1) (nomark _))))))), ?_⟩
    walk_at "go"
    refine ⟨by show 2 ≤ sizeLine; decide, fun p np => ?_⟩
    walk_at "go"
    have s1 : Same H (upd H p (.tup [.ty "tuple", .ty "list"])) := same_new np
    have hy1 := Dp.same s1 _ _ hy
    have hx1 := Dp.same s1 _ _ hx
    refine g_isiT (b := false) (b2 := true) upd_same (Dp.ty hy1) (kit_ty (a := "list") (by decide +kernel)) (kit_ty (a := "list") (by decide +kernel)) ?_
    walk_at "go"
    refine g_isi (b := false) (Dp.ty hx1) (kit_ty (a := "list") (b := "tuple") (by decide +kernel)) ?_
    walk_at "go"
    refine g_isi (b := false) (Dp.ty hy1) (kit_ty (a := "list") (b := "tuple") (by decide +kernel)) ?_
    walk_at "go"
    rw [show (false == false) = true from rfl]
    walk_at "go"
    refine ⟨by show 2 ≤ sizeLine; decide, fun p2 np2 => ?_⟩
    walk_at "go"
    have s2 := s1.trans (same_new (o := .tup [.ty "tuple", .ty "list"]) np2)
    have hy2 := Dp.same s2 _ _ hy
    have hx2 := Dp.same s2 _ _ hx
    refine g_isiT (b := false) (b2 := true) upd_same (Dp.ty hx2) (kit_ty (a := "list") (by decide +kernel)) (kit_ty (a := "list") (by decide +kernel)) ?_
    walk_at "go"
    cases hx2 with
    | lst qx rx =>
    cases hy2 with
    | lst qy ry =>
      refine ⟨_, _, rfl, .inl qx, ?_⟩
      walk_at "go"
      refine ⟨_, _, rfl, .inl qy, ?_⟩
      walk_at "go"
      rw [DpAll.len rx, DpAll.len ry, decide_eq_true rfl]
      walk_at "go"
      refine ⟨_, _, _, _, rfl, .inl ⟨qx, qy, fun D nD => ?_⟩⟩
      have hlen : ds.length ≤ 1000000 := by
        unfold sm at hsm
        rw [Bool.and_eq_true] at hsm
        exact of_decide_eq_true hsm.1
      have hall : smAll ds = true := by
        unfold sm at hsm
        rw [Bool.and_eq_true] at hsm
        exact hsm.2
      have hda : depAll ds ≤ n := by
        unfold dep at hd
        omega
      refine lc_same (H0 := upd (upd H p (.tup [.ty "tuple", .ty "list"])) p2 (.tup [.ty "tuple", .ty "list"])) (walk_zip (K := K) (n := ds.length) (by rw [DpAll.len rx, DpAll.len ry, Nat.min_self])) (fun i => (List.replicate i true).map V.bl) rfl (fun i hi => ?_) (Same.refl _) nD nD (fun H' s' => ⟨s'.seq qx, s'.seq qy⟩) (fun i x' H2 H3 C Cn hi s3 hy' hC hN => ?_) (fun H' s3 hD => ?_)
      · rw [List.length_map, List.length_replicate]
        exact Nat.lt_of_le_of_lt (show i ≤ 1000000 by omega) (by decide)
      · obtain ⟨Tp, x1, y1, rfl, nT, rfl, e1, e2⟩ := hy'
        obtain ⟨d1, g1, r1⟩ := DpAll.get rx e1
        obtain ⟨d2, g2, r2⟩ := DpAll.get ry e2
        have ed : d2 = d1 := Option.some.inj (g2.symm.trans g1)
        subst ed
        have sT : Same _ (upd H2 Tp (.tup [x1, y1])) := s3.trans (same_new nT)
        refine ⟨Tp, _, rfl, SqT.new, rfl, _, _, rfl, _, _, rfl, rfl, rfl, ?_⟩
        walk_at "go"
        refine ⟨x1, y1, d2, rfl, Dp.same sT _ _ r1, Dp.same sT _ _ r2, Nat.le_trans (dep_at g1) hda, sm_at hall g1, fun H4 s4 => hC _ _ ((same_new nT).trans s4) ?_⟩
        rw [List.replicate_succ', List.map_append]
        rfl
      · walk_at "go"
        refine ⟨D, _, rfl, SqL.at hD, ?_⟩
        rw [all_rep]
        exact q _ (s2.trans s3)
theorem FnOk.cases3 {k : Nat} {f : Addr} {fd : FuncData} {ps : List Str} {sp sp1 sp2 sp3 : Sp} (F1 : FnOk P w K mg base CX0 k f fd ps sp1) (F2 : FnOk P w K mg base CX0 k f fd ps sp2) (F3 : FnOk P w K mg base CX0 k f fd ps sp3) (h : ∀ vs H Q E, sp vs H Q E → sp1 vs H Q E ∨ sp2 vs H Q E ∨ sp3 vs H Q E) : FnOk P w K mg base CX0 k f fd ps sp where
  len := fun vs H Q E q => by
    rcases h vs H Q E q with q | q | q
    · exact F1.len vs H Q E q
    · exact F2.len vs H Q E q
    · exact F3.len vs H Q E q
  run := fun A outer s H args us vs Q E hr e b r q => by
    rcases h vs H Q E q with q | q | q
    · exact F1.run A outer s H args us vs Q E hr e b r q
    · exact F2.run A outer s H args us vs Q E hr e b r q
    · exact F3.run A outer s H args us vs Q E hr e b r q
theorem ok_law_is (T : Txt K mg a) : ∀ n : Nat, FnOk P w K mg base CX0 (n + 1) a.f_law_is a.d_law_is ["_law_told", "_law_due"] (sp_law_is K n)
  | 0 => FnOk.imp (ok_law_is0 T) fun vs H Q E ⟨x, y, d, e, hx, hy, hd, hs, q⟩ => ⟨x, y, d, e, hx, hy, by
      cases hx <;> first | rfl | (unfold dep at hd; omega), q⟩
  | n + 1 => FnOk.cases3 (ok_law_is0 T) (ok_law_is_tuple T (ok_law_is T n)) (ok_law_is_list T (ok_law_is T n)) fun vs H Q E ⟨x, y, d, e, hx, hy, hd, hs, q⟩ => by
      cases hx with
      | non => exact .inl ⟨_, y, _, e, .non, hy, rfl, q⟩
      | bl b => exact .inl ⟨_, y, _, e, .bl b, hy, rfl, q⟩
      | int b => exact .inl ⟨_, y, _, e, .int b, hy, rfl, q⟩
      | str b => exact .inl ⟨_, y, _, e, .str b, hy, rfl, q⟩
      | tup a b => exact .inr (.inl ⟨_, y, _, e, .tup a b, hy, hd, hs, q⟩)
      | lst a b => exact .inr (.inr ⟨_, y, _, e, .lst a b, hy, hd, hs, q⟩)

end

section
variable {P : Program} {w : World} {K : PySem.W.Frag} {mg : Str → Option Value} {base : Heap} {a : Ad}
theorem dep_ints : ∀ ns : List Int, depAll (ns.map PyData.int) = 0
  | [] => rfl
  | _ :: r => by
    show max (dep (.int _)) (depAll (r.map PyData.int)) = 0
    rw [dep_ints r]
    rfl
theorem sm_ints : ∀ ns : List Int, smAll (ns.map PyData.int) = true
  | [] => rfl
  | _ :: r => by
    show (sm (.int _) && smAll (r.map PyData.int)) = true
    rw [sm_ints r]
    rfl
theorem dep_tupI (ns : List Int) : dep (tupI ns) ≤ 1 := by
  show depAll (ns.map PyData.int) + 1 ≤ 1
  rw [dep_ints]
  omega
theorem sm_tupI {ns : List Int} (h : ns.length ≤ 1000000) : sm (tupI ns) = true := by
  show (decide ((ns.map PyData.int).length ≤ 1000000) && smAll (ns.map PyData.int)) = true
  rw [sm_ints, List.length_map, decide_eq_true h]
  rfl

end

section
variable {P : Program} {w : World} {K : PySem.W.Frag} {mg : Str → Option Value} {base : Heap} {a : Ad}
/-! ### rows, logs -/
def sp_is_tuple_of (K : PySem.W.Frag) : Sp := fun vs H Q _ => ∃ v n, vs = [v, .int n] ∧ ((∃ p xs, v = .ref p ∧ SqT K H p xs ∧ Q (.bl (decide ((xs.length : Int) = n))) H) ∨ (∃ t, TyX K H v t ∧ PySem.W.kitOne K t (.type "tuple") = some false ∧ Q (.bl false) H))
theorem TyX.tup {K : PySem.W.Frag} {H : Hp} {p : Addr} {xs : List V} (h : SqT K H p xs) : TyX K H (.ref p) (.type "tuple") := by
  rcases h with (q | ⟨o, q⟩) | ⟨o, its, n, e, c, _⟩
  · exact .base (.tup q)
  · exact .fTuple q
  · exact .kTuple e c
theorem ok_is_tuple_of (T : Txt K mg a) : FnOk P w K mg base CX0 1 a.f_is_tuple_of a.d_is_tuple_of ["thing", "many"] (sp_is_tuple_of K) := by
  refine T.F_is_tuple_of.ok sc_is_tuple_of (fun vs H Q E h => ?_) (fun cdv A outer s H vs Q E hr h => ?_)
  · obtain ⟨v, n, rfl, _⟩ := h
    rfl
  · obtain ⟨v, n, rfl, h⟩ := h
    refine ⟨_, (pss_one (ps_ret (pe_and (pe_callB (kIsi K rfl) (by rfl) T.z_isinstance (by decide +kernel) (pa_cons (pv 0) (pa_cons (pe_bltn (v := .ty "tuple") (by rfl) T.z_tuple (by decide +kernel) rfl) pa_nil))) (pe_one (pe_cmpR op_eq (pe_callB (kLen K rfl) (by rfl) T.z_len (by decide +kernel) (pa_cons (pv 0) pa_nil)) (pv 1) (nomark _)))))), ?_⟩
    rcases h with ⟨p, xs, rfl, hp, q⟩ | ⟨t, ty, k, q⟩
    · walk_at "go"
      refine g_isi (TyX.tup hp) (b := true) (kit_ty (a := "tuple") (by decide +kernel)) ?_
      walk_at "go"
      refine ⟨_, _, rfl, .inr hp, ?_⟩
      walk_at "go"
      exact q
    · walk_at "go"
      refine g_isi ty k ?_
      walk_at "go"
      exact q
/-- a good row -/
def sp_is_row (K : PySem.W.Frag) : Sp := fun vs H Q _ => ∃ v n r, vs = [.int n, v] ∧ Dp K H v (rowD r) ∧ GoodRow n r ∧ Q (.bl true) H
theorem ok_is_copying (T : Txt K mg a) : FnOk P w K mg base CX0 4 a.f_is_copying a.d_is_copying ["offices", "thing"] (sp_is_row K) := by
  refine T.F_is_copying.ok sc_is_copying (fun vs H Q E h => ?_) (fun cdv A outer s H vs Q E hr h => ?_)
  · obtain ⟨v, n, r, rfl, _⟩ := h
    rfl
  · obtain ⟨v, n, r, rfl, hv, ⟨g1, g2, g3, g4, g5⟩, q⟩ := h
    obtain ⟨p, rfl, hp⟩ := of_row hv
    refine ⟨_, (pss_cons (ps_if (pt_not (pt_val (pe_call (ok_is_tuple_of T) (hr.mono (by first | decide | omega)) (by rfl) T.g_is_tuple_of T.F_is_tuple_of.kp (T.b_is_tuple_of) .nil pass0 (pa_cons (pv 1) (pa_cons pe_int pa_nil)))))
  (pss_one (ps_ret pe_bl))
  pss_nil)
  (pss_cons (ps_asg (pv 1) (kgTup K rfl rfl (pgs_cons (pg_name (i := 2) sc_is_copying.nd rfl (.inl rfl)) (pgs_cons (pg_name (i := 3) sc_is_copying.nd rfl (.inl rfl)) (pgs_cons (pg_name (i := 4) sc_is_copying.nd rfl (.inl rfl)) pgs_nil)))))
  (pss_cons (ps_if (PW.pt (pw_or (pt_not (pt_val (pe_call (ok_is_number T) (hr.mono (by first | decide | omega)) (by rfl) T.g_is_number T.F_is_number.kp (T.b_is_number) .nil pass0 (pa_cons (pv 2) (pa_cons (pv 0) pa_nil))))) (pw_or1 (pt_not (pt_val (pe_call (ok_is_number T) (hr.mono (by first | decide | omega)) (by rfl) T.g_is_number T.F_is_number.kp (T.b_is_number) .nil pass0 (pa_cons (pv 3) (pa_cons (pv 0) pa_nil))))))))
  (pss_one (ps_ret pe_bl))
  pss_nil)
  (pss_one (ps_ret (pe_and (pe_cmpR op_ne (pv 2) (pv 3) (nomark _)) (pe_one (pe_callB (kIsi K rfl) (by rfl) T.z_isinstance (by decide +kernel) (pa_cons (pv 4) (pa_cons (pe_bltn (v := .ty "bool") (by rfl) T.z_bool (by decide +kernel) rfl) pa_nil)))))))))), ?_⟩
    walk_at "go"
    refine ⟨_, _, rfl, .inl ⟨p, _, rfl, hp, ?_⟩⟩
    rw [decide_eq_true (show (([V.int r.1, V.int r.2.1, V.bl r.2.2].length : Nat) : Int) = 3 from rfl)]
    walk_at "go"
    refine ⟨p, _, rfl, hp, rfl, _, _, rfl, _, _, rfl, _, _, rfl, rfl, ?_⟩
    walk_at "go"
    refine ⟨_, _, rfl, .inl ⟨_, rfl, ?_⟩⟩
    rw [decide_eq_true (show 0 ≤ r.1 ∧ r.1 < n from ⟨g1, g2⟩)]
    walk_at "go"
    refine ⟨_, _, rfl, .inl ⟨_, rfl, ?_⟩⟩
    rw [decide_eq_true (show 0 ≤ r.2.1 ∧ r.2.1 < n from ⟨g3, g4⟩)]
    walk_at "go"
    rw [decide_eq_false (show ¬ r.1 = r.2.1 by omega)]
    walk_at "go"
    refine g_isi (b := true) (.base (.bl _)) (kit_ty (a := "bool") (by decide +kernel)) ?_
    exact q
theorem ok_is_row (T : Txt K mg a) : FnOk P w K mg base CX0 5 a.f_is_row a.d_is_row ["offices", "thing"] (sp_is_row K) := by
  refine T.F_is_row.ok sc_is_row (fun vs H Q E h => ?_) (fun cdv A outer s H vs Q E hr h => ?_)
  · obtain ⟨v, n, r, rfl, _⟩ := h
    rfl
  · obtain ⟨v, n, r, rfl, hv, hg, q⟩ := h
    obtain ⟨g1, g2, g3, g4, g5⟩ := id hg
    obtain ⟨p, rfl, hp⟩ := of_row hv
    refine ⟨_, (pss_one (ps_ret (pe_and (pe_call (ok_is_copying T) (hr.mono (by first | decide | omega)) (by rfl) T.g_is_copying T.F_is_copying.kp (T.b_is_copying) .nil pass0 (pa_cons (pv 0) (pa_cons (pv 1) pa_nil))) (pe_one (pe_cmpR op_eq (pe_callB call_abs (by rfl) T.z_abs (by decide +kernel) (pa_cons (pe_op op_sub (pe_ix (kIxT K rfl) (pv 1) pe_int (fun _ _ => rfl)) (pe_ix (kIxT K rfl) (pv 1) pe_int (fun _ _ => rfl))) pa_nil)) pe_int (nomark _)))))), ?_⟩
    walk_at "go"
    refine ⟨_, n, r, rfl, hv, hg, ?_⟩
    walk_at "go"
    refine g_ixT hp (v := .int r.1) rfl ?_
    walk_at "go"
    refine g_ixT hp (v := .int r.2.1) rfl ?_
    walk_at "go"
    refine ⟨_, rfl, ?_⟩
    walk_at "go"
    rw [decide_eq_true (show (if r.1 - r.2.1 < 0 then -(r.1 - r.2.1) else r.1 - r.2.1) = 1 from by split <;> omega)]
    exact q
theorem g_enT {K : PySem.W.Frag} {σ : L2.St} {H : Hp} {R : It → Hp → Prop} {ta : TA} (q : ta σ H fun vs H1 => ∃ p xs, vs = [.ref p] ∧ SqT K H1 p xs ∧ R (IteT K p) H1) : (fun σ H R => ta σ H fun vs H1 => ∃ p xs, vs = [.ref p] ∧ SqT K H1 p xs ∧ R (IteT K p) H1 : TI) σ H R := q
def sp_wrong_part (K : PySem.W.Frag) (f : Addr) : Sp := fun vs H Q _ => ∃ n p rs, vs = [.int n, .ref p, .ref f] ∧ Dp K H (.ref p) (rowsD rs) ∧ GoodLog n rs ∧ ∀ H', Same H H' → Q .non H'
theorem ok_wrong_part (T : Txt K mg a) : FnOk P w K mg base CX0 6 a.f_wrong_part a.d_wrong_part ["offices", "rows", "is_right"] (sp_wrong_part K a.f_is_row) := by
  refine T.F_wrong_part.ok sc_wrong_part (fun vs H Q E h => ?_) (fun cdv A outer s H vs Q E hr h => ?_)
  · obtain ⟨n, p, rs, rfl, _⟩ := h
    rfl
  · obtain ⟨n, p, rs, rfl, hrs, ⟨n1, n2, l60, hgood⟩, q⟩ := h
    obtain ⟨p', xs, e, hp, ha⟩ := of_tup hrs
    cases e
    have hl := DpAll.len ha
    rw [List.length_map] at hl
    refine ⟨_, (pss_cons (ps_if (pt_not (pt_val (pe_call (ok_is_between T) (hr.mono (by first | decide | omega)) (by rfl) T.g_is_between T.F_is_between.kp (T.b_is_between) .nil pass0 (pa_cons (pv 0) (pa_cons pe_int (pa_cons (pe_glob (v := .int 12) rfl T.g_MOST_OFFICES.choose_spec ⟨_, rfl⟩) pa_nil))))))
  (pss_one (ps_ret pe_str))
  pss_nil)
  (pss_cons (ps_if (PW.pt (pw_or (pt_not (pt_val (pe_callB (kIsi K rfl) (by rfl) T.z_isinstance (by decide +kernel) (pa_cons (pv 1) (pa_cons (pe_bltn (v := .ty "tuple") (by rfl) T.z_tuple (by decide +kernel) rfl) pa_nil))))) (pw_or1 (pt_cmpR op_gt (pe_callB (kLen K rfl) (by rfl) T.z_len (by decide +kernel) (pa_cons (pv 1) pa_nil)) (pe_glob (v := .int 60) rfl T.g_MOST_ROWS.choose_spec ⟨_, rfl⟩) (nomark _)))))
  (pss_one (ps_ret pe_str))
  pss_nil)
  (pss_cons (ps_for PassesOwn.never rfl (kiEnumT K rfl (by rfl) T.z_enumerate (pa_cons (pv 1) pa_nil)) (kgTup K rfl rfl (pgs_cons (pg_name (i := 3) sc_wrong_part.nd rfl (.inl rfl)) (pgs_cons (pg_name (i := 4) sc_wrong_part.nd rfl (.inl rfl)) pgs_nil)))
  (pss_one (ps_if (pt_not (pt_val (pe_callL (i := 2) (ok_is_row T) (hr.mono (by first | decide | omega)) (by rfl) (by first | exact Or.inl rfl | exact Or.inr (Or.inl rfl) | exact Or.inr (Or.inr rfl)) T.F_is_row.kp (T.b_is_row) .nil pass0 (pa_cons (pv 0) (pa_cons (pv 4) pa_nil)))))
  (pss_one (ps_ret (pv 3)))
  pss_nil)))
  (pss_one (ps_ret pe_non))))), ?_⟩
    walk_at "go"
    refine ⟨_, _, _, rfl, .inl ⟨_, rfl, ?_⟩⟩
    rw [decide_eq_true (show 1 ≤ n ∧ n ≤ 12 from ⟨n1, n2⟩)]
    walk_at "go"
    refine g_isi (TyX.tup hp) (b := true) (kit_ty (a := "tuple") (by decide +kernel)) ?_
    walk_at "go"
    refine ⟨_, _, rfl, .inr hp, ?_⟩
    walk_at "go"
    rw [decide_eq_false (show ¬ (60 : Int) < (xs.length : Nat) by omega)]
    walk_at "go"
    refine ⟨p, xs, rfl, hp, ?_⟩
    refine for_it (walk_enumT (K := K) (p := p) (xs := xs)) (fun i σ H' => ∃ y3 y4, σ = [some (.int n), some (.ref p), some (.ref a.f_is_row), y3, y4] ∧ Same H H') ⟨_, _, rfl, Same.refl _⟩ (fun i σ H' _ hP => ?_) (fun i z σ H1 H1' hi hP hy => ?_) (fun σ H' hP => ?_)
    · obtain ⟨y3, y4, _, s1⟩ := hP
      exact (Tx.of s1).seq hp
    · obtain ⟨y3, y4, rfl, s1⟩ := hP
      obtain ⟨Tp, x1, y1, rfl, nT, rfl, e1, e2⟩ := hy
      obtain ⟨d, gd, rd⟩ := DpAll.get ha e2
      obtain ⟨r, gr, rfl⟩ := map_at gd
      refine ⟨Tp, _, rfl, SqT.new, rfl, _, _, rfl, _, _, rfl, rfl, ?_⟩
      walk_at "go"
      refine ⟨rfl, ?_⟩
      walk_at "go"
      refine ⟨y1, n, r, rfl, Dp.same (s1.trans (same_new nT)) _ _ rd, hgood r (List.mem_of_getElem? gr), ?_⟩
      walk_at "go"
      exact ⟨_, _, rfl, s1.trans (same_new nT)⟩
    · obtain ⟨y3, y4, rfl, s1⟩ := hP
      walk_at "go"
      exact q _ s1
def sp_Log_init (K : PySem.W.Frag) (C : Addr) : Sp := fun vs H Q _ => ∃ x dx n p rs, vs = [.ref x, .int n, .ref p] ∧ H x = some (.ins C dx []) ∧ Dp K H (.ref p) (rowsD rs) ∧ GoodLog n rs ∧ ∀ H', Fr x H H' → H' x = some (.ins C dx [("offices", .int n), ("rows", .ref p)]) → Q .non H'
theorem ok_Log_init (T : Txt K mg a) : FnOk P w K mg base CX0 7 a.f_Log_init a.d_Log_init ["self", "offices", "rows"] (sp_Log_init K a.c_Log) := by
  refine T.F_Log_init.ok sc_Log_init (fun vs H Q E h => ?_) (fun cdv A outer s H vs Q E hr h => ?_)
  · obtain ⟨x, dx, n, p, rs, rfl, _⟩ := h
    rfl
  · obtain ⟨x, dx, n, p, rs, rfl, hx, hrs, ⟨n1, n2, l60, hgood⟩, q⟩ := h
    obtain ⟨p', xs, e, hp, ha⟩ := of_tup hrs
    cases e
    have hl := DpAll.len ha
    rw [List.length_map] at hl
    refine ⟨_, (pss_cons (ps_set (i := 3) sc_Log_init.nd rfl (.inl rfl) (pe_call (ok_wrong_part T) (hr.mono (by first | decide | omega)) (by rfl) T.g_wrong_part T.F_wrong_part.kp (T.b_wrong_part) .nil pass0 (pa_cons (pv 1) (pa_cons (pv 2) (pa_cons (pe_glob (v := .ref a.f_is_row) rfl T.g_is_row rfl) pa_nil)))))
  (pss_cons (ps_if (pt_cmpR op_notN (pv 3) pe_non (nomark _))
  (pss_one ps_never)
  pss_nil)
  (pss_cons (ksFld K rfl (pv 0) (pv 1) rfl)
  (pss_one (ksFld K rfl (pv 0) (pv 2) rfl))))), ?_⟩
    walk_at "go"
    refine ⟨n, p, rs, rfl, hrs, ⟨n1, n2, l60, hgood⟩, fun H1 s1 => ?_⟩
    walk_at "go"
    refine ⟨rfl, ?_⟩
    walk_at "go"
    rw [decide_eq_true (show V.non = V.non from rfl)]
    walk_at "go"
    refine ⟨x, _, dx, [], rfl, s1 _ _ hx, T.cl_Log, T.n_Log_offices, by decide, ?_⟩
    walk_at "go"
    refine ⟨x, _, dx, _, rfl, upd_same, T.cl_Log, T.n_Log_rows, by show (1 : Nat) < 1000; decide, ?_⟩
    exact q _ (fun b o nb e => by rw [upd_ne nb, upd_ne nb]; exact s1 b o e) upd_same

end

section
variable {P : Program} {w : World} {K : PySem.W.Frag} {mg : Str → Option Value} {base : Heap} {a : Ad}
/-! ### drawn rows, the other way -/
def sp_law_row (K : PySem.W.Frag) : Sp := fun vs H Q _ => ∃ (d c : Addr) (n sh : Int), vs = [.ref d, .int n, .int sh] ∧ Dice d c H ∧ 2 ≤ n ∧ n ≤ 12 ∧ ∀ H' v r, Fr d H H' → Dice d c H' → Dp K H' v (rowD r) → GoodRow n r → Q v H'
theorem ok_law_row (T : Txt K mg a) : FnOk P w K mg base CX0 2 a.f_law_row a.d_law_row ["_law_hand_here", "_law_offices_here", "_law_share"] (sp_law_row K) := by
  refine T.F_law_row.ok sc_law_row (fun vs H Q E h => ?_) (fun cdv A outer s H vs Q E hr h => ?_)
  · obtain ⟨d, c, n, sh, rfl, _⟩ := h
    rfl
  · obtain ⟨d, c, n, sh, rfl, hD, n2, n12, q⟩ := h
    refine ⟨_, (pss_cons (ps_set (i := 3) sc_law_row.nd rfl (.inl rfl) (pe_call (ok_law_draw T) (hr.mono (by first | decide | omega)) (by rfl) T.g_law_draw T.F_law_draw.kp (T.b_law_draw) .nil pass0 (pa_cons (pv 0) (pa_cons (pv 1) pa_nil))))
  (pss_cons (ps_set (i := 4) sc_law_row.nd rfl (.inl rfl) (pe_op op_sub (pe_op op_add (pv 3) pe_int) (pe_op op_mul pe_int (pe_call (ok_law_draw T) (hr.mono (by first | decide | omega)) (by rfl) T.g_law_draw T.F_law_draw.kp (T.b_law_draw) .nil pass0 (pa_cons (pv 0) (pa_cons pe_int pa_nil))))))
  (pss_cons (ps_if (PW.pt (pw_or (pt_cmpR op_lt (pv 4) pe_int (nomark _)) (pw_or1 (pt_cmpR op_eq (pv 4) (pv 1) (nomark _)))))
  (pss_one (ps_set (i := 4) sc_law_row.nd rfl (.inl rfl) (pe_op op_sub (pe_op op_mul pe_int (pv 3)) (pv 4))))
  pss_nil)
  (pss_one (ps_ret (pe_tup (pa_cons (pv 3) (pa_cons (pv 4) (pa_cons (pe_cmpR op_lt (pe_call (ok_law_draw T) (hr.mono (by first | decide | omega)) (by rfl) T.g_law_draw T.F_law_draw.kp (T.b_law_draw) .nil pass0 (pa_cons (pv 0) (pa_cons pe_int pa_nil))) (pv 2) (nomark _)) pa_nil))))))))), ?_⟩
    walk_at "go"
    refine ⟨d, c, n, rfl, hD, by omega, by omega, fun H1 x f1 hD1 x0 x1 => ?_⟩
    walk_at "go"
    refine ⟨d, c, 2, rfl, hD1, by decide, by decide, fun H2 z f2 hD2 z0 z1 => ?_⟩
    walk_at "gs"
    refine g_rI (.inl ⟨by decide, by decide⟩) ?_
    walk_at "gs"
    refine seq_cut (fun σ' H' => ∃ y, σ' = [some (.ref d), some (.int n), some (.int sh), some (.int x), some (.int y)] ∧ Fr d H H' ∧ Dice d c H' ∧ GoodRow n (x, y, true)) ?_ ?_
    · rintro σ' H2 ⟨y, rfl, f2, hD2, g⟩
      walk_at "go"
      refine ⟨d, c, 12, rfl, hD2, by decide, by decide, fun H3 z f3 hD3 _ _ => ?_⟩
      walk_at "go"
      refine ⟨by show 3 ≤ sizeLine; decide, fun p np => ?_⟩
      exact q _ _ (x, y, decide (z < sh)) ((f2.trans f3).trans (Fr.new np)) (hD3.new np) (dp_row SqT.new) g
    · intro N hN
      walk_at "go"
      have fin : ∀ y : Int, 0 ≤ y → y < n → (x - y = 1 ∨ y - x = 1) → N [some (.ref d), some (.int n), some (.int sh), some (.int x), some (.int y)] H2 := fun y y0 y1 e => hN _ _ ⟨y, rfl, f1.trans f2, hD2, x0, x1, y0, y1, by show y = x + 1 ∨ y = x - 1; omega⟩
      refine g_ite (fun e0 => ?_) (fun e0 => ?_)
      · walk_at "go"
        refine g_rI (.inl ⟨by decide, by decide⟩) ?_
        walk_at "go"
        exact fin _ (by omega) (by omega) (by omega)
      · walk_at "go"
        refine g_ite (fun e1 => ?_) (fun e1 => ?_)
        · walk_at "go"
          refine g_rI (.inl ⟨by decide, by decide⟩) ?_
          walk_at "go"
          exact fin _ (by omega) (by omega) (by omega)
        · walk_at "go"
          exact fin _ (by omega) (by omega) (by omega)
theorem rows_of {n : Int} : ∀ {ds : List PyData}, (∀ e ∈ ds, ∃ r, e = rowD r ∧ GoodRow n r) → ∃ rs : List Row, ds = rs.map rowD ∧ ∀ r ∈ rs, GoodRow n r
  | [], _ => ⟨[], rfl, fun r h => by cases h⟩
  | e :: ds, h => by
    obtain ⟨rs, e1, e2⟩ := rows_of fun z hz => h z (List.mem_cons_of_mem _ hz)
    obtain ⟨r, rfl, g⟩ := h e (List.mem_cons_self ..)
    refine ⟨r :: rs, by rw [e1]; rfl, fun z hz => ?_⟩
    rcases List.mem_cons.mp hz with rfl | hz
    · exact g
    · exact e2 z hz
def sp_law_rows (K : PySem.W.Frag) : Sp := fun vs H Q _ => ∃ (d c : Addr) (n m sh : Int), vs = [.ref d, .int n, .int m, .int sh] ∧ Dice d c H ∧ 1 ≤ n ∧ n ≤ 12 ∧ 0 ≤ m ∧ m ≤ 60 ∧ ∀ H' v rs, Fr d H H' → Dice d c H' → Dp K H' v (rowsD rs) → (∀ r ∈ rs, GoodRow n r) → (rs.length : Int) ≤ m → (2 ≤ n → (rs.length : Int) = m) → Q v H'
theorem ok_law_rows (T : Txt K mg a) : FnOk P w K mg base CX0 3 a.f_law_rows a.d_law_rows ["_law_hand_here", "_law_offices_here", "_law_many", "_law_share"] (sp_law_rows K) := by
  refine T.F_law_rows.ok sc_law_rows (fun vs H Q E h => ?_) (fun cdv A outer s H vs Q E hr h => ?_)
  · obtain ⟨d, c, n, m, sh, rfl, _⟩ := h
    rfl
  · obtain ⟨d, c, n, m, sh, rfl, hD, n1, n12, m0, m60, q⟩ := h
    refine ⟨_, (pss_cons (ps_if (pt_cmpR op_eq (pv 1) pe_int (nomark _))
  (pss_one (ps_ret (pe_tup pa_nil)))
  pss_nil)
  (pss_one (ps_ret (pe_callTy (kTupOf K rfl) (by rfl) T.z_tuple (by decide +kernel) (pa_cons (pe_lc (own := [("_law_turn", 4)]) (g := (gName 4)) rfl sc_law_rows.nd (pi_range1 rfl T.z_range (pa_cons (pv 2) pa_nil)) (blkOk_by (own := [("_law_turn", 4)]) (N := ["_law_hand_here", "_law_offices_here", "_law_many", "_law_share", "_law_turn"]) (sc := defScope s_law_rows) (by decide +kernel)) (fun _ _ _ _ _ => (pg_name (i := 4) sc_law_rows.nd rfl (.inl rfl))) (fun _ _ _ _ _ => pts_nil) (fun _ _ _ _ _ => (pe_call (ok_law_row T) (hr.mono (by first | decide | omega)) (by rfl) T.g_law_row T.F_law_row.kp (T.b_law_row) .nil pass0 (pa_cons (pv 0) (pa_cons (pv 1) (pa_cons (pv 3) pa_nil)))))) pa_nil))))), ?_⟩
    walk_at "go"
    refine g_ite (fun e0 => ?_) (fun e0 => ?_)
    · walk_at "go"
      refine ⟨by show 0 ≤ sizeLine; decide, fun p np => ?_⟩
      exact q _ _ [] (Fr.new np) (hD.new np) (.tup SqT.new .nil) (fun r h => by cases h) m0 (fun h => by omega)
    · walk_at "go"
      refine ⟨_, rfl, by omega, by omega, fun D nDD => ?_⟩
      refine lc_draw (K := K) (d := d) (c := c) walk_rng0 (fun e => ∃ r, e = rowD r ∧ GoodRow n r) (small1000 (by omega)) (fun e ⟨z, h, _⟩ => by rw [h]; rfl) nDD hD (fun _ _ => trivial) (fun j x H9 H9' C Cn hj f9 hD9 hy hC => ?_) (fun H' ys ds f9 hD9 hDl hys hn hall => ?_)
      · obtain ⟨rfl, rfl⟩ := hy
        refine ⟨rfl, ?_⟩
        walk_at "go"
        exact ⟨d, c, n, sh, rfl, hD9, by omega, n12, fun H10 v r f10 hD10 hv g => hC _ _ _ f10 hD10 hv ⟨r, rfl, g⟩⟩
      · obtain ⟨rs, rfl, hgood⟩ := rows_of hall
        rw [List.length_map] at hn
        walk_at "go"
        refine ⟨D, ys, rfl, .inl ⟨SqL.at hDl, fun p np => ?_⟩⟩
        exact q _ _ rs (f9.trans (Fr.new np)) (hD9.new np) (.tup SqT.new (Dp.sameAll (same_new np) _ _ hys)) hgood (by omega) (fun _ => by omega)
def sp_law_offices : Sp := fun vs H Q _ => ∃ (d c : Addr) (m : Int), vs = [.ref d, .int m] ∧ Dice d c H ∧ 3 ≤ m ∧ m ≤ 12 ∧ ∀ H' n, Fr d H H' → Dice d c H' → 1 ≤ n → n ≤ m → Q (.int n) H'
theorem ok_law_offices (T : Txt K mg a) : FnOk P w K mg base CX0 2 a.f_law_offices a.d_law_offices ["_law_hand_here", "_law_most"] sp_law_offices := by
  refine T.F_law_offices.ok sc_law_offices (fun vs H Q E h => ?_) (fun cdv A outer s H vs Q E hr h => ?_)
  · obtain ⟨d, c, m, rfl, _⟩ := h
    rfl
  · obtain ⟨d, c, m, rfl, hD, m3, m12, q⟩ := h
    refine ⟨_, (pss_cons (ps_if (pt_cmpR op_eq (pe_call (ok_law_draw T) (hr.mono (by first | decide | omega)) (by rfl) T.g_law_draw T.F_law_draw.kp (T.b_law_draw) .nil pass0 (pa_cons (pv 0) (pa_cons pe_int pa_nil))) pe_int (nomark _))
  (pss_one (ps_ret (pe_op op_add pe_int (pe_call (ok_law_draw T) (hr.mono (by first | decide | omega)) (by rfl) T.g_law_draw T.F_law_draw.kp (T.b_law_draw) .nil pass0 (pa_cons (pv 0) (pa_cons (pv 1) pa_nil))))))
  pss_nil)
  (pss_one (ps_ret (pe_op op_add pe_int (pe_call (ok_law_draw T) (hr.mono (by first | decide | omega)) (by rfl) T.g_law_draw T.F_law_draw.kp (T.b_law_draw) .nil pass0 (pa_cons (pv 0) (pa_cons (pe_op op_sub (pv 1) pe_int) pa_nil))))))), ?_⟩
    walk_at "go"
    refine ⟨d, c, 8, rfl, hD, by decide, by decide, fun H1 z f1 hD1 _ _ => ?_⟩
    walk_at "go"
    refine g_ite (fun e0 => ?_) (fun e0 => ?_)
    · walk_at "go"
      refine ⟨d, c, m, rfl, hD1, by omega, by omega, fun H2 o f2 hD2 o0 o1 => ?_⟩
      walk_at "go"
      exact q _ _ (f1.trans f2) hD2 (by omega) (by omega)
    · walk_at "go"
      refine ⟨d, c, m - 2, rfl, hD1, by omega, by omega, fun H2 o f2 hD2 o0 o1 => ?_⟩
      walk_at "go"
      exact q _ _ (f1.trans f2) hD2 (by omega) (by omega)

end

section
variable {P : Program} {w : World} {K : PySem.W.Frag} {mg : Str → Option Value} {base : Heap} {a : Ad}
/-! ### left rows, cuts -/
def sp_is_left (K : PySem.W.Frag) : Sp := fun vs H Q _ => ∃ v r, vs = [v] ∧ Dp K H v (rowD r) ∧ Q (.bl (isL r)) H
theorem ok_is_left (T : Txt K mg a) : FnOk P w K mg base CX0 1 a.f_is_left a.d_is_left ["row"] (sp_is_left K) := by
  refine T.F_is_left.ok sc_is_left (fun vs H Q E h => ?_) (fun cdv A outer s H vs Q E hr h => ?_)
  · obtain ⟨v, r, rfl, _⟩ := h
    rfl
  · obtain ⟨v, r, rfl, hv, q⟩ := h
    obtain ⟨p, rfl, hp⟩ := of_row hv
    refine ⟨_, (pss_one (ps_ret (pe_cmpR op_gt (pe_ix (kIxT K rfl) (pv 0) pe_int (fun _ _ => rfl)) (pe_ix (kIxT K rfl) (pv 0) pe_int (fun _ _ => rfl)) (nomark _)))), ?_⟩
    walk_at "go"
    refine g_ixT hp (v := .int r.2.1) rfl ?_
    walk_at "go"
    refine g_ixT hp (v := .int r.1) rfl ?_
    walk_at "go"
    exact q
def sp_cut_between (K : PySem.W.Frag) : Sp := fun vs H Q _ => ∃ v r, vs = [v] ∧ Dp K H v (rowD r) ∧ Q (.int (placeR r + 1)) H
theorem ok_cut_between (T : Txt K mg a) : FnOk P w K mg base CX0 1 a.f_cut_between a.d_cut_between ["row"] (sp_cut_between K) := by
  refine T.F_cut_between.ok sc_cut_between (fun vs H Q E h => ?_) (fun cdv A outer s H vs Q E hr h => ?_)
  · obtain ⟨v, r, rfl, _⟩ := h
    rfl
  · obtain ⟨v, r, rfl, hv, q⟩ := h
    obtain ⟨p, rfl, hp⟩ := of_row hv
    refine ⟨_, (pss_one (ps_ret (pe_callB (call_max2 rfl) (by rfl) T.z_max (by decide +kernel) (pa_cons (pe_ix (kIxT K rfl) (pv 0) pe_int (fun _ _ => rfl)) (pa_cons (pe_ix (kIxT K rfl) (pv 0) pe_int (fun _ _ => rfl)) pa_nil))))), ?_⟩
    walk_at "go"
    refine g_ixT hp (v := .int r.1) rfl ?_
    walk_at "go"
    refine g_ixT hp (v := .int r.2.1) rfl ?_
    walk_at "go"
    refine ⟨_, _, rfl, ?_⟩
    rw [show (if r.2.1 > r.1 then r.2.1 else r.1) = placeR r + 1 from by unfold placeR; omega]
    exact q
/-! ### sides, posts -/
def sideS (b : Bool) : Str := if b = true then Str.ofString "left" else Str.ofString "right"
theorem sideS_left (b : Bool) : decide (V.str (sideS b) = V.str (Str.ofString "left")) = b := by cases b <;> decide
theorem sideS_right (b : Bool) : decide (V.str (sideS b) = V.str (Str.ofString "right")) = !b := by cases b <;> decide
def sp_is_word (K : PySem.W.Frag) : Sp := fun vs H Q _ => ∃ s t, vs = [.str s, .str t] ∧ Q (.bl (decide (V.str s = V.str t))) H
theorem ok_is_word (T : Txt K mg a) : FnOk P w K mg base CX0 1 a.f_is_word a.d_is_word ["thing", "word"] (sp_is_word K) := by
  refine T.F_is_word.ok sc_is_word (fun vs H Q E h => ?_) (fun cdv A outer s H vs Q E hr h => ?_)
  · obtain ⟨s, t, rfl, _⟩ := h
    rfl
  · obtain ⟨s, t, rfl, q⟩ := h
    refine ⟨_, (pss_one (ps_ret (pe_and (pe_callB (kIsi K rfl) (by rfl) T.z_isinstance (by decide +kernel) (pa_cons (pv 0) (pa_cons (pe_bltn (v := .ty "str") (by rfl) T.z_str (by decide +kernel) rfl) pa_nil))) (pe_one (pe_cmpR op_eq (pv 0) (pv 1) (nomark _)))))), ?_⟩
    walk_at "go"
    refine g_isi (b := true) (.base (.str _)) (kit_ty (a := "str") (by decide +kernel)) ?_
    walk_at "go"
    exact ⟨rfl, q⟩
def sp_is_side (K : PySem.W.Frag) : Sp := fun vs H Q _ => ∃ b, vs = [.str (sideS b)] ∧ Q (.bl true) H
theorem ok_is_side (T : Txt K mg a) : FnOk P w K mg base CX0 2 a.f_is_side a.d_is_side ["thing"] (sp_is_side K) := by
  refine T.F_is_side.ok sc_is_side (fun vs H Q E h => ?_) (fun cdv A outer s H vs Q E hr h => ?_)
  · obtain ⟨b, rfl, _⟩ := h
    rfl
  · obtain ⟨b, rfl, q⟩ := h
    refine ⟨_, (pss_one (ps_ret (pe_or (pe_call (ok_is_word T) (hr.mono (by first | decide | omega)) (by rfl) T.g_is_word T.F_is_word.kp (T.b_is_word) .nil pass0 (pa_cons (pv 0) (pa_cons pe_str pa_nil))) (pe_one (pe_call (ok_is_word T) (hr.mono (by first | decide | omega)) (by rfl) T.g_is_word T.F_is_word.kp (T.b_is_word) .nil pass0 (pa_cons (pv 0) (pa_cons pe_str pa_nil))))))), ?_⟩
    walk_at "go"
    refine ⟨_, _, rfl, ?_⟩
    rw [sideS_left]
    walk_at "go"
    cases b with
    | true =>
      walk_at "go"
      exact q
    | false =>
      walk_at "go"
      refine ⟨_, _, rfl, ?_⟩
      rw [sideS_right]
      exact q
def sp_check_side (K : PySem.W.Frag) : Sp := fun vs H Q _ => ∃ b, vs = [.str (sideS b)] ∧ Q .non H
theorem ok_check_side (T : Txt K mg a) : FnOk P w K mg base CX0 3 a.f_check_side a.d_check_side ["side"] (sp_check_side K) := by
  refine T.F_check_side.ok sc_check_side (fun vs H Q E h => ?_) (fun cdv A outer s H vs Q E hr h => ?_)
  · obtain ⟨b, rfl, _⟩ := h
    rfl
  · obtain ⟨b, rfl, q⟩ := h
    refine ⟨_, (pss_one (ps_if (pt_not (pt_val (pe_call (ok_is_side T) (hr.mono (by first | decide | omega)) (by rfl) T.g_is_side T.F_is_side.kp (T.b_is_side) .nil pass0 (pa_cons (pv 0) pa_nil))))
  (pss_one ps_never)
  pss_nil)), ?_⟩
    walk_at "go"
    refine ⟨b, rfl, ?_⟩
    walk_at "go"
    exact q
/-- the cut barred at a row -/
def barO (b : Bool) (r : Row) : Option Int := if isL r = b then some (placeR r + 1) else none
def optV : Option Int → V
  | some i => .int i
  | none => .non
def sp_barred_cut (K : PySem.W.Frag) : Sp := fun vs H Q _ => ∃ b v r, vs = [.str (sideS b), v] ∧ Dp K H v (rowD r) ∧ Q (optV (barO b r)) H
theorem ok_barred_cut (T : Txt K mg a) : FnOk P w K mg base CX0 2 a.f_barred_cut a.d_barred_cut ["side", "row"] (sp_barred_cut K) := by
  refine T.F_barred_cut.ok sc_barred_cut (fun vs H Q E h => ?_) (fun cdv A outer s H vs Q E hr h => ?_)
  · obtain ⟨b, v, r, rfl, _⟩ := h
    rfl
  · obtain ⟨b, v, r, rfl, hv, q⟩ := h
    refine ⟨_, (pss_one (ps_ret (pe_ifExp (pt_cmpR op_eq (pe_call (ok_is_left T) (hr.mono (by first | decide | omega)) (by rfl) T.g_is_left T.F_is_left.kp (T.b_is_left) .nil pass0 (pa_cons (pv 1) pa_nil)) (pe_cmpR op_eq (pv 0) pe_str (nomark _)) (nomark _)) (pe_call (ok_cut_between T) (hr.mono (by first | decide | omega)) (by rfl) T.g_cut_between T.F_cut_between.kp (T.b_cut_between) .nil pass0 (pa_cons (pv 1) pa_nil)) pe_non))), ?_⟩
    walk_at "go"
    refine ⟨v, r, rfl, hv, ?_⟩
    walk_at "go"
    refine ⟨rfl, ?_⟩
    rw [sideS_left]
    walk_at "go"
    unfold barO at q
    by_cases c : isL r = b
    · rw [if_pos c] at q
      rw [c, beq_self_eq_true]
      walk_at "go"
      exact ⟨v, r, rfl, hv, q⟩
    · rw [if_neg c] at q
      rw [beq_eq_false_iff_ne.mpr c]
      walk_at "go"
      exact q
/-- what a step costs -/
def stepP (b : Bool) (x y : Int) : Int := if b = true then (if y - x > 0 then y - x else 0) else (if x - y > 0 then x - y else 0)
def sp_walk_price : Sp := fun vs H Q _ => ∃ b x y, vs = [.str (sideS b), .int x, .int y] ∧ Q (.int (stepP b x y)) H
theorem ok_walk_price (T : Txt K mg a) : FnOk P w K mg base CX0 1 a.f_walk_price a.d_walk_price ["side", "start", "end"] sp_walk_price := by
  refine T.F_walk_price.ok sc_walk_price (fun vs H Q E h => ?_) (fun cdv A outer s H vs Q E hr h => ?_)
  · obtain ⟨b, x, y, rfl, _⟩ := h
    rfl
  · obtain ⟨b, x, y, rfl, q⟩ := h
    refine ⟨_, (pss_one (ps_ret (pe_ifExp (pt_cmpR op_eq (pv 0) pe_str (nomark _)) (pe_callB (call_max2 rfl) (by rfl) T.z_max (by decide +kernel) (pa_cons pe_int (pa_cons (pe_op op_sub (pv 2) (pv 1)) pa_nil))) (pe_callB (call_max2 rfl) (by rfl) T.z_max (by decide +kernel) (pa_cons pe_int (pa_cons (pe_op op_sub (pv 1) (pv 2)) pa_nil)))))), ?_⟩
    walk_at "go"
    refine ⟨rfl, ?_⟩
    rw [sideS_left]
    walk_at "go"
    cases b with
    | true =>
      walk_at "go"
      exact ⟨_, _, rfl, q⟩
    | false =>
      walk_at "go"
      exact ⟨_, _, rfl, q⟩
/-- a walk whose parts are cuts -/
def postD (f : Int) (st : List Int) (l : Int) : PyData := .tuple [.int f, tupI st, .int l]
def WfPost (n : Int) (rs : List Row) (f : Int) (st : List Int) (l : Int) : Prop := 0 ≤ f ∧ f ≤ n ∧ 0 ≤ l ∧ l ≤ n ∧ st.length = rs.length ∧ ∀ c ∈ st, 0 ≤ c ∧ c ≤ n
def freeB (b : Bool) (c : Int) (r : Row) : Bool := !decide (V.int c = optV (barO b r))
def stands (b : Bool) (rs : List Row) (st : List Int) : List Bool := (st.zip rs).map fun p => freeB b p.1 p.2
theorem stands_at {b : Bool} {rs : List Row} {st : List Int} {i : Nat} {r : Row} {c : Int} (h : st[i]? = some c) (k : rs[i]? = some r) : (stands b rs st)[i]? = some (freeB b c r) := by
  unfold stands
  rw [List.getElem?_map, (List.getElem?_zip_eq_some (z := (c, r))).mpr ⟨h, k⟩]
  rfl
theorem stands_len (b : Bool) (rs : List Row) (st : List Int) : (stands b rs st).length = min st.length rs.length := by
  unfold stands
  rw [List.length_map, List.length_zip]
theorem of_post {K : PySem.W.Frag} {H : Hp} {v : V} {f l : Int} {st : List Int} (h : Dp K H v (postD f st l)) : ∃ p t, v = .ref p ∧ SqT K H p [.int f, .ref t, .int l] ∧ SqT K H t (st.map V.int) := by
  unfold postD at h
  cases h with
  | tup q a =>
    cases a with
    | cons a1 a2 =>
      cases a2 with
      | cons a3 a4 =>
        cases a4 with
        | cons a5 a6 =>
          cases a6
          cases a1; cases a5
          obtain ⟨t, rfl, ht⟩ := of_ints a3
          exact ⟨_, t, rfl, q, ht⟩
def sp_is_post (K : PySem.W.Frag) (C : Addr) : Sp := fun vs H Q _ => ∃ lg n rs b v f st l, vs = [lg, .str (sideS b), v] ∧ LogAt K C H lg n rs ∧ Dp K H v (postD f st l) ∧ WfPost n rs f st l ∧ rs.length ≤ 100000 ∧ ∀ H', Same H H' → Q (.bl ((stands b rs st).all id)) H'
theorem ok_is_post (T : Txt K mg a) : FnOk P w K mg base CX0 5 a.f_is_post a.d_is_post ["log", "side", "thing"] (sp_is_post K a.c_Log) := by
  refine T.F_is_post.ok sc_is_post (fun vs H Q E h => ?_) (fun cdv A outer s H vs Q E hr h => ?_)
  · obtain ⟨lg, n, rs, b, v, f, st, l, rfl, _⟩ := h
    rfl
  · obtain ⟨lg, n, rs, b, v, f, st, l, rfl, hlog, hv, ⟨f0, f1, l0, l1, hlen, hst⟩, hmax, q⟩ := h
    obtain ⟨la, ldx, p, rfl, hla, hrd⟩ := hlog
    obtain ⟨_, ys, e, hp, ha⟩ := of_tup hrd
    cases e
    have hl := DpAll.len ha
    rw [List.length_map] at hl
    obtain ⟨vp, t, rfl, hvp, ht⟩ := of_post hv
    refine ⟨_, (pss_cons (ps_expr (pe_call (ok_check_side T) (hr.mono (by first | decide | omega)) (by rfl) T.g_check_side T.F_check_side.kp (T.b_check_side) .nil pass0 (pa_cons (pv 1) pa_nil)))
  (pss_cons (ps_if (pt_not (pt_val (pe_call (ok_is_tuple_of T) (hr.mono (by first | decide | omega)) (by rfl) T.g_is_tuple_of T.F_is_tuple_of.kp (T.b_is_tuple_of) .nil pass0 (pa_cons (pv 2) (pa_cons pe_int pa_nil)))))
  (pss_one (ps_ret pe_bl))
  pss_nil)
  (pss_cons (ps_asg (pv 2) (kgTup K rfl rfl (pgs_cons (pg_name (i := 3) sc_is_post.nd rfl (.inl rfl)) (pgs_cons (pg_name (i := 4) sc_is_post.nd rfl (.inl rfl)) (pgs_cons (pg_name (i := 5) sc_is_post.nd rfl (.inl rfl)) pgs_nil)))))
  (pss_cons (ps_set (i := 6) sc_is_post.nd rfl (.inl rfl) (pe_op op_add (kpFld K rfl (pv 0) rfl) pe_int))
  (pss_cons (ps_if (PW.pt (pw_or (pt_not (pt_val (pe_call (ok_is_number T) (hr.mono (by first | decide | omega)) (by rfl) T.g_is_number T.F_is_number.kp (T.b_is_number) .nil pass0 (pa_cons (pv 3) (pa_cons (pv 6) pa_nil))))) (pw_or1 (pt_not (pt_val (pe_call (ok_is_number T) (hr.mono (by first | decide | omega)) (by rfl) T.g_is_number T.F_is_number.kp (T.b_is_number) .nil pass0 (pa_cons (pv 5) (pa_cons (pv 6) pa_nil))))))))
  (pss_one (ps_ret pe_bl))
  pss_nil)
  (pss_cons (ps_if (PW.pt (pw_or (pt_not (pt_val (pe_call (ok_is_tuple_of T) (hr.mono (by first | decide | omega)) (by rfl) T.g_is_tuple_of T.F_is_tuple_of.kp (T.b_is_tuple_of) .nil pass0 (pa_cons (pv 4) (pa_cons (pe_callB (kLen K rfl) (by rfl) T.z_len (by decide +kernel) (pa_cons (kpFld K rfl (pv 0) rfl) pa_nil)) pa_nil))))) (pw_or1 (pt_not (pt_val (pe_call (ok_are_numbers T) (hr.mono (by first | decide | omega)) (by rfl) T.g_are_numbers T.F_are_numbers.kp (T.b_are_numbers) .nil pass0 (pa_cons (pv 4) (pa_cons (pv 6) pa_nil))))))))
  (pss_one (ps_ret pe_bl))
  pss_nil)
  (pss_one (ps_ret (pe_callB (kAll K rfl rfl) (by rfl) T.z_all (by decide +kernel) (pa_cons (pe_lc (own := [("cut", 7), ("row", 8)]) (g := (gTup K 2 (gCons (gName 7) (gCons (gName 8) gNil)))) rfl sc_is_post.nd (kiZip K rfl (by rfl) T.z_zip (pa_cons (pv 4) (pa_cons (kpFld K rfl (pv 0) rfl) pa_nil))) (blkOk_by (own := [("cut", 7), ("row", 8)]) (N := ["log", "side", "thing", "first", "stands", "last", "cuts", "cut", "row"]) (sc := defScope s_is_post) (by decide +kernel)) (fun _ _ _ _ _ => (kgTup K rfl rfl (pgs_cons (pg_name (i := 7) sc_is_post.nd rfl (.inl rfl)) (pgs_cons (pg_name (i := 8) sc_is_post.nd rfl (.inl rfl)) pgs_nil)))) (fun _ _ _ _ _ => pts_nil) (fun _ _ _ _ _ => (pe_cmpR op_ne (pv 7) (pe_call (ok_barred_cut T) (hr.mono (by first | decide | omega)) (by rfl) T.g_barred_cut T.F_barred_cut.kp (T.b_barred_cut) .nil pass0 (pa_cons (pv 1) (pa_cons (pv 8) pa_nil))) (nomark _)))) pa_nil)))))))))), ?_⟩
    walk_at "go"
    refine ⟨b, rfl, ?_⟩
    walk_at "go"
    refine ⟨_, _, rfl, .inl ⟨vp, _, rfl, hvp, ?_⟩⟩
    rw [decide_eq_true (show (([V.int f, V.ref t, V.int l].length : Nat) : Int) = 3 from rfl)]
    walk_at "go"
    refine ⟨vp, _, rfl, hvp, rfl, _, _, rfl, _, _, rfl, _, _, rfl, rfl, ?_⟩
    walk_at "go"
    refine ⟨_, _, _, _, _, rfl, hla, T.cl_Log, T.n_Log_offices, rfl, ?_⟩
    walk_at "go"
    refine ⟨_, _, rfl, .inl ⟨f, rfl, ?_⟩⟩
    rw [decide_eq_true (show 0 ≤ f ∧ f < n + 1 by omega)]
    walk_at "go"
    refine ⟨_, _, rfl, .inl ⟨l, rfl, ?_⟩⟩
    rw [decide_eq_true (show 0 ≤ l ∧ l < n + 1 by omega)]
    walk_at "go"
    refine ⟨_, _, _, _, _, rfl, hla, T.cl_Log, T.n_Log_rows, rfl, ?_⟩
    walk_at "go"
    refine ⟨_, _, rfl, .inr hp, ?_⟩
    walk_at "go"
    refine ⟨_, _, rfl, .inl ⟨t, _, rfl, ht, ?_⟩⟩
    rw [List.length_map, decide_eq_true (show ((st.length : Nat) : Int) = ys.length by omega)]
    walk_at "go"
    refine ⟨t, st, n + 1, rfl, numsT ht, by omega, fun H1 s1 => ?_⟩
    rw [List.all_eq_true.mpr fun c hc => decide_eq_true (by have := hst c hc; omega)]
    walk_at "go"
    refine ⟨_, _, _, _, _, rfl, s1 _ _ hla, T.cl_Log, T.n_Log_rows, rfl, ?_⟩
    walk_at "go"
    have ht1 := (Tx.of s1).seq ht
    have hp1 := (Tx.of s1).seq hp
    refine ⟨_, _, _, _, rfl, .inr ⟨ht1, hp1, fun D nD => ?_⟩⟩
    refine lc_same (H0 := H1) (walk_zipT (K := K) (a := t) (b := p) (xs := st.map V.int) (ys := ys) rfl) (fun i => ((stands b rs st).take i).map V.bl) rfl (fun i _ => ?_) (Same.refl _) nD nD (fun H' s => ⟨(Tx.of s).seq ht1, (Tx.of s).seq hp1⟩) (fun i x H2 H3 C Cn hi s hy hC hN => ?_) (fun H' s hD => ?_)
    · rw [List.length_map, List.length_take, stands_len]
      exact small100k (by omega)
    · obtain ⟨Tp, x1, y1, rfl, nT, rfl, e1, e2⟩ := hy
      obtain ⟨cc, gc, rfl⟩ := map_at e1
      obtain ⟨d, gd, rd⟩ := DpAll.get ha e2
      obtain ⟨r, gr, rfl⟩ := map_at gd
      have sT : Same H2 (upd H2 Tp (.tup [V.int cc, y1])) := same_new nT
      refine ⟨Tp, _, rfl, SqT.new, rfl, _, _, rfl, _, _, rfl, rfl, rfl, ?_⟩
      walk_at "go"
      refine ⟨b, y1, r, rfl, Dp.same (s1.trans (s.trans sT)) _ _ rd, ?_⟩
      refine ⟨by unfold optV; split <;> rfl, ?_⟩
      refine hC _ _ sT ?_
      rw [take_snoc (stands_at gc gr), List.map_append]
      rfl
    · walk_at "go"
      refine ⟨D, _, rfl, SqL.at hD, ?_⟩
      rw [List.length_map, List.take_of_length_le (by rw [stands_len]; omega)]
      exact q _ (s1.trans s)

end

section
variable {P : Program} {w : World} {K : PySem.W.Frag} {mg : Str → Option Value} {base : Heap} {a : Ad}
/-! ### what a walk costs -/
def costP (b : Bool) : Int → List Int → Int
  | _, [] => 0
  | x, y :: r => stepP b x y + costP b y r
def stepsP (b : Bool) (f : Int) (st : List Int) (l : Int) : List Int := ((f :: st).zip (st ++ [l])).map fun p => stepP b p.1 p.2
theorem steps_sum (b : Bool) : ∀ (st : List Int) (f l : Int), (stepsP b f st l).sum = costP b f (st ++ [l])
  | [], f, l => by
    show stepP b f l + 0 = stepP b f l + 0
    rfl
  | c :: st, f, l => by
    show stepP b f c + (stepsP b c st l).sum = stepP b f c + costP b c (st ++ [l])
    rw [steps_sum b st c l]
theorem steps_len (b : Bool) (f : Int) (st : List Int) (l : Int) : (stepsP b f st l).length = st.length + 1 := by
  unfold stepsP
  rw [List.length_map, List.length_zip, List.length_cons, List.length_append, List.length_singleton, Nat.min_self]
theorem steps_at {b : Bool} {f : Int} {st : List Int} {l : Int} {i : Nat} {x y : Int} (h : (f :: st)[i]? = some x) (k : (st ++ [l])[i]? = some y) : (stepsP b f st l)[i]? = some (stepP b x y) := by
  unfold stepsP
  rw [List.getElem?_map, (List.getElem?_zip_eq_some (z := (x, y))).mpr ⟨h, k⟩]
  rfl
theorem cost_snoc (b : Bool) : ∀ (xs : List Int) (x y : Int), costP b x (xs ++ [y]) = costP b x xs + stepP b (xs.getLastD x) y
  | [], x, y => by
    show stepP b x y + 0 = 0 + stepP b x y
    omega
  | c :: xs, x, y => by
    show stepP b x c + costP b c (xs ++ [y]) = stepP b x c + costP b c xs + stepP b ((c :: xs).getLastD x) y
    rw [cost_snoc b xs c y, List.getLastD_cons]
    omega
def sp_check_post (K : PySem.W.Frag) (C : Addr) : Sp := fun vs H Q _ => ∃ lg n rs b v f st l, vs = [lg, .str (sideS b), v] ∧ LogAt K C H lg n rs ∧ Dp K H v (postD f st l) ∧ WfPost n rs f st l ∧ rs.length ≤ 100000 ∧ (stands b rs st).all id = true ∧ ∀ H', Same H H' → Q .non H'
theorem ok_check_post (T : Txt K mg a) : FnOk P w K mg base CX0 6 a.f_check_post a.d_check_post ["log", "side", "thing"] (sp_check_post K a.c_Log) := by
  refine T.F_check_post.ok sc_check_post (fun vs H Q E h => ?_) (fun cdv A outer s H vs Q E hr h => ?_)
  · obtain ⟨lg, n, rs, b, v, f, st, l, rfl, _⟩ := h
    rfl
  · obtain ⟨lg, n, rs, b, v, f, st, l, rfl, hlog, hv, hw, hmax, hall, q⟩ := h
    refine ⟨_, (pss_one (ps_if (pt_not (pt_val (pe_call (ok_is_post T) (hr.mono (by first | decide | omega)) (by rfl) T.g_is_post T.F_is_post.kp (T.b_is_post) .nil pass0 (pa_cons (pv 0) (pa_cons (pv 1) (pa_cons (pv 2) pa_nil))))))
  (pss_one ps_never)
  pss_nil)), ?_⟩
    walk_at "go"
    refine ⟨lg, n, rs, b, v, f, st, l, rfl, hlog, hv, hw, hmax, fun H1 s1 => ?_⟩
    rw [hall]
    walk_at "go"
    exact q _ s1
def sp_post_price (K : PySem.W.Frag) (C : Addr) : Sp := fun vs H Q _ => ∃ lg n rs b v f st l, vs = [lg, .str (sideS b), v] ∧ LogAt K C H lg n rs ∧ Dp K H v (postD f st l) ∧ WfPost n rs f st l ∧ rs.length ≤ 100000 ∧ (stands b rs st).all id = true ∧ ∀ H', Same H H' → Q (.int (costP b f (st ++ [l]))) H'
theorem ok_post_price (T : Txt K mg a) : FnOk P w K mg base CX0 9 a.f_post_price a.d_post_price ["log", "side", "thing"] (sp_post_price K a.c_Log) := by
  refine T.F_post_price.ok sc_post_price (fun vs H Q E h => ?_) (fun cdv A outer s H vs Q E hr h => ?_)
  · obtain ⟨lg, n, rs, b, v, f, st, l, rfl, _⟩ := h
    rfl
  · obtain ⟨lg, n, rs, b, v, f, st, l, rfl, hlog, hv, hw, hmax, hall, q⟩ := h
    have hsl : st.length ≤ 100000 := by have := hw.2.2.2.2.1; omega
    refine ⟨_, (pss_cons (ps_expr (pe_call (ok_check_post T) (hr.mono (by first | decide | omega)) (by rfl) T.g_check_post T.F_check_post.kp (T.b_check_post) .nil pass0 (pa_cons (pv 0) (pa_cons (pv 1) (pa_cons (pv 2) pa_nil)))))
  (pss_cons (ps_asg (pv 2) (kgTup K rfl rfl (pgs_cons (pg_name (i := 3) sc_post_price.nd rfl (.inl rfl)) (pgs_cons (pg_name (i := 4) sc_post_price.nd rfl (.inl rfl)) (pgs_cons (pg_name (i := 5) sc_post_price.nd rfl (.inl rfl)) pgs_nil)))))
  (pss_one (ps_ret (pe_callB (cr_sum rfl) (by rfl) T.z_sum (by decide +kernel) (pa_cons (pe_lc (own := [("start", 6), ("end", 7)]) (g := (gTup K 2 (gCons (gName 6) (gCons (gName 7) gNil)))) rfl sc_post_price.nd (kiZip K rfl (by rfl) T.z_zip (pa_cons (pe_op (kCatA K rfl) (pe_tup (pa_cons (pv 3) pa_nil)) (pv 4)) (pa_cons (pe_op (kCatA K rfl) (pv 4) (pe_tup (pa_cons (pv 5) pa_nil))) pa_nil))) (blkOk_by (own := [("start", 6), ("end", 7)]) (N := ["log", "side", "thing", "first", "stands", "last", "start", "end"]) (sc := defScope s_post_price) (by decide +kernel)) (fun _ _ _ _ _ => (kgTup K rfl rfl (pgs_cons (pg_name (i := 6) sc_post_price.nd rfl (.inl rfl)) (pgs_cons (pg_name (i := 7) sc_post_price.nd rfl (.inl rfl)) pgs_nil)))) (fun _ _ _ _ _ => pts_nil) (fun _ _ _ _ _ => (pe_call (ok_walk_price T) (hr.mono (by first | decide | omega)) (by rfl) T.g_walk_price T.F_walk_price.kp (T.b_walk_price) .nil pass0 (pa_cons (pv 1) (pa_cons (pv 6) (pa_cons (pv 7) pa_nil)))))) pa_nil)))))), ?_⟩
    walk_at "go"
    refine ⟨lg, n, rs, b, v, f, st, l, rfl, hlog, hv, hw, hmax, hall, fun H1 s1 => ?_⟩
    obtain ⟨vp, t, rfl, hvp, ht⟩ := of_post (Dp.same s1 _ _ hv)
    walk_at "go"
    refine ⟨vp, _, rfl, hvp, rfl, _, _, rfl, _, _, rfl, _, _, rfl, rfl, ?_⟩
    walk_at "go"
    refine ⟨by show 1 ≤ sizeLine; decide, fun p1 np1 => ?_⟩
    have s2 : Same H1 (upd H1 p1 (.tup [.int f])) := same_new np1
    walk_at "go"
    refine g_catA SqT.new ((Tx.of s2).seq ht) (by rw [List.length_map]; exact Nat.le_trans (show _ ≤ 200002 by simp only [List.length_cons, List.length_nil]; omega) (by decide)) (fun p2 H3 s3 h2 => ?_)
    walk_at "go"
    refine ⟨by show 1 ≤ sizeLine; decide, fun p3 np3 => ?_⟩
    have s4 : Same H3 (upd H3 p3 (.tup [.int l])) := same_new np3
    walk_at "go"
    refine g_catA ((Tx.of (s2.trans (s3.trans s4))).seq ht) SqT.new (by rw [List.length_map]; exact Nat.le_trans (show _ ≤ 200002 by simp only [List.length_cons, List.length_nil]; omega) (by decide)) (fun p5 H5 s5 h5 => ?_)
    have ha : SqT K H5 p2 ((f :: st).map V.int) := (Tx.of (s4.trans s5)).seq h2
    have hb : SqT K H5 p5 ((st ++ [l]).map V.int) := by
      rw [List.map_append]
      exact h5
    have s15 : Same H H5 := s1.trans (s2.trans (s3.trans (s4.trans s5)))
    refine ⟨p2, p5, _, _, rfl, .inr ⟨ha, hb, fun D nD => ?_⟩⟩
    refine lc_same (H0 := H5) (walk_zipT (K := K) (a := p2) (b := p5) (xs := (f :: st).map V.int) (ys := (st ++ [l]).map V.int) (n := st.length + 1) (by rw [List.length_map, List.length_map, List.length_cons, List.length_append, List.length_singleton, Nat.min_self])) (fun i => ((stepsP b f st l).take i).map V.int) rfl (fun i _ => ?_) (Same.refl _) nD nD (fun H' s => ⟨(Tx.of s).seq ha, (Tx.of s).seq hb⟩) (fun i x H2 H3 C Cn hi s hy hC hN => ?_) (fun H' s hD => ?_)
    · rw [List.length_map, List.length_take, steps_len]
      exact Nat.lt_of_le_of_lt (show _ ≤ 200002 by omega) (by decide)
    · obtain ⟨Tp, x1, y1, rfl, nT, rfl, e1, e2⟩ := hy
      obtain ⟨xx, gx, rfl⟩ := map_at e1
      obtain ⟨yy, gy, rfl⟩ := map_at e2
      refine ⟨Tp, _, rfl, SqT.new, rfl, _, _, rfl, _, _, rfl, rfl, rfl, ?_⟩
      walk_at "go"
      refine ⟨b, xx, yy, rfl, ?_⟩
      refine hC _ _ (same_new nT) ?_
      rw [take_snoc (steps_at gx gy), List.map_append]
      rfl
    · walk_at "go"
      refine ⟨D, _, rfl, SqL.at hD, ?_⟩
      rw [List.take_of_length_le (by rw [steps_len]; omega), steps_sum]
      exact q _ (s15.trans s)

end

section
variable {P : Program} {w : World} {K : PySem.W.Frag} {mg : Str → Option Value} {base : Heap} {a : Ad}
/-! ### the law's own bars and steps -/
def barI (b : Bool) (r : Row) : Int := (barO b r).getD (-1)
theorem free_of {b : Bool} {c : Int} {r : Row} (h : 0 ≤ c) : freeB b c r = !decide (c = barI b r) := by
  unfold freeB barI
  cases barO b r with
  | none =>
    show (!decide (V.int c = V.non)) = !decide (c = -1)
    rw [decide_eq_false (fun e => by cases e), decide_eq_false (by omega)]
  | some i =>
    show (!decide (V.int c = V.int i)) = !decide (c = i)
    by_cases e : c = i
    · rw [e, decide_eq_true rfl, decide_eq_true rfl]
    · rw [decide_eq_false e, decide_eq_false (fun z => e (by cases z; rfl))]
def sp_law_bars (K : PySem.W.Frag) : Sp := fun vs H Q _ => ∃ b n v r, vs = [.str (sideS b), v] ∧ Dp K H v (rowD r) ∧ GoodRow n r ∧ Q (.int (barI b r)) H
theorem ok_law_bars (T : Txt K mg a) : FnOk P w K mg base CX0 1 a.f_law_bars a.d_law_bars ["_law_side", "_law_row_here"] (sp_law_bars K) := by
  refine T.F_law_bars.ok sc_law_bars (fun vs H Q E h => ?_) (fun cdv A outer s H vs Q E hr h => ?_)
  · obtain ⟨b, n, v, r, rfl, _⟩ := h
    rfl
  · obtain ⟨b, n, v, r, rfl, hv, ⟨g1, g2, g3, g4, g5⟩, q⟩ := h
    obtain ⟨p, rfl, hp⟩ := of_row hv
    refine ⟨_, (pss_cons (ps_if (pt_cmpR op_eq (pv 0) pe_str (nomark _))
  (pss_one (ps_ret (pe_ifExp (pt_cmpR op_gt (pe_ix (kIxT K rfl) (pv 1) pe_int (fun _ _ => rfl)) (pe_ix (kIxT K rfl) (pv 1) pe_int (fun _ _ => rfl)) (nomark _)) (pe_ix (kIxT K rfl) (pv 1) pe_int (fun _ _ => rfl)) (pe_un un_neg pe_int))))
  pss_nil)
  (pss_one (ps_ret (pe_ifExp (pt_cmpR op_lt (pe_ix (kIxT K rfl) (pv 1) pe_int (fun _ _ => rfl)) (pe_ix (kIxT K rfl) (pv 1) pe_int (fun _ _ => rfl)) (nomark _)) (pe_ix (kIxT K rfl) (pv 1) pe_int (fun _ _ => rfl)) (pe_un un_neg pe_int))))), ?_⟩
    walk_at "go"
    refine ⟨by cases b <;> rfl, ?_⟩
    rw [sideS_left]
    walk_at "go"
    cases b with
    | true =>
      walk_at "go"
      refine g_ixT hp (v := .int r.2.1) rfl ?_
      walk_at "go"
      refine g_ixT hp (v := .int r.1) rfl ?_
      walk_at "go"
      refine g_ite (fun e0 => ?_) (fun e0 => ?_)
      · walk_at "go"
        refine g_ixT hp (v := .int r.2.1) rfl ?_
        have e : barI true r = r.2.1 := by
          unfold barI barO isL placeR
          rw [decide_eq_true e0, if_pos rfl, if_pos e0]
          show r.2.1 - 1 + 1 = r.2.1
          omega
        rw [e] at q
        exact q
      · walk_at "go"
        have e : barI true r = -1 := by
          unfold barI barO isL
          rw [decide_eq_false e0, if_neg (by decide)]
          rfl
        rw [e] at q
        exact q
    | false =>
      walk_at "go"
      refine g_ixT hp (v := .int r.2.1) rfl ?_
      walk_at "go"
      refine g_ixT hp (v := .int r.1) rfl ?_
      walk_at "go"
      refine g_ite (fun e0 => ?_) (fun e0 => ?_)
      · walk_at "go"
        refine g_ixT hp (v := .int r.1) rfl ?_
        have e : barI false r = r.1 := by
          unfold barI barO isL placeR
          rw [decide_eq_false (by omega), if_pos rfl, if_neg (by omega)]
          show r.1 - 1 + 1 = r.1
          omega
        rw [e] at q
        exact q
      · walk_at "go"
        have e : barI false r = -1 := by
          unfold barI barO isL
          rw [decide_eq_true (by omega), if_neg (by decide)]
          rfl
        rw [e] at q
        exact q
/-- where a bar is -/
theorem bar_in {b : Bool} {n : Int} {r : Row} (g : GoodRow n r) : barI b r = -1 ∨ (1 ≤ barI b r ∧ barI b r < n) := by
  have := place_of g
  unfold barI barO
  split
  · exact .inr (by show 1 ≤ placeR r + 1 ∧ placeR r + 1 < n; omega)
  · exact .inl rfl

end

section
variable {P : Program} {w : World} {K : PySem.W.Frag} {mg : Str → Option Value} {base : Heap} {a : Ad}
/-! ### least prices, row by row -/
theorem step_nn (b : Bool) (x y : Int) : 0 ≤ stepP b x y := by
  unfold stepP
  split <;> split <;> omega
theorem step_self (b : Bool) (x : Int) : stepP b x x = 0 := by
  unfold stepP
  split <;> split <;> omega
theorem step_tri (b : Bool) (x y z : Int) : stepP b x z ≤ stepP b x y + stepP b y z := by
  unfold stepP
  split <;> (split <;> split <;> split <;> omega)
theorem step_le {b : Bool} {n x y : Int} (hx : 0 ≤ x ∧ x ≤ n) (hy : 0 ≤ y ∧ y ≤ n) : stepP b x y ≤ n := by
  unfold stepP
  split <;> split <;> omega
/-- the free neighbour of a barred cut, and the one that costs a step -/
def freeN (b : Bool) (k : Int) : Int := if b = true then k + 1 else k - 1
def paidN (b : Bool) (k : Int) : Int := if b = true then k - 1 else k + 1
def minI (x y : Int) : Int := if y < x then y else x
def stepL (b : Bool) (L : Int → Int) (r : Row) : Int → Int := fun c => match barO b r with
  | some k => if c = k then minI (L (freeN b k)) (L (paidN b k) + 1) else L c
  | none => L c
def leastR (b : Bool) (f : Int) (rs : List Row) : Int → Int := rs.foldl (stepL b) (stepP b f)
theorem least_snoc (b : Bool) (f : Int) (rs : List Row) (r : Row) : leastR b f (rs ++ [r]) = stepL b (leastR b f rs) r := by
  unfold leastR
  rw [List.foldl_append]
  rfl
/-- a step more never lowers a price -/
def Closed (b : Bool) (n : Int) (L : Int → Int) : Prop := ∀ x y, 0 ≤ x → x ≤ n → 0 ≤ y → y ≤ n → L y ≤ L x + stepP b x y
theorem bar_some {b : Bool} {n : Int} {r : Row} {k : Int} (g : GoodRow n r) (h : barO b r = some k) : 1 ≤ k ∧ k < n := by
  have := place_of g
  unfold barO at h
  split at h
  · cases h
    omega
  · cases h
theorem minI_le (x y : Int) : minI x y ≤ x ∧ minI x y ≤ y ∧ (minI x y = x ∨ minI x y = y) := by
  unfold minI
  split
  · exact ⟨by omega, Int.le_refl _, .inr rfl⟩
  · exact ⟨Int.le_refl _, by omega, .inl rfl⟩
/-- what it costs to come to the barred cut from any other one -/
theorem bar_from {b : Bool} {n : Int} {L : Int → Int} (h : Closed b n L) {k x : Int} (k1 : 1 ≤ k) (kn : k < n) (x0 : 0 ≤ x) (xn : x ≤ n) (hx : x ≠ k) : minI (L (freeN b k)) (L (paidN b k) + 1) ≤ L x + stepP b x k := by
  obtain ⟨m1, m2, _⟩ := minI_le (L (freeN b k)) (L (paidN b k) + 1)
  have e1 := h x (freeN b k) x0 xn (by unfold freeN; split <;> omega) (by unfold freeN; split <;> omega)
  have e2 := h x (paidN b k) x0 xn (by unfold paidN; split <;> omega) (by unfold paidN; split <;> omega)
  have e3 : stepP b x (freeN b k) ≤ stepP b x k ∨ stepP b x (paidN b k) + 1 ≤ stepP b x k := by
    unfold stepP freeN paidN
    cases b <;> simp only [if_true, if_false, Bool.false_eq_true] <;> (repeat' split) <;> omega
  rcases e3 with e3 | e3 <;> omega
theorem bar_to {b : Bool} {n : Int} {L : Int → Int} (h : Closed b n L) {k y : Int} (k1 : 1 ≤ k) (kn : k < n) (y0 : 0 ≤ y) (yn : y ≤ n) : L y ≤ minI (L (freeN b k)) (L (paidN b k) + 1) + stepP b k y := by
  obtain ⟨_, _, m⟩ := minI_le (L (freeN b k)) (L (paidN b k) + 1)
  have e1 := h (freeN b k) y (by unfold freeN; split <;> omega) (by unfold freeN; split <;> omega) y0 yn
  have e2 := h (paidN b k) y (by unfold paidN; split <;> omega) (by unfold paidN; split <;> omega) y0 yn
  have t1 := step_tri b (freeN b k) k y
  have t2 := step_tri b (paidN b k) k y
  have z1 : stepP b (freeN b k) k = 0 := by
    unfold stepP freeN
    cases b <;> simp only [if_true, if_false, Bool.false_eq_true] <;> (repeat' split) <;> omega
  have z2 : stepP b (paidN b k) k = 1 := by
    unfold stepP paidN
    cases b <;> simp only [if_true, if_false, Bool.false_eq_true] <;> (repeat' split) <;> omega
  rcases m with m | m <;> rw [m] <;> omega
theorem closed_step {b : Bool} {n : Int} {L : Int → Int} {r : Row} (g : GoodRow n r) (h : Closed b n L) : Closed b n (stepL b L r) := by
  intro x y x0 xn y0 yn
  unfold stepL
  cases hb : barO b r with
  | none => exact h x y x0 xn y0 yn
  | some k =>
    obtain ⟨k1, kn⟩ := bar_some g hb
    show (if y = k then _ else L y) ≤ (if x = k then _ else L x) + stepP b x y
    by_cases ex : x = k
    · rw [if_pos ex]
      by_cases ey : y = k
      · rw [if_pos ey]
        have := step_nn b x y
        omega
      · rw [if_neg ey, ex]
        exact bar_to h k1 kn y0 yn
    · rw [if_neg ex]
      by_cases ey : y = k
      · rw [if_pos ey, ey]
        exact bar_from h k1 kn x0 xn ex
      · rw [if_neg ey]
        exact h x y x0 xn y0 yn
theorem closed_least {b : Bool} {n f : Int} : ∀ (rs : List Row) (L : Int → Int), Closed b n L → (∀ r ∈ rs, GoodRow n r) → Closed b n (rs.foldl (stepL b) L)
  | [], _, h, _ => h
  | r :: rs, L, h, hg => closed_least (f := f) rs (stepL b L r) (closed_step (hg r (List.mem_cons_self ..)) h) fun q hq => hg q (List.mem_cons_of_mem _ hq)
theorem least_closed {b : Bool} {n f : Int} {rs : List Row} (hg : ∀ r ∈ rs, GoodRow n r) : Closed b n (leastR b f rs) :=
  closed_least (f := f) rs _ (fun x y _ _ _ _ => step_tri b f x y) hg
/-- no post costs less -/
theorem least_low {b : Bool} {n f : Int} (hf : 0 ≤ f ∧ f ≤ n) : ∀ (rs : List Row) (st : List Int) (L : Int → Int) (x : Int) (pr : Int), Closed b n L → (∀ r ∈ rs, GoodRow n r) → st.length = rs.length → (∀ c ∈ st, 0 ≤ c ∧ c ≤ n) → (stands b rs st).all id = true → 0 ≤ x → x ≤ n → L x ≤ pr → ∀ l, 0 ≤ l → l ≤ n →
    (rs.foldl (stepL b) L) l ≤ pr + costP b x (st ++ [l])
  | [], [], L, x, pr, h, _, _, _, _, x0, xn, hx, l, l0, ln => by
    show L l ≤ pr + (stepP b x l + 0)
    have := h x l x0 xn l0 ln
    omega
  | r :: rs, c :: st, L, x, pr, h, hg, hl, hc, hs, x0, xn, hx, l, l0, ln => by
    show ((rs.foldl (stepL b) (stepL b L r)) l) ≤ pr + (stepP b x c + costP b c (st ++ [l]))
    have hs2 : (freeB b c r && (stands b rs st).all id) = true := hs
    rw [Bool.and_eq_true] at hs2
    obtain ⟨c0, cn⟩ := hc c (List.mem_cons_self ..)
    have hfree := hs2.1
    rw [free_of c0] at hfree
    have hne : c ≠ barI b r := by
      intro e
      rw [e, decide_eq_true rfl] at hfree
      cases hfree
    have e1 := h x c x0 xn c0 cn
    have e2 : stepL b L r c = L c := by
      unfold stepL
      unfold barI at hne
      cases hb : barO b r with
      | none => rfl
      | some k =>
        rw [hb] at hne
        exact if_neg hne
    have := least_low hf rs st (stepL b L r) c (pr + stepP b x c) (closed_step (hg r (List.mem_cons_self ..)) h) (fun q hq => hg q (List.mem_cons_of_mem _ hq)) (by simpa using hl) (fun z hz => hc z (List.mem_cons_of_mem _ hz)) hs2.2 c0 cn (by rw [e2]; omega) l l0 ln
    omega
  | [], _ :: _, _, _, _, _, _, hl, _, _, _, _, _, _, _, _ => by cases hl
  | _ :: _, [], _, _, _, _, _, hl, _, _, _, _, _, _, _, _ => by cases hl
/-- some post costs no more -/
theorem least_post {b : Bool} {n f : Int} {rs : List Row} (hf : 0 ≤ f ∧ f ≤ n) (hg : ∀ r ∈ rs, GoodRow n r) : ∀ i, i ≤ rs.length → ∀ l, 0 ≤ l → l ≤ n →
    ∃ st : List Int, st.length = i ∧ (∀ c ∈ st, 0 ≤ c ∧ c ≤ n) ∧ (∀ (j : Nat) (z : Int) (r : Row), st[j]? = some z → rs[j]? = some r → freeB b z r = true) ∧ costP b f (st ++ [l]) = leastR b f (rs.take i) l
  | 0, _, l, l0, ln => ⟨[], rfl, (fun c hc => by cases hc), (fun j z r h1 _ => by cases h1), by
      show stepP b f l + 0 = stepP b f l
      omega⟩
  | i + 1, hi, l, l0, ln => by
    have gr := List.getElem?_eq_getElem (show i < rs.length by omega)
    have g := hg _ (List.getElem_mem (show i < rs.length by omega))
    generalize rs[i] = r at gr g
    rw [take_snoc gr, least_snoc]
    have add : ∀ d, 0 ≤ d → d ≤ n → d ≠ barI b r → stepL b (leastR b f (rs.take i)) r l = leastR b f (rs.take i) d + stepP b d l →
        ∃ st : List Int, st.length = i + 1 ∧ (∀ c ∈ st, 0 ≤ c ∧ c ≤ n) ∧ (∀ (j : Nat) (z : Int) (r : Row), st[j]? = some z → rs[j]? = some r → freeB b z r = true) ∧ costP b f (st ++ [l]) = stepL b (leastR b f (rs.take i)) r l := by
      intro d d0 dn dne he
      obtain ⟨st, h1, h2, h3, h4⟩ := least_post hf hg i (by omega) d d0 dn
      refine ⟨st ++ [d], by rw [List.length_append, h1]; rfl, fun c hc => ?_, fun j z r' hz hr => ?_, ?_⟩
      · rcases List.mem_append.mp hc with hc | hc
        · exact h2 c hc
        · rw [List.mem_singleton.mp hc]; exact ⟨d0, dn⟩
      · by_cases hj : j < st.length
        · rw [List.getElem?_append_left hj] at hz
          exact h3 j z r' hz hr
        · have hj2 : j < (st ++ [d]).length := (List.getElem?_eq_some_iff.mp hz).1
          rw [List.length_append, List.length_singleton] at hj2
          have ej : j = i := by omega
          subst ej
          rw [List.getElem?_append_right (by omega), show j - st.length = 0 by omega] at hz
          cases hz
          rw [gr] at hr
          cases hr
          rw [free_of d0, decide_eq_false dne]
          rfl
      · rw [cost_snoc, List.getLastD_concat, h4, he]
    cases hb : barO b r with
    | none =>
      refine add l l0 ln (by unfold barI; rw [hb]; show l ≠ -1; omega) ?_
      unfold stepL
      rw [hb, step_self]
      show leastR b f (rs.take i) l = leastR b f (rs.take i) l + 0
      omega
    | some k =>
      obtain ⟨k1, kn⟩ := bar_some g hb
      have hbar : barI b r = k := by unfold barI; rw [hb]; rfl
      by_cases hk : l = k
      · have he : stepL b (leastR b f (rs.take i)) r l = minI (leastR b f (rs.take i) (freeN b k)) (leastR b f (rs.take i) (paidN b k) + 1) := by
          unfold stepL
          rw [hb]
          exact if_pos hk
        have z1 : stepP b (freeN b k) l = 0 := by
          rw [hk]
          unfold stepP freeN
          cases b <;> simp only [if_true, if_false, Bool.false_eq_true] <;> (repeat' split) <;> omega
        have z2 : stepP b (paidN b k) l = 1 := by
          rw [hk]
          unfold stepP paidN
          cases b <;> simp only [if_true, if_false, Bool.false_eq_true] <;> (repeat' split) <;> omega
        obtain ⟨_, _, m⟩ := minI_le (leastR b f (rs.take i) (freeN b k)) (leastR b f (rs.take i) (paidN b k) + 1)
        rcases m with m | m
        · exact add (freeN b k) (by unfold freeN; split <;> omega) (by unfold freeN; split <;> omega) (by rw [hbar]; unfold freeN; split <;> omega) (by rw [he, m, z1]; omega)
        · exact add (paidN b k) (by unfold paidN; split <;> omega) (by unfold paidN; split <;> omega) (by rw [hbar]; unfold paidN; split <;> omega) (by rw [he, m, z2])
      · refine add l l0 ln (by rw [hbar]; exact hk) ?_
        unfold stepL
        rw [hb, step_self]
        show (if l = k then _ else leastR b f (rs.take i) l) = _
        rw [if_neg hk]
        omega
/-- the least price is that of the cheapest post -/
theorem least_is {b : Bool} {n f : Int} {rs : List Row} (hf : 0 ≤ f ∧ f ≤ n) (hg : ∀ r ∈ rs, GoodRow n r) {st : List Int} (hl : st.length = rs.length) (hc : ∀ c ∈ st, 0 ≤ c ∧ c ≤ n) (hs : (stands b rs st).all id = true) {l : Int} (l0 : 0 ≤ l) (ln : l ≤ n) : leastR b f rs l ≤ costP b f (st ++ [l]) := by
  have := least_low hf rs st (stepP b f) f 0 (fun x y _ _ _ _ => step_tri b f x y) hg hl hc hs hf.1 hf.2 (by rw [step_self]; omega) l l0 ln
  show (rs.foldl (stepL b) (stepP b f)) l ≤ _
  omega

end

section
variable {P : Program} {w : World} {K : PySem.W.Frag} {mg : Str → Option Value} {base : Heap} {a : Ad}
/-! ### the cheapest walks -/
def cutsL (n : Int) (L : Int → Int) : List Int := (List.range (n + 1).toNat).map fun (j : Nat) => L (j : Int)
theorem cutsL_len (n : Int) (L : Int → Int) : (cutsL n L).length = (n + 1).toNat := by unfold cutsL; simp
theorem cutsL_at {n : Int} {L : Int → Int} {j : Nat} (h : j < (n + 1).toNat) : (cutsL n L)[j]? = some (L (j : Int)) := by
  unfold cutsL
  rw [List.getElem?_map, List.getElem?_range h]
  rfl
theorem cutsL_get {n : Int} {L : Int → Int} {c : Int} (c0 : 0 ≤ c) (cn : c ≤ n) : atI ((cutsL n L).map V.int) c = some (.int (L c)) := by
  refine atI_at c0 (map_get ?_)
  rw [cutsL_at (by omega), Int.toNat_of_nonneg c0]
theorem cutsL_step {b : Bool} {n : Int} {L : Int → Int} {r : Row} {k : Int} (g : GoodRow n r) (h : barO b r = some k) : (cutsL n L).set k.toNat (minI (L (freeN b k)) (L (paidN b k) + 1)) = cutsL n (stepL b L r) := by
  obtain ⟨k1, kn⟩ := bar_some g h
  refine List.ext_getElem? fun i => ?_
  by_cases hi : i < (n + 1).toNat
  · rw [cutsL_at hi]
    unfold stepL
    rw [h]
    show _ = some (if (i : Int) = k then _ else L (i : Int))
    by_cases e : k.toNat = i
    · rw [← e, List.getElem?_set_self (by rw [cutsL_len]; omega), if_pos (by omega)]
    · rw [List.getElem?_set_ne e, cutsL_at hi, if_neg (by omega)]
  · rw [List.getElem?_eq_none (by rw [List.length_set, cutsL_len]; omega), List.getElem?_eq_none (by rw [cutsL_len]; omega)]
theorem cutsL_none {b : Bool} {n : Int} {L : Int → Int} {r : Row} (h : barO b r = none) : cutsL n (stepL b L r) = cutsL n L := by
  unfold stepL
  rw [h]
/-- how the cheapest walk passes a row -/
def stoodO (b : Bool) (L : Int → Int) (r : Row) : Option Int := match barO b r with
  | some k => some (if L (freeN b k) ≤ L (paidN b k) + 1 then freeN b k else paidN b k)
  | none => none
theorem stood_some {b : Bool} {L : Int → Int} {r : Row} {k : Int} (h : barO b r = some k) : stoodO b L r = some (if L (freeN b k) ≤ L (paidN b k) + 1 then freeN b k else paidN b k) := by
  unfold stoodO
  rw [h]
def optD : Option Int → PyData
  | some i => .int i
  | none => .none
theorem dp_opt {K : PySem.W.Frag} {H : Hp} : ∀ o : Option Int, Dp K H (optV o) (optD o)
  | some i => .int i
  | none => .non
def passD (b : Bool) (f : Int) (rs : List Row) (i : Nat) : List PyData := (List.range i).map fun j => .tuple [optD (barO b (rs.getD j (0, 0, false))), optD (stoodO b (leastR b f (rs.take j)) (rs.getD j (0, 0, false)))]
theorem pass_succ (b : Bool) (f : Int) (rs : List Row) (i : Nat) : passD b f rs (i + 1) = passD b f rs i ++ [.tuple [optD (barO b (rs.getD i (0, 0, false))), optD (stoodO b (leastR b f (rs.take i)) (rs.getD i (0, 0, false)))]] := by
  unfold passD
  rw [List.range_succ, List.map_append]
  rfl
theorem im_optD (o : Option Int) : im (optD o) = true := by cases o <;> rfl
theorem im_pass (b : Bool) (f : Int) (rs : List Row) (i : Nat) : imAll (passD b f rs i) = true := imAll_map (f := fun j => PyData.tuple [optD (barO b (rs.getD j (0, 0, false))), optD (stoodO b (leastR b f (rs.take j)) (rs.getD j (0, 0, false)))]) (fun j => by
  show (im (optD _) && (im (optD _) && true)) = true
  rw [im_optD, im_optD]
  rfl) _
theorem g_par {i j : Nat} {ta : TA} {D : Ends} {σ : L2.St} {H : Hp} (q : ta σ H fun vs H1 => ∃ v w, vs = [v, w] ∧ D.nx ((σ.set i (some v)).set j (some w)) H1) : tPar i j ta D σ H := q
def sp_cheapest_walks (K : PySem.W.Frag) (C : Addr) : Sp := fun vs H Q _ => ∃ l n rs b f, vs = [l, .str (sideS b), .int f] ∧ LogAt K C H l n rs ∧ AnyLog n rs ∧ 0 ≤ f ∧ f ≤ n ∧ ∀ H' t ll pl xs, Same H H' → SqT K H' t [.ref ll, .ref pl] → H' ll = some (.lst ((cutsL n (leastR b f rs)).map V.int)) → H' pl = some (.lst xs) → DpAll K H' xs (passD b f rs rs.length) → Q (.ref t) H'
theorem ok_cheapest_walks (T : Txt K mg a) : FnOk P w K mg base CX0 3 a.f_cheapest_walks a.d_cheapest_walks ["log", "side", "first"] (sp_cheapest_walks K a.c_Log) := by
  refine T.F_cheapest_walks.ok sc_cheapest_walks (fun vs H Q E h => ?_) (fun cdv A outer s H vs Q E hr h => ?_)
  · obtain ⟨l, n, rs, b, f, rfl, _⟩ := h
    rfl
  · obtain ⟨l, n, rs, b, f, rfl, hlog, ⟨n1, n12, hmax, hgood⟩, f0, fn, q⟩ := h
    obtain ⟨la, ldx, p, rfl, hla, hrd⟩ := hlog
    obtain ⟨_, ys, e, hp, ha⟩ := of_tup hrd
    cases e
    have hl := DpAll.len ha
    rw [List.length_map] at hl
    refine ⟨_, (pss_cons (ps_set (i := 3) sc_cheapest_walks.nd rfl (.inl rfl) (pe_ifExp (pt_cmpR op_eq (pv 1) pe_str (nomark _)) (pe_un un_neg pe_int) pe_int))
  (pss_cons (ps_setLc (i := 5) (own := [("cut", 4)]) (g := (gName 4)) rfl sc_cheapest_walks.nd rfl rfl (sw_true rfl rfl rfl (by decide +kernel)) (pi_range1 rfl T.z_range (pa_cons (pe_op op_add (kpFld K rfl (pv 0) rfl) pe_int) pa_nil)) (blkOk_by (own := [("cut", 4)]) (N := ["log", "side", "first", "free_way", "cut", "least", "passing", "row", "stood", "free", "paid"]) (sc := defScope s_cheapest_walks) (by decide +kernel)) (fun _ _ _ _ _ => (pg_name (i := 4) sc_cheapest_walks.nd rfl (.inl rfl))) (fun _ _ _ _ _ => pts_nil) (fun _ _ _ _ _ => (pe_call (ok_walk_price T) (hr.mono (by first | decide | omega)) (by rfl) T.g_walk_price T.F_walk_price.kp (T.b_walk_price) .nil pass0 (pa_cons (pv 1) (pa_cons (pv 2) (pa_cons (pv 4) pa_nil))))))
  (pss_cons (ps_set (i := 6) sc_cheapest_walks.nd rfl (.inl rfl) (pe_lst pa_nil))
  (pss_cons (ps_for PassesOwn.never rfl (kiTup K rfl (kpFld K rfl (pv 0) rfl)) (pg_name (i := 7) sc_cheapest_walks.nd rfl (.inl rfl))
  (pss_cons (ps_set (i := 4) sc_cheapest_walks.nd rfl (.inl rfl) (pe_call (ok_barred_cut T) (hr.mono (by first | decide | omega)) (by rfl) T.g_barred_cut T.F_barred_cut.kp (T.b_barred_cut) .nil pass0 (pa_cons (pv 1) (pa_cons (pv 7) pa_nil))))
  (pss_cons (ps_set (i := 8) sc_cheapest_walks.nd rfl (.inl rfl) pe_non)
  (pss_cons (ps_if (pt_cmpR op_notN (pv 4) pe_non (nomark _))
  (pss_cons (ps_par (i := 9) (j := 10) (by rfl) sc_cheapest_walks.nd rfl rfl (by decide) rfl rfl (pa_cons (pe_op op_sub (pv 4) (pv 3)) (pa_cons (pe_op op_add (pv 4) (pv 3)) pa_nil)) (by rfl))
  (pss_cons (ps_set (i := 8) sc_cheapest_walks.nd rfl (.inl rfl) (pe_ifExp (pt_cmpR op_le (pe_ix (kIxL K rfl) (pv 5) (pv 9) (fun _ _ => rfl)) (pe_op op_add (pe_ix (kIxL K rfl) (pv 5) (pv 10) (fun _ _ => rfl)) pe_int) (nomark _)) (pv 9) (pv 10)))
  (pss_one (ps_asg (pe_callB (call_min2 rfl) (by rfl) T.z_min (by decide +kernel) (pa_cons (pe_ix (kIxL K rfl) (pv 5) (pv 9) (fun _ _ => rfl)) (pa_cons (pe_op op_add (pe_ix (kIxL K rfl) (pv 5) (pv 10) (fun _ _ => rfl)) pe_int) pa_nil))) (pg_sub (pv 5) (pv 4) set_list)))))
  pss_nil)
  (pss_one (ps_expr (pe_bm PySem.F.plainAttrs_list PySem.F.slot_list_append PySem.F.type_list_append mt_append (pv 6) (pa_cons (pe_tup (pa_cons (pv 4) (pa_cons (pv 8) pa_nil))) pa_nil))))))))
  (pss_one (ps_ret (pe_tup (pa_cons (pv 5) (pa_cons (pv 6) pa_nil))))))))), ?_⟩
    walk_at "gs"
    refine seq_cut (fun σ' H' => σ' = [some (.ref la), some (.str (sideS b)), some (.int f), some (.int (if b = true then -1 else 1)), none, none, none, none, none, none, none] ∧ H' = H) ?_ ?_
    · rintro σ' H0 ⟨rfl, rfl⟩
      walk_at "go"
      refine ⟨_, _, _, _, _, rfl, hla, T.cl_Log, T.n_Log_offices, rfl, ?_⟩
      walk_at "go"
      refine ⟨_, rfl, by omega, by omega, fun D nD => ?_⟩
      refine lc_same (H0 := H0) walk_rng0 (fun i => ((cutsL n (stepP b f)).take i).map V.int) rfl (fun i _ => ?_) (Same.refl _) nD nD (fun _ _ => trivial) (fun i x H2 H3 C Cn hi s hy hC hN => ?_) (fun H1 s1 hD => ?_)
      · rw [List.length_map, List.length_take, cutsL_len]
        exact small1000 (by omega)
      · obtain ⟨rfl, rfl⟩ := hy
        refine ⟨rfl, ?_⟩
        walk_at "go"
        refine ⟨b, f, ((i : Nat) : Int), rfl, ?_⟩
        refine hC _ _ (Same.refl _) ?_
        rw [take_snoc (cutsL_at hi), List.map_append]
        rfl
      · rw [List.take_of_length_le (by rw [cutsL_len]; exact Nat.le_refl _)] at hD
        walk_at "go"
        refine ⟨Nat.zero_le _, fun PD nPD => ?_⟩
        have s2 : Same H0 (upd H1 PD (.lst [])) := s1.trans (same_new nPD)
        have nPD0 : H0 PD = none := s1.free nPD
        have nD0' := nD
        have nDP : D ≠ PD := ne_of_none hD nPD
        have hD2 : (upd H1 PD (.lst [])) D = some (.lst ((cutsL n (stepP b f)).map V.int)) := by rw [upd_ne nDP]; exact hD
        walk_at "go"
        refine ⟨_, _, _, _, _, rfl, s2 _ _ hla, T.cl_Log, T.n_Log_rows, rfl, ?_⟩
        refine ⟨p, rfl, ⟨_, (Tx.of s2).seq hp⟩, ?_⟩
        refine for_it (walk_tup (K := K) (a := p) (xs := ys)) (fun i σ H' => ∃ y4 y7 y8 y9 y10 xs, σ = [some (.ref la), some (.str (sideS b)), some (.int f), some (.int (if b = true then -1 else 1)), y4, some (.ref D), some (.ref PD), y7, y8, y9, y10] ∧ Same H0 H' ∧ H' D = some (.lst ((cutsL n (leastR b f (rs.take i))).map V.int)) ∧ H' PD = some (.lst xs) ∧ DpAll K H' xs (passD b f rs i))
          ⟨_, _, _, _, _, [], rfl, s2, hD2, upd_same, .nil⟩ (fun i σ H' _ hP => ?_) (fun i x σ H3 H4 hi hP hy => ?_) (fun σ H' hP => ?_)
        · obtain ⟨y4, y7, y8, y9, y10, xs, rfl, sm, _⟩ := hP
          exact (Tx.of sm).seq hp
        · obtain ⟨y4, y7, y8, y9, y10, xs, rfl, sm, hD3, hP3, hxs⟩ := hP
          obtain ⟨rfl, hx⟩ := hy
          obtain ⟨dd, gd, rd⟩ := DpAll.get ha hx
          obtain ⟨r, gr, rfl⟩ := map_at gd
          have hg := hgood r (List.mem_of_getElem? gr)
          have hxl : xs.length = i := by rw [DpAll.len hxs]; unfold passD; simp
          have egr : rs.getD i (0, 0, false) = r := by rw [List.getD_eq_getElem?_getD, gr]; rfl
          have hpass : passD b f rs (i + 1) = passD b f rs i ++ [.tuple [optD (barO b r), optD (stoodO b (leastR b f (rs.take i)) r)]] := by rw [pass_succ, egr]
          have imp := im_pass b f rs (i + 1)
          have hle : leastR b f (rs.take (i + 1)) = stepL b (leastR b f (rs.take i)) r := by rw [take_snoc gr, least_snoc]
          generalize leastR b f (rs.take i) = L at *
          walk_at "go"
          refine ⟨b, x, r, rfl, Dp.same sm _ _ rd, ?_⟩
          walk_at "gs"
          refine g_seq ?_
          walk_at "gs"
          refine seq_cut (fun σ' H' => ∃ y9 y10, σ' = [some (.ref la), some (.str (sideS b)), some (.int f), some (.int (if b = true then -1 else 1)), some (optV (barO b r)), some (.ref D), some (.ref PD), some x, some (optV (stoodO b L r)), y9, y10] ∧ Same H0 H' ∧ Tx H4 H' ∧ H' D = some (.lst ((cutsL n (stepL b L r)).map V.int)) ∧ H' PD = some (.lst xs)) ?_ ?_
          · rintro σ' H5 ⟨y9, y10, rfl, s5, t5, hD5, hP5⟩
            walk_at "go"
            refine ⟨.inl ⟨rfl, _, SqL.at hP5⟩, ?_⟩
            walk_at "go"
            refine ⟨by show 2 ≤ sizeLine; decide, fun t1 nt1 => ?_⟩
            have s6 : Same H5 (upd H5 t1 (.tup [optV (barO b r), optV (stoodO b L r)])) := same_new nt1
            refine ⟨PD, xs, .ref t1, rfl, rfl, s6 _ _ hP5, by rw [hxl]; exact Nat.lt_of_le_of_lt (show i ≤ 100000 by omega) (by decide), ?_⟩
            refine ⟨_, _, _, _, _, xs ++ [.ref t1], rfl, Same.put (s5.trans s6) nPD0, ?_, upd_same, ?_⟩
            · rw [upd_ne nDP, hle]
              exact s6 _ _ hD5
            · rw [hpass]
              rw [hpass] at imp
              exact Dp.txAll (Tx.lst (s6 _ _ hP5)) _ _ imp (DpAll.snoc (Dp.txAll (t5.trans (Tx.of s6)) _ _ (im_pass b f rs i) hxs) (.tup SqT.new (.cons (dp_opt _) (.cons (dp_opt _) .nil))))
          · intro N hN
            cases hb : barO b r with
            | none =>
              walk_at "go"
              refine ⟨rfl, ?_⟩
              walk_at "go"
              refine hN _ _ ⟨y9, y10, ?_, sm, Tx.refl _, by rw [cutsL_none hb]; exact hD3, hP3⟩
              unfold stoodO
              rw [hb]
              rfl
            | some k =>
              obtain ⟨k1, kn⟩ := bar_some hg hb
              have ef : k - (if b = true then -1 else 1) = freeN b k := by unfold freeN; split <;> omega
              have ep : k + (if b = true then -1 else 1) = paidN b k := by unfold paidN; split <;> omega
              have gf : atI ((cutsL n L).map V.int) (freeN b k) = some (.int (L (freeN b k))) := cutsL_get (by unfold freeN; split <;> omega) (by unfold freeN; split <;> omega)
              have gp : atI ((cutsL n L).map V.int) (paidN b k) = some (.int (L (paidN b k))) := cutsL_get (by unfold paidN; split <;> omega) (by unfold paidN; split <;> omega)
              walk_at "go"
              refine ⟨rfl, ?_⟩
              rw [show optV (some k) = V.int k from rfl, show decide (V.int k = V.non) = false from decide_eq_false (fun e => by cases e)]
              walk_at "go"
              refine g_par ?_
              walk_at "go"
              rw [ef, ep]
              refine ⟨_, _, rfl, ?_⟩
              walk_at "go"
              refine g_ixL (SqL.at hD3) gf ?_
              walk_at "go"
              refine g_ixL (SqL.at hD3) gp ?_
              walk_at "go"
              refine g_ite (fun e0 => ?_) (fun e0 => ?_)
              all_goals
                walk_at "go"
                refine g_ixL (SqL.at hD3) gf ?_
                walk_at "go"
                refine g_ixL (SqL.at hD3) gp ?_
                walk_at "go"
                refine ⟨_, _, rfl, ?_⟩
                walk_at "go"
                refine g_setL hD3 (ixN_at (by omega) (by rw [List.length_map, cutsL_len]; omega)) ?_
                refine hN _ _ ⟨some (.int (freeN b k)), some (.int (paidN b k)), ?_, Same.put sm nD0', Tx.lst hD3, ?_, by rw [upd_ne nDP.symm]; exact hP3⟩
                · rw [stood_some hb]
                  first | (rw [if_pos e0, hb]; rfl) | (rw [if_neg e0, hb]; rfl)
                · rw [upd_same, ← cutsL_step hg hb, List.map_set]
                  rfl
        · obtain ⟨y4, y7, y8, y9, y10, xs, rfl, sm, hD3, hP3, hxs⟩ := hP
          rw [hl, List.take_length] at hD3
          rw [hl] at hxs
          walk_at "go"
          refine ⟨by show 2 ≤ sizeLine; decide, fun t1 nt1 => ?_⟩
          have s6 : Same H' (upd H' t1 (.tup [.ref D, .ref PD])) := same_new nt1
          exact q _ t1 D PD xs (sm.trans s6) SqT.new (s6 _ _ hD3) (s6 _ _ hP3) (Dp.sameAll s6 _ _ hxs)
    · intro N hN
      walk_at "go"
      refine ⟨rfl, ?_⟩
      rw [sideS_left]
      cases b with
      | true =>
        walk_at "go"
        exact hN _ _ ⟨rfl, rfl⟩
      | false =>
        walk_at "go"
        exact hN _ _ ⟨rfl, rfl⟩

end

section
variable {P : Program} {w : World} {K : PySem.W.Frag} {mg : Str → Option Value} {base : Heap} {a : Ad}
/-! ### the price -/
def sp_check_cut : Sp := fun vs H Q _ => ∃ n c, vs = [.int n, .int c] ∧ 0 ≤ c ∧ c ≤ n ∧ Q .non H
theorem ok_check_cut (T : Txt K mg a) : FnOk P w K mg base CX0 4 a.f_check_cut a.d_check_cut ["offices", "cut"] sp_check_cut := by
  refine T.F_check_cut.ok sc_check_cut (fun vs H Q E h => ?_) (fun cdv A outer s H vs Q E hr h => ?_)
  · obtain ⟨n, c, rfl, _⟩ := h
    rfl
  · obtain ⟨n, c, rfl, c0, cn, q⟩ := h
    refine ⟨_, (pss_one (ps_if (pt_not (pt_val (pe_call (ok_is_number T) (hr.mono (by first | decide | omega)) (by rfl) T.g_is_number T.F_is_number.kp (T.b_is_number) .nil pass0 (pa_cons (pv 1) (pa_cons (pe_op op_add (pv 0) pe_int) pa_nil)))))
  (pss_one ps_never)
  pss_nil)), ?_⟩
    walk_at "go"
    refine ⟨_, _, rfl, .inl ⟨c, rfl, ?_⟩⟩
    rw [decide_eq_true (show 0 ≤ c ∧ c < n + 1 from ⟨c0, by omega⟩)]
    walk_at "go"
    exact q
def sp_check_ends (K : PySem.W.Frag) (C : Addr) : Sp := fun vs H Q _ => ∃ l n rs b f e, vs = [l, .str (sideS b), .int f, .int e] ∧ LogAt K C H l n rs ∧ 0 ≤ f ∧ f ≤ n ∧ 0 ≤ e ∧ e ≤ n ∧ Q .non H
theorem ok_check_ends (T : Txt K mg a) : FnOk P w K mg base CX0 5 a.f_check_ends a.d_check_ends ["log", "side", "first", "last"] (sp_check_ends K a.c_Log) := by
  refine T.F_check_ends.ok sc_check_ends (fun vs H Q E h => ?_) (fun cdv A outer s H vs Q E hr h => ?_)
  · obtain ⟨l, n, rs, b, f, e, rfl, _⟩ := h
    rfl
  · obtain ⟨l, n, rs, b, f, e, rfl, hlog, f0, fn, e0, en, q⟩ := h
    obtain ⟨la, ldx, p, rfl, hla, hrd⟩ := hlog
    refine ⟨_, (pss_cons (ps_expr (pe_call (ok_check_side T) (hr.mono (by first | decide | omega)) (by rfl) T.g_check_side T.F_check_side.kp (T.b_check_side) .nil pass0 (pa_cons (pv 1) pa_nil)))
  (pss_cons (ps_expr (pe_call (ok_check_cut T) (hr.mono (by first | decide | omega)) (by rfl) T.g_check_cut T.F_check_cut.kp (T.b_check_cut) .nil pass0 (pa_cons (kpFld K rfl (pv 0) rfl) (pa_cons (pv 2) pa_nil))))
  (pss_one (ps_expr (pe_call (ok_check_cut T) (hr.mono (by first | decide | omega)) (by rfl) T.g_check_cut T.F_check_cut.kp (T.b_check_cut) .nil pass0 (pa_cons (kpFld K rfl (pv 0) rfl) (pa_cons (pv 3) pa_nil))))))), ?_⟩
    walk_at "go"
    refine ⟨b, rfl, ?_⟩
    walk_at "go"
    refine ⟨_, _, _, _, _, rfl, hla, T.cl_Log, T.n_Log_offices, rfl, ?_⟩
    walk_at "go"
    refine ⟨n, f, rfl, f0, fn, ?_⟩
    walk_at "go"
    refine ⟨_, _, _, _, _, rfl, hla, T.cl_Log, T.n_Log_offices, rfl, ?_⟩
    walk_at "go"
    refine ⟨n, e, rfl, e0, en, ?_⟩
    walk_at "go"
    exact q

end

section
variable {P : Program} {w : World} {K : PySem.W.Frag} {mg : Str → Option Value} {base : Heap} {a : Ad}
/-! ### the cheapest post, from behind -/
def passAt (b : Bool) (f : Int) (rs : List Row) (i : Nat) (l : Int) : Int := match barO b (rs.getD i (0, 0, false)) with
  | some k => if l = k then (if leastR b f (rs.take i) (freeN b k) ≤ leastR b f (rs.take i) (paidN b k) + 1 then freeN b k else paidN b k) else l
  | none => l
def backF (b : Bool) (f : Int) (rs : List Row) : Nat → Int → List Int
  | 0, _ => []
  | i + 1, l => backF b f rs i (passAt b f rs i l) ++ [passAt b f rs i l]
theorem back_ok {b : Bool} {n f : Int} {rs : List Row} (hf : 0 ≤ f ∧ f ≤ n) (hg : ∀ r ∈ rs, GoodRow n r) : ∀ i, i ≤ rs.length → ∀ l, 0 ≤ l → l ≤ n →
    (backF b f rs i l).length = i ∧ (∀ c ∈ backF b f rs i l, 0 ≤ c ∧ c ≤ n) ∧ (∀ (j : Nat) (z : Int) (r : Row), (backF b f rs i l)[j]? = some z → rs[j]? = some r → freeB b z r = true) ∧ costP b f (backF b f rs i l ++ [l]) = leastR b f (rs.take i) l
  | 0, _, l, l0, ln => ⟨rfl, (fun c hc => by cases hc), (fun j z r h1 _ => by cases h1), by
      show stepP b f l + 0 = stepP b f l
      omega⟩
  | i + 1, hi, l, l0, ln => by
    have gr := List.getElem?_eq_getElem (show i < rs.length by omega)
    have g := hg _ (List.getElem_mem (show i < rs.length by omega))
    generalize rs[i] = r at gr g
    have egr : rs.getD i (0, 0, false) = r := by rw [List.getD_eq_getElem?_getD, gr]; rfl
    rw [take_snoc gr, least_snoc]
    show (backF b f rs i (passAt b f rs i l) ++ [passAt b f rs i l]).length = i + 1 ∧ (∀ c ∈ backF b f rs i (passAt b f rs i l) ++ [passAt b f rs i l], 0 ≤ c ∧ c ≤ n) ∧ (∀ (j : Nat) (z : Int) (r : Row), (backF b f rs i (passAt b f rs i l) ++ [passAt b f rs i l])[j]? = some z → rs[j]? = some r → freeB b z r = true) ∧ costP b f ((backF b f rs i (passAt b f rs i l) ++ [passAt b f rs i l]) ++ [l]) = _
    have add : ∀ d, passAt b f rs i l = d → 0 ≤ d → d ≤ n → d ≠ barI b r → stepL b (leastR b f (rs.take i)) r l = leastR b f (rs.take i) d + stepP b d l →
        (backF b f rs i (passAt b f rs i l) ++ [passAt b f rs i l]).length = i + 1 ∧ (∀ c ∈ backF b f rs i (passAt b f rs i l) ++ [passAt b f rs i l], 0 ≤ c ∧ c ≤ n) ∧ (∀ (j : Nat) (z : Int) (r : Row), (backF b f rs i (passAt b f rs i l) ++ [passAt b f rs i l])[j]? = some z → rs[j]? = some r → freeB b z r = true) ∧ costP b f ((backF b f rs i (passAt b f rs i l) ++ [passAt b f rs i l]) ++ [l]) = stepL b (leastR b f (rs.take i)) r l := by
      intro d ed d0 dn dne he
      rw [ed]
      obtain ⟨h1, h2, h3, h4⟩ := back_ok hf hg i (by omega) d d0 dn
      refine ⟨by rw [List.length_append, h1]; rfl, fun c hc => ?_, fun j z r' hz hr => ?_, ?_⟩
      · rcases List.mem_append.mp hc with hc | hc
        · exact h2 c hc
        · rw [List.mem_singleton.mp hc]; exact ⟨d0, dn⟩
      · by_cases hj : j < (backF b f rs i d).length
        · rw [List.getElem?_append_left hj] at hz
          exact h3 j z r' hz hr
        · have hj2 : j < (backF b f rs i d ++ [d]).length := (List.getElem?_eq_some_iff.mp hz).1
          rw [List.length_append, List.length_singleton] at hj2
          have ej : j = i := by omega
          subst ej
          rw [List.getElem?_append_right (by omega), show j - (backF b f rs j d).length = 0 by omega] at hz
          cases hz
          rw [gr] at hr
          cases hr
          rw [free_of d0, decide_eq_false dne]
          rfl
      · rw [cost_snoc, List.getLastD_concat, h4, he]
    cases hb : barO b r with
    | none =>
      refine add l (by unfold passAt; rw [egr, hb]) l0 ln (by unfold barI; rw [hb]; show l ≠ -1; omega) ?_
      unfold stepL
      rw [hb, step_self]
      show leastR b f (rs.take i) l = leastR b f (rs.take i) l + 0
      omega
    | some k =>
      obtain ⟨k1, kn⟩ := bar_some g hb
      have hbar : barI b r = k := by unfold barI; rw [hb]; rfl
      by_cases hk : l = k
      · have he : stepL b (leastR b f (rs.take i)) r l = minI (leastR b f (rs.take i) (freeN b k)) (leastR b f (rs.take i) (paidN b k) + 1) := by
          unfold stepL
          rw [hb]
          exact if_pos hk
        have z1 : stepP b (freeN b k) l = 0 := by
          rw [hk]
          unfold stepP freeN
          cases b <;> simp only [if_true, if_false, Bool.false_eq_true] <;> (repeat' split) <;> omega
        have z2 : stepP b (paidN b k) l = 1 := by
          rw [hk]
          unfold stepP paidN
          cases b <;> simp only [if_true, if_false, Bool.false_eq_true] <;> (repeat' split) <;> omega
        have ep : passAt b f rs i l = if leastR b f (rs.take i) (freeN b k) ≤ leastR b f (rs.take i) (paidN b k) + 1 then freeN b k else paidN b k := by
          unfold passAt
          rw [egr, hb]
          exact if_pos hk
        by_cases c : leastR b f (rs.take i) (freeN b k) ≤ leastR b f (rs.take i) (paidN b k) + 1
        · rw [if_pos c] at ep
          refine add (freeN b k) ep (by unfold freeN; split <;> omega) (by unfold freeN; split <;> omega) (by rw [hbar]; unfold freeN; split <;> omega) ?_
          rw [he, z1]
          unfold minI
          rw [if_neg (by omega)]
          omega
        · rw [if_neg c] at ep
          refine add (paidN b k) ep (by unfold paidN; split <;> omega) (by unfold paidN; split <;> omega) (by rw [hbar]; unfold paidN; split <;> omega) ?_
          rw [he, z2]
          unfold minI
          rw [if_pos (by omega)]
      · refine add l (by unfold passAt; rw [egr, hb]; exact if_neg hk) l0 ln (by rw [hbar]; exact hk) ?_
        unfold stepL
        rw [hb, step_self]
        show (if l = k then _ else leastR b f (rs.take i) l) = _
        rw [if_neg hk]
        omega
theorem back_all {b : Bool} {n f l : Int} {rs : List Row} (hf : 0 ≤ f ∧ f ≤ n) (hg : ∀ r ∈ rs, GoodRow n r) (l0 : 0 ≤ l) (ln : l ≤ n) : WfPost n rs f (backF b f rs rs.length l) l ∧ (stands b rs (backF b f rs rs.length l)).all id = true ∧ costP b f (backF b f rs rs.length l ++ [l]) = leastR b f rs l := by
  obtain ⟨h1, h2, h3, h4⟩ := back_ok (b := b) hf hg rs.length (Nat.le_refl _) l l0 ln
  rw [List.take_length] at h4
  refine ⟨⟨hf.1, hf.2, l0, ln, h1, h2⟩, ?_, h4⟩
  rw [List.all_eq_true]
  intro x hx
  unfold stands at hx
  obtain ⟨⟨c, r⟩, hp, rfl⟩ := List.mem_map.mp hx
  obtain ⟨i, hi⟩ := List.mem_iff_getElem?.mp hp
  obtain ⟨g1, g2⟩ := List.getElem?_zip_eq_some.mp hi
  exact h3 i c r g1 g2
theorem of_optD {K : PySem.W.Frag} {H : Hp} {v : V} {o : Option Int} (h : Dp K H v (optD o)) : v = optV o := by
  cases o with
  | none => cases h; rfl
  | some i => cases h; rfl
theorem of_passD {K : PySem.W.Frag} {H : Hp} {v : V} {o q : Option Int} (h : Dp K H v (.tuple [optD o, optD q])) : ∃ t, v = .ref t ∧ SqT K H t [optV o, optV q] := by
  cases h with
  | tup s r =>
    cases r with
    | cons r1 r2 =>
      cases r2 with
      | cons r3 r4 =>
        cases r4
        rw [of_optD r1, of_optD r3] at s
        exact ⟨_, rfl, s⟩
theorem pass_at {b : Bool} {f : Int} {rs : List Row} {i : Nat} {r : Row} (hi : i < rs.length) (gr : rs[i]? = some r) : (passD b f rs rs.length)[i]? = some (.tuple [optD (barO b r), optD (stoodO b (leastR b f (rs.take i)) r)]) := by
  have egr : rs.getD i (0, 0, false) = r := by rw [List.getD_eq_getElem?_getD, gr]; rfl
  unfold passD
  rw [List.getElem?_map, List.getElem?_range hi, ← egr]
  rfl
def sp_post (K : PySem.W.Frag) (C : Addr) : Sp := fun vs H Q _ => ∃ l n rs b f e, vs = [l, .str (sideS b), .int f, .int e] ∧ LogAt K C H l n rs ∧ AnyLog n rs ∧ 0 ≤ f ∧ f ≤ n ∧ 0 ≤ e ∧ e ≤ n ∧ ∀ H' v, Same H H' → Dp K H' v (postD f (backF b f rs rs.length e) e) → Q v H'
theorem ok_post (T : Txt K mg a) : FnOk P w K mg base CX0 6 a.f_post a.d_post ["log", "side", "first", "last"] (sp_post K a.c_Log) := by
  refine T.F_post.ok sc_post (fun vs H Q E h => ?_) (fun cdv A outer s H vs Q E hr h => ?_)
  · obtain ⟨l, n, rs, b, f, e, rfl, _⟩ := h
    rfl
  · obtain ⟨l, n, rs, b, f, e, rfl, hlog, hG, f0, fn, e0, en, q⟩ := h
    obtain ⟨n1, n12, hmax, hgood⟩ := id hG
    refine ⟨_, (pss_cons (ps_expr (pe_call (ok_check_ends T) (hr.mono (by first | decide | omega)) (by rfl) T.g_check_ends T.F_check_ends.kp (T.b_check_ends) .nil pass0 (pa_cons (pv 0) (pa_cons (pv 1) (pa_cons (pv 2) (pa_cons (pv 3) pa_nil))))))
  (pss_cons (ps_asg (pe_call (ok_cheapest_walks T) (hr.mono (by first | decide | omega)) (by rfl) T.g_cheapest_walks T.F_cheapest_walks.kp (T.b_cheapest_walks) .nil pass0 (pa_cons (pv 0) (pa_cons (pv 1) (pa_cons (pv 2) pa_nil)))) (kgTup K rfl rfl (pgs_cons (pg_name (i := 4) sc_post.nd rfl (.inl rfl)) (pgs_cons (pg_name (i := 5) sc_post.nd rfl (.inl rfl)) pgs_nil))))
  (pss_cons (ps_set (i := 6) sc_post.nd rfl (.inl rfl) (pv 3))
  (pss_cons (ps_set (i := 7) sc_post.nd rfl (.inl rfl) (pe_lst pa_nil))
  (pss_cons (ps_for PassesOwn.never rfl (kiList K rfl (keRevL K rfl (pv 5))) (kgTup K rfl rfl (pgs_cons (pg_name (i := 8) sc_post.nd rfl (.inl rfl)) (pgs_cons (pg_name (i := 9) sc_post.nd rfl (.inl rfl)) pgs_nil)))
  (pss_cons (ps_if (pt_cmpR op_eq (pv 6) (pv 8) (nomark _))
  (pss_one (ps_set (i := 6) sc_post.nd rfl (.inl rfl) (pv 9)))
  pss_nil)
  (pss_one (ps_expr (pe_bm PySem.F.plainAttrs_list PySem.F.slot_list_append PySem.F.type_list_append mt_append (pv 7) (pa_cons (pv 6) pa_nil))))))
  (pss_one (ps_ret (pe_tup (pa_cons (pv 2) (pa_cons (pe_callTy (kTupOf K rfl) (by rfl) T.z_tuple (by decide +kernel) (pa_cons (keRevL K rfl (pv 7)) pa_nil)) (pa_cons (pv 3) pa_nil))))))))))), ?_⟩
    walk_at "go"
    refine ⟨l, n, rs, b, f, e, rfl, hlog, f0, fn, e0, en, ?_⟩
    walk_at "go"
    refine ⟨l, n, rs, b, f, rfl, hlog, hG, f0, fn, fun H1 t ll pl xs s1 ht hll hpl hxs => ?_⟩
    refine ⟨t, _, rfl, ht, rfl, _, _, rfl, _, _, rfl, rfl, ?_⟩
    have hxl : xs.length = rs.length := by rw [DpAll.len hxs]; unfold passD; simp
    walk_at "go"
    refine ⟨Nat.zero_le _, fun D nD => ?_⟩
    have s2 : Same H1 (upd H1 D (.lst [])) := same_new nD
    have nD0 : H D = none := s1.free nD
    walk_at "go"
    refine g_revL ?_
    walk_at "go"
    refine ⟨pl, xs, rfl, SqL.at (s2 _ _ hpl), fun R nR => ?_⟩
    have s3 : Same H1 (upd (upd H1 D (.lst [])) R (.lst xs.reverse)) := s2.trans (same_new nR)
    have nDR : D ≠ R := ne_of_none upd_same nR
    refine ⟨R, rfl, ⟨_, SqL.new⟩, ?_⟩
    have hD0 : (upd (upd H1 D (.lst [])) R (.lst xs.reverse)) D = some (.lst ([] : List V)) := by rw [upd_ne nDR, upd_same]
    have hR0 : (upd (upd H1 D (.lst [])) R (.lst xs.reverse)) R = some (.lst xs.reverse) := upd_same
    generalize upd (upd H1 D (.lst [])) R (.lst xs.reverse) = H3 at *
    have t13 : Tx H1 H3 := Tx.of s3
    refine for_it (walk_list (K := K) (a := R) (xs := xs.reverse)) (fun j σ H' => ∃ (now : Int) (S : List Int), ∃ y4 y5 y7 y8, σ = [some l, some (.str (sideS b)), some (.int f), some (.int e), y4, y5, some (.int now), some (.ref D), y7, y8] ∧ Same H H' ∧ Tx H3 H' ∧ H' R = some (.lst xs.reverse) ∧ H' D = some (.lst (S.map V.int)) ∧ 0 ≤ now ∧ now ≤ n ∧ S.length = j ∧ backF b f rs rs.length e = backF b f rs (rs.length - j) now ++ S.reverse)
      ⟨e, [], _, _, _, _, rfl, s1.trans s3, Tx.refl _, hR0, hD0, e0, en, rfl, by rw [Nat.sub_zero, List.reverse_nil, List.append_nil]⟩ (fun j σ H' _ hP => ?_) (fun j z σ H4 H4' hj hP hy => ?_) (fun σ H' hP => ?_)
    · obtain ⟨_, _, _, _, _, _, _, _, _, hR, _⟩ := hP
      exact SqL.at hR
    · obtain ⟨now, S, y4, y5, y7, y8, rfl, sm, t4, hR, hD, c0, cn, hSl, hbk⟩ := hP
      obtain ⟨rfl, hz⟩ := hy
      rw [List.length_reverse, hxl] at hj
      have hi : rs.length - 1 - j < rs.length := by omega
      have gr := List.getElem?_eq_getElem hi
      have hg := hgood _ (List.getElem_mem hi)
      generalize rs[rs.length - 1 - j] = r at gr hg
      have egr : rs.getD (rs.length - 1 - j) (0, 0, false) = r := by rw [List.getD_eq_getElem?_getD, gr]; rfl
      rw [List.getElem?_reverse (by omega), hxl] at hz
      have dz := DpAll.at hxs hz (pass_at hi gr)
      have him : im (.tuple [optD (barO b r), optD (stoodO b (leastR b f (rs.take (rs.length - 1 - j))) r)]) = true := by
        show (im (optD _) && (im (optD _) && true)) = true
        rw [im_optD, im_optD]
        rfl
      obtain ⟨tp, rfl, htp⟩ := of_passD (Dp.tx (t13.trans t4) _ _ him dz)
      have esub : rs.length - j = (rs.length - 1 - j) + 1 := by omega
      have hstep : ∀ now', passAt b f rs (rs.length - 1 - j) now = now' → backF b f rs rs.length e = backF b f rs (rs.length - (j + 1)) now' ++ (S ++ [now']).reverse := fun now' hn => by
        rw [hbk, esub, List.reverse_append]
        show (backF b f rs (rs.length - 1 - j) (passAt b f rs (rs.length - 1 - j) now) ++ [passAt b f rs (rs.length - 1 - j) now]) ++ S.reverse = _
        rw [hn, show rs.length - (j + 1) = rs.length - 1 - j by omega, List.append_assoc]
        rfl
      have nDR' : R ≠ D := nDR.symm
      refine ⟨tp, _, rfl, htp, rfl, _, _, rfl, _, _, rfl, rfl, ?_⟩
      walk_at "gs"
      refine seq_cut (fun σ' H' => ∃ now' y7 y8, σ' = [some l, some (.str (sideS b)), some (.int f), some (.int e), y4, y5, some (.int now'), some (.ref D), y7, y8] ∧ H' = H4' ∧ passAt b f rs (rs.length - 1 - j) now = now' ∧ 0 ≤ now' ∧ now' ≤ n) ?_ ?_
      · rintro σ' H5 ⟨now', y7, y8, rfl, rfl, hn, c0', cn'⟩
        walk_at "go"
        refine ⟨.inl ⟨rfl, _, SqL.at hD⟩, ?_⟩
        walk_at "go"
        refine ⟨D, _, .int now', rfl, rfl, hD, by rw [List.length_map, hSl]; exact Nat.lt_of_le_of_lt (show j ≤ 100000 by omega) (by decide), ?_⟩
        refine ⟨now', S ++ [now'], _, _, _, _, rfl, Same.put sm nD0, t4.trans (Tx.lst hD), by rw [upd_ne nDR']; exact hR, ?_, c0', cn', by rw [List.length_append, hSl]; rfl, hstep now' hn⟩
        rw [upd_same, List.map_append]
        rfl
      · intro N hN
        cases hb : barO b r with
        | none =>
          walk_at "go"
          refine ⟨rfl, ?_⟩
          rw [show decide (V.int now = optV none) = false from decide_eq_false (fun e => by cases e)]
          walk_at "go"
          refine hN _ _ ⟨now, _, _, rfl, rfl, ?_, c0, cn⟩
          unfold passAt
          rw [egr, hb]
        | some k =>
          obtain ⟨k1, kn⟩ := bar_some hg hb
          walk_at "go"
          refine ⟨rfl, ?_⟩
          rw [show decide (V.int now = optV (some k)) = decide (now = k) from by show decide (V.int now = V.int k) = _; simp only [V.int.injEq]]
          walk_at "go"
          refine g_ite (fun c1 => ?_) (fun c1 => ?_)
          · walk_at "go"
            rw [stood_some hb]
            refine hN _ _ ⟨_, _, _, rfl, rfl, ?_, ?_, ?_⟩
            · unfold passAt
              rw [egr, hb]
              exact if_pos c1
            · unfold freeN paidN
              split <;> split <;> omega
            · unfold freeN paidN
              split <;> split <;> omega
          · walk_at "go"
            refine hN _ _ ⟨now, _, _, rfl, rfl, ?_, c0, cn⟩
            unfold passAt
            rw [egr, hb]
            exact if_neg c1
    · obtain ⟨now, S, y4, y5, y7, y8, rfl, sm, t4, hR, hD, c0, cn, hSl, hbk⟩ := hP
      rw [List.length_reverse, hxl] at hbk
      rw [Nat.sub_self] at hbk
      have hbk2 : backF b f rs rs.length e = S.reverse := hbk
      walk_at "go"
      refine g_revL ?_
      walk_at "go"
      refine ⟨D, _, rfl, SqL.at hD, fun W nW => ?_⟩
      rw [← List.map_reverse]
      refine ⟨W, _, rfl, .inl ⟨SqL.new, fun t2 nt2 => ?_⟩⟩
      walk_at "go"
      refine ⟨by show 3 ≤ sizeLine; decide, fun t3 nt3 => ?_⟩
      have s5 := same_new (o := .lst (S.reverse.map V.int)) nW
      have s6 := same_new (o := .tup (S.reverse.map V.int)) nt2
      have s7 := same_new (o := .tup [.int f, .ref t2, .int e]) nt3
      refine q _ _ (sm.trans (s5.trans (s6.trans s7))) ?_
      rw [hbk2]
      exact .tup SqT.new (.cons (.int f) (.cons (dp_ints ((Tx.of s7).seq SqT.new)) (.cons (.int e) .nil)))

end

section
variable {P : Program} {w : World} {K : PySem.W.Frag} {mg : Str → Option Value} {base : Heap} {a : Ad}
/-! ### a drawn post -/
theorem stands_all {b : Bool} {rs : List Row} {st : List Int} (h : ∀ (j : Nat) (c : Int) (r : Row), st[j]? = some c → rs[j]? = some r → freeB b c r = true) : (stands b rs st).all id = true := by
  rw [List.all_eq_true]
  intro x hx
  unfold stands at hx
  obtain ⟨⟨c, r⟩, hp, rfl⟩ := List.mem_map.mp hx
  obtain ⟨i, hi⟩ := List.mem_iff_getElem?.mp hp
  obtain ⟨h1, h2⟩ := List.getElem?_zip_eq_some.mp hi
  exact h i c r h1 h2
def sp_law_drawn_post (K : PySem.W.Frag) : Sp := fun vs H Q _ => ∃ (d c : Addr) (n : Int) (b : Bool) (rv : V) (rs : List Row), vs = [.ref d, .int n, rv, .str (sideS b)] ∧ Dice d c H ∧ Dp K H rv (rowsD rs) ∧ 1 ≤ n ∧ n ≤ 12 ∧ rs.length ≤ 60 ∧ (∀ r ∈ rs, GoodRow n r) ∧ ∀ H' v f st l, Fr d H H' → Dice d c H' → Dp K H' v (postD f st l) → WfPost n rs f st l → (stands b rs st).all id = true → Q v H'
theorem ok_law_drawn_post (T : Txt K mg a) : FnOk P w K mg base CX0 2 a.f_law_drawn_post a.d_law_drawn_post ["_law_hand_here", "_law_offices_here", "_law_rows_here", "_law_side"] (sp_law_drawn_post K) := by
  refine T.F_law_drawn_post.ok sc_law_drawn_post (fun vs H Q E h => ?_) (fun cdv A outer s H vs Q E hr h => ?_)
  · obtain ⟨d, c, n, b, rv, rs, rfl, _⟩ := h
    rfl
  · obtain ⟨d, c, n, b, rv, rs, rfl, hD, hrv, n1, n12, hmax, hgood, q⟩ := h
    obtain ⟨p, ys, rfl, hp, ha⟩ := of_tup hrv
    have hl := DpAll.len ha
    rw [List.length_map] at hl
    refine ⟨_, (pss_cons (ps_set (i := 4) sc_law_drawn_post.nd rfl (.inl rfl) (pe_lst pa_nil))
  (pss_cons (ps_set (i := 5) sc_law_drawn_post.nd rfl (.inl rfl) (pe_call (ok_law_draw T) (hr.mono (by first | decide | omega)) (by rfl) T.g_law_draw T.F_law_draw.kp (T.b_law_draw) .nil pass0 (pa_cons (pv 0) (pa_cons (pe_op op_add (pv 1) pe_int) pa_nil))))
  (pss_cons (ps_set (i := 6) sc_law_drawn_post.nd rfl (.inl rfl) (pv 5))
  (pss_cons (ps_for PassesOwn.never rfl (kiTup K rfl (pv 2)) (pg_name (i := 7) sc_law_drawn_post.nd rfl (.inl rfl))
  (pss_cons (ps_if (pt_cmpR op_eq (pe_call (ok_law_draw T) (hr.mono (by first | decide | omega)) (by rfl) T.g_law_draw T.F_law_draw.kp (T.b_law_draw) .nil pass0 (pa_cons (pv 0) (pa_cons pe_int pa_nil))) pe_int (nomark _))
  (pss_one (ps_set (i := 5) sc_law_drawn_post.nd rfl (.inl rfl) (pe_call (ok_law_draw T) (hr.mono (by first | decide | omega)) (by rfl) T.g_law_draw T.F_law_draw.kp (T.b_law_draw) .nil pass0 (pa_cons (pv 0) (pa_cons (pe_op op_add (pv 1) pe_int) pa_nil)))))
  pss_nil)
  (pss_cons (ps_if (pt_cmpR op_eq (pv 5) (pe_call (ok_law_bars T) (hr.mono (by first | decide | omega)) (by rfl) T.g_law_bars T.F_law_bars.kp (T.b_law_bars) .nil pass0 (pa_cons (pv 3) (pa_cons (pv 7) pa_nil))) (nomark _))
  (pss_one (ps_set (i := 5) sc_law_drawn_post.nd rfl (.inl rfl) (pe_ifExp (PW.pt (pw_or (pt_cmpR op_eq (pv 5) (pv 1) (nomark _)) (pw_or1 (pt_cmpR op_eq (pe_call (ok_law_draw T) (hr.mono (by first | decide | omega)) (by rfl) T.g_law_draw T.F_law_draw.kp (T.b_law_draw) .nil pass0 (pa_cons (pv 0) (pa_cons pe_int pa_nil))) pe_int (nomark _))))) (pe_op op_sub (pv 5) pe_int) (pe_op op_add (pv 5) pe_int))))
  pss_nil)
  (pss_one (ps_expr (pe_bm PySem.F.plainAttrs_list PySem.F.slot_list_append PySem.F.type_list_append mt_append (pv 4) (pa_cons (pv 5) pa_nil)))))))
  (pss_one (ps_ret (pe_tup (pa_cons (pv 6) (pa_cons (pe_callTy (kTupOf K rfl) (by rfl) T.z_tuple (by decide +kernel) (pa_cons (pv 4) pa_nil)) (pa_cons (pe_call (ok_law_draw T) (hr.mono (by first | decide | omega)) (by rfl) T.g_law_draw T.F_law_draw.kp (T.b_law_draw) .nil pass0 (pa_cons (pv 0) (pa_cons (pe_op op_add (pv 1) pe_int) pa_nil))) pa_nil)))))))))), ?_⟩
    walk_at "go"
    refine ⟨Nat.zero_le _, fun D nD => ?_⟩
    have nDd := hD.nd nD
    have nDc := hD.nc nD
    have hD0 := hD.new (o := .lst []) nD
    walk_at "go"
    refine ⟨d, c, n + 1, rfl, hD0, by omega, by omega, fun H1 f f1 hD1 f0 fn => ?_⟩
    have hl1 : H1 D = some (.lst []) := f1 _ _ nDd upd_same
    have fr1 : Fr d H H1 := (Fr.new nD).trans f1
    walk_at "go"
    refine ⟨p, rfl, ⟨_, (hD.tx fr1).seq hp⟩, ?_⟩
    refine for_it (walk_tup (K := K) (a := p) (xs := ys)) (fun i σ H' => ∃ hh y7, σ = [some (.ref d), some (.int n), some (.ref p), some (.str (sideS b)), some (.ref D), some (.int hh), some (.int f), y7] ∧ 0 ≤ hh ∧ hh ≤ n ∧ Fr d H H' ∧ Dice d c H' ∧ ∃ st : List Int, H' D = some (.lst (st.map V.int)) ∧ st.length = i ∧ (∀ z ∈ st, 0 ≤ z ∧ z ≤ n) ∧ ∀ (j : Nat) (z : Int) (r : Row), st[j]? = some z → rs[j]? = some r → freeB b z r = true)
      ⟨f, _, rfl, f0, by omega, fr1, hD1, [], hl1, rfl, (fun z hz => by cases hz), (fun j z r h1 _ => by cases h1)⟩ (fun i σ H' _ hP => ?_) (fun i x σ H2 H3 hi hP hy => ?_) (fun σ H' hP => ?_)
    · obtain ⟨hh, y7, rfl, _, _, fr, _⟩ := hP
      exact (hD.tx fr).seq hp
    · obtain ⟨hh, y7, rfl, hh0, hhn, fr, hD2, st, hst, hsl, hsb, hsf⟩ := hP
      obtain ⟨rfl, hx⟩ := hy
      obtain ⟨dd, gd, rd⟩ := DpAll.get ha hx
      obtain ⟨r, gr, rfl⟩ := map_at gd
      have hg := hgood r (List.mem_of_getElem? gr)
      have him : im (rowD r) = true := im_rowD r
      walk_at "gs"
      refine seq_cut (fun σ' H' => ∃ hh, σ' = [some (.ref d), some (.int n), some (.ref p), some (.str (sideS b)), some (.ref D), some (.int hh), some (.int f), some x] ∧ 0 ≤ hh ∧ hh ≤ n ∧ Fr d H H' ∧ Dice d c H' ∧ H' D = some (.lst (st.map V.int))) ?_ ?_
      · rintro σ' H4 ⟨hh, rfl, hh0, hhn, fr4, hD4, hst4⟩
        refine seq_cut (fun σ' H' => ∃ hh, σ' = [some (.ref d), some (.int n), some (.ref p), some (.str (sideS b)), some (.ref D), some (.int hh), some (.int f), some x] ∧ 0 ≤ hh ∧ hh ≤ n ∧ Fr d H H' ∧ Dice d c H' ∧ H' D = some (.lst (st.map V.int)) ∧ hh ≠ barI b r) ?_ ?_
        · rintro σ' H5 ⟨hh, rfl, hh0, hhn, fr5, hD5, hst5, hbar⟩
          walk_at "go"
          refine ⟨.inl ⟨rfl, _, SqL.at hst5⟩, ?_⟩
          walk_at "go"
          refine ⟨D, _, .int hh, rfl, rfl, hst5, by rw [List.length_map]; exact small1000 (by omega), ?_⟩
          refine ⟨hh, _, rfl, hh0, hhn, Fr.put fr5 nD, hD5.put nDd nDc, st ++ [hh], ?_, by rw [List.length_append, hsl]; rfl, fun z hz => ?_, fun j z r' h1 h2 => ?_⟩
          · rw [upd_same, List.map_append]
            rfl
          · rcases List.mem_append.mp hz with hz | hz
            · exact hsb z hz
            · rw [List.mem_singleton.mp hz]; exact ⟨hh0, hhn⟩
          · by_cases hj : j < st.length
            · rw [List.getElem?_append_left hj] at h1
              exact hsf j z r' h1 h2
            · have hj2 : j < (st ++ [hh]).length := (List.getElem?_eq_some_iff.mp h1).1
              rw [List.length_append, List.length_singleton] at hj2
              have ej : j = i := by omega
              subst ej
              rw [List.getElem?_append_right (by omega), show j - st.length = 0 by omega] at h1
              cases h1
              rw [gr] at h2
              cases h2
              rw [free_of hh0, decide_eq_false hbar]
              rfl
        · intro N hN
          walk_at "go"
          refine ⟨b, n, x, r, rfl, Dp.tx (hD.tx fr4) _ _ him rd, hg, ?_⟩
          walk_at "go"
          refine g_ite (fun e0 => ?_) (fun e0 => ?_)
          · have hb := bar_in (b := b) hg
            walk_at "go"
            refine g_ite (fun e1 => ?_) (fun e1 => ?_)
            · exfalso
              omega
            · walk_at "go"
              refine ⟨d, c, 2, rfl, hD4, by decide, by decide, fun H5 z f5 hD5 _ _ => ?_⟩
              walk_at "go"
              refine g_ite (fun e2 => ?_) (fun e2 => ?_)
              · walk_at "go"
                exact hN _ _ ⟨hh - 1, rfl, by omega, by omega, fr4.trans f5, hD5, f5 _ _ nDd hst4, by omega⟩
              · walk_at "go"
                exact hN _ _ ⟨hh + 1, rfl, by omega, by omega, fr4.trans f5, hD5, f5 _ _ nDd hst4, by omega⟩
          · walk_at "go"
            exact hN _ _ ⟨hh, rfl, hh0, hhn, fr4, hD4, hst4, e0⟩
      · intro N hN
        walk_at "go"
        refine ⟨d, c, 3, rfl, hD2, by decide, by decide, fun H4 z f4 hD4 _ _ => ?_⟩
        walk_at "go"
        refine g_ite (fun e0 => ?_) (fun e0 => ?_)
        · walk_at "go"
          refine ⟨d, c, n + 1, rfl, hD4, by omega, by omega, fun H5 h5 f5 hD5 h50 h5n => ?_⟩
          walk_at "go"
          exact hN _ _ ⟨h5, rfl, h50, by omega, (fr.trans f4).trans f5, hD5, f5 _ _ nDd (f4 _ _ nDd hst)⟩
        · walk_at "go"
          exact hN _ _ ⟨hh, rfl, hh0, hhn, fr.trans f4, hD4, f4 _ _ nDd hst⟩
    · obtain ⟨hh, y7, rfl, _, _, fr, hD2, st, hst, hsl, hsb, hsf⟩ := hP
      walk_at "go"
      refine ⟨D, _, rfl, .inl ⟨SqL.at hst, fun t1 nt1 => ?_⟩⟩
      have s3 : Same H' (upd H' t1 (.tup (st.map V.int))) := same_new nt1
      have hD3 := hD2.fr s3
      walk_at "go"
      refine ⟨d, c, n + 1, rfl, hD3, by omega, by omega, fun H4 l f4 hD4 l0 ln => ?_⟩
      walk_at "go"
      refine ⟨by show 3 ≤ sizeLine; decide, fun t2 nt2 => ?_⟩
      have ht1 : SqT K (upd H4 t2 (.tup [.int f, .ref t1, .int l])) t1 (st.map V.int) := (Tx.of (same_new nt2)).seq ((hD3.tx f4).seq SqT.new)
      exact q _ _ f st l (((fr.trans (Fr.of s3)).trans f4).trans (Fr.new nt2)) (hD4.new nt2) (.tup SqT.new (.cons (.int f) (.cons (dp_ints ht1) (.cons (.int l) .nil)))) ⟨f0, by omega, l0, by omega, by omega, hsb⟩ (stands_all hsf)

end

section
variable {P : Program} {w : World} {K : PySem.W.Frag} {mg : Str → Option Value} {base : Heap} {a : Ad}
def sp_law_some (K : PySem.W.Frag) : Sp := fun vs H Q _ => ∃ (d c p : Addr) (zs : List V), vs = [.ref d, .ref p] ∧ Dice d c H ∧ H p = some (.lst zs) ∧ p ≠ d ∧ 0 < zs.length ∧ zs.length ≤ 1000 ∧ ∀ H' z, Fr d H H' → Dice d c H' → z ∈ zs → Q z H'
theorem ok_law_some (T : Txt K mg a) : FnOk P w K mg base CX0 2 a.f_law_some a.d_law_some ["_law_hand_here", "_law_things"] (sp_law_some K) := by
  refine T.F_law_some.ok sc_law_some (fun vs H Q E h => ?_) (fun cdv A outer s H vs Q E hr h => ?_)
  · obtain ⟨d, c, p, zs, rfl, _⟩ := h
    rfl
  · obtain ⟨d, c, p, zs, rfl, hD, hp, hne, l1, l2, q⟩ := h
    refine ⟨_, (pss_one (ps_ret (pe_ix (kIxL K rfl) (pv 1) (pe_call (ok_law_draw T) (hr.mono (by first | decide | omega)) (by rfl) T.g_law_draw T.F_law_draw.kp (T.b_law_draw) .nil pass0 (pa_cons (pv 0) (pa_cons (pe_callB (kLen K rfl) (by rfl) T.z_len (by decide +kernel) (pa_cons (pv 1) pa_nil)) pa_nil))) (fun _ _ => rfl)))), ?_⟩
    walk_at "go"
    refine ⟨_, _, rfl, .inl (SqL.at hp), ?_⟩
    walk_at "go"
    refine ⟨d, c, (zs.length : Nat), rfl, hD, by omega, by omega, fun H1 k f1 hD1 k0 k1 => ?_⟩
    have gz := List.getElem?_eq_getElem (show k.toNat < zs.length by omega)
    refine g_ixL (SqL.at (f1 _ _ hne hp)) (atI_at k0 gz) ?_
    exact q _ _ f1 hD1 (List.mem_of_getElem? gz)

end

section
variable {P : Program} {w : World} {K : PySem.W.Frag} {mg : Str → Option Value} {base : Heap} {a : Ad}
/-! ### editions that pass -/
def listD (es : List (Option Int)) : PyData := .tuple (es.map optD)
theorem tupI_list (hs : List Int) : tupI hs = listD (hs.map some) := by
  unfold listD
  rw [List.map_map]
  rfl
theorem vals_opt {K : PySem.W.Frag} {H : Hp} : ∀ {xs : List V} {es : List (Option Int)}, DpAll K H xs (es.map optD) → xs = es.map optV
  | [], [], _ => rfl
  | _, _ :: _, .cons h r => by
    rw [of_optD h, vals_opt r]
    rfl
theorem dpAll_opt {K : PySem.W.Frag} {H : Hp} : ∀ es : List (Option Int), DpAll K H (es.map optV) (es.map optD)
  | [] => .nil
  | o :: es => .cons (dp_opt o) (dpAll_opt es)
theorem of_list {K : PySem.W.Frag} {H : Hp} {v : V} {es : List (Option Int)} (h : Dp K H v (listD es)) : ∃ p, v = .ref p ∧ SqT K H p (es.map optV) := by
  obtain ⟨p, xs, rfl, hp, ha⟩ := of_tup h
  rw [vals_opt ha] at hp
  exact ⟨p, rfl, hp⟩
theorem dp_list {K : PySem.W.Frag} {H : Hp} {p : Addr} {es : List (Option Int)} (h : SqT K H p (es.map optV)) : Dp K H (.ref p) (listD es) := .tup h (dpAll_opt es)
theorem im_listD (es : List (Option Int)) : im (listD es) = true := by
  show imAll (es.map optD) = true
  exact imAll_map im_optD _
/-- the editions that are there -/
def there (es : List (Option Int)) : List Int := es.filterMap id
theorem there_snoc (es : List (Option Int)) (o : Option Int) : there (es ++ [o]) = there es ++ o.toList := by
  unfold there
  rw [List.filterMap_append]
  cases o <;> rfl
theorem there_len (es : List (Option Int)) : (there es).length ≤ es.length := List.length_filterMap_le _ _
theorem mem_there {es : List (Option Int)} {z : Int} : z ∈ there es ↔ some z ∈ es := by
  unfold there
  rw [List.mem_filterMap]
  constructor
  · rintro ⟨o, ho, e⟩
    have e' : o = some z := e
    rw [← e']
    exact ho
  · intro h
    exact ⟨_, h, rfl⟩
def sideP (b : Bool) (f z : Int) : Bool := decide (f ≤ z) == b
def segO {α : Type} (b : Bool) (l : Int) (es : List α) : List α := if b = true then es.take l.toNat else es.drop l.toNat
def passL (b : Bool) (f l : Int) (es : List (Option Int)) : List Int := (there (segO b l es)).filter (sideP b f)
theorem segO_len {α : Type} (b : Bool) (l : Int) (es : List α) : (segO b l es).length ≤ es.length := by
  unfold segO
  split
  · rw [List.length_take]; omega
  · rw [List.length_drop]; omega
theorem passL_len (b : Bool) (f l : Int) (es : List (Option Int)) : (passL b f l es).length ≤ es.length := Nat.le_trans (List.length_filter_le _ _) (Nat.le_trans (there_len _) (segO_len b l es))
theorem cutV_seg {b : Bool} {l : Int} (l0 : 0 ≤ l) (xs : List V) : (if b = true then cutV xs none (some l) else cutV xs (some l) none) = segO b l xs := by
  have e : l = ((l.toNat : Nat) : Int) := by omega
  unfold segO
  split
  · conv => lhs; rw [e]
    exact cutV_take _ _
  · conv => lhs; rw [e]
    exact cutV_drop _ _
theorem segO_map {α β : Type} (g : α → β) (b : Bool) (l : Int) (es : List α) : segO b l (es.map g) = (segO b l es).map g := by
  unfold segO
  split
  · rw [List.map_take]
  · rw [List.map_drop]
theorem up_nodup {xs : List Int} (h : xs.Pairwise (· < ·)) : xs.Nodup := h.imp fun h => by omega
/-- an ascending list of those that pass -/
def UpOf (out ns : List Int) : Prop := out.Pairwise (· < ·) ∧ ∀ k, k ∈ out ↔ k ∈ ns
theorem UpOf.len {out ns : List Int} (h : UpOf out ns) : out.length ≤ ns.length := List.Nodup.length_le_of_subset (up_nodup h.1) fun k hk => (h.2 k).mp hk
theorem up_unique : ∀ {xs ys : List Int}, xs.Pairwise (· < ·) → ys.Pairwise (· < ·) → (∀ k, k ∈ xs ↔ k ∈ ys) → xs = ys
  | [], [], _, _, _ => rfl
  | [], y :: _, _, _, h => absurd ((h y).mpr (List.mem_cons_self ..)) (by simp)
  | x :: _, [], _, _, h => absurd ((h x).mp (List.mem_cons_self ..)) (by simp)
  | x :: xs, y :: ys, hx, hy, h => by
    rw [List.pairwise_cons] at hx hy
    have e : x = y := by
      rcases List.mem_cons.mp ((h x).mp (List.mem_cons_self ..)) with e | e
      · exact e
      · rcases List.mem_cons.mp ((h y).mpr (List.mem_cons_self ..)) with e2 | e2
        · exact e2.symm
        · have := hy.1 x e
          have := hx.1 y e2
          omega
    subst e
    rw [up_unique hx.2 hy.2 fun k => ?_]
    constructor
    · intro hk
      rcases List.mem_cons.mp ((h k).mp (List.mem_cons_of_mem _ hk)) with e | e
      · have := hx.1 k hk
        omega
      · exact e
    · intro hk
      rcases List.mem_cons.mp ((h k).mpr (List.mem_cons_of_mem _ hk)) with e | e
      · have := hy.1 k hk
        omega
      · exact e
theorem UpOf.same {o1 o2 ns : List Int} (h : UpOf o1 ns) (k : UpOf o2 ns) : o1 = o2 := up_unique h.1 k.1 fun j => (h.2 j).trans (k.2 j).symm
theorem nn0 : (!decide (optV none = V.non)) = false := by decide
theorem nn1 (z : Int) : (!decide (optV (some z) = V.non)) = true := by rw [decide_eq_false (fun e => by cases e)]; rfl
def sp_law_passing (K : PySem.W.Frag) : Sp := fun vs H Q _ => ∃ b f l v es, vs = [.str (sideS b), .int f, .int l, v] ∧ Dp K H v (listD es) ∧ es.length ≤ 12 ∧ 0 ≤ l ∧ ∀ H' v' out, Same H H' → Dp K H' v' (tupI out) → UpOf out (passL b f l es) → Q v' H'
theorem ok_law_passing (T : Txt K mg a) : FnOk P w K mg base CX0 1 a.f_law_passing a.d_law_passing ["_law_side", "_law_first", "_law_last", "_law_editions"] (sp_law_passing K) := by
  refine T.F_law_passing.ok sc_law_passing (fun vs H Q E h => ?_) (fun cdv A outer s H vs Q E hr h => ?_)
  · obtain ⟨b, f, l, v, es, rfl, _⟩ := h
    rfl
  · obtain ⟨b, f, l, v, es, rfl, hv, hl, l0, q⟩ := h
    obtain ⟨p, rfl, hp⟩ := of_list hv
    refine ⟨_, (pss_cons (ps_if (pt_cmpR op_eq (pv 0) pe_str (nomark _))
  (pss_one (ps_setLc (i := 4) (own := [("_law_one", 5)]) (g := (gName 5)) rfl sc_law_passing.nd rfl rfl (sw_true rfl rfl rfl (by decide +kernel)) (kiTup K rfl (pe_slice (kSlA K rfl) (pv 3) po_none (po_some (pv 2)))) (blkOk_by (own := [("_law_one", 5)]) (N := ["_law_side", "_law_first", "_law_last", "_law_editions", "_law_some_here", "_law_one"]) (sc := defScope s_law_passing) (by decide +kernel)) (fun _ _ _ _ _ => (pg_name (i := 5) sc_law_passing.nd rfl (.inl rfl))) (fun _ _ _ _ _ => (pts_one (PW.pt (pw_and (pt_cmpR op_notN (pv 5) pe_non (nomark _)) (pw_and1 (pt_cmpR op_ge (pv 5) (pv 1) (nomark _))))))) (fun _ _ _ _ _ => (pv 5))))
  (pss_one (ps_setLc (i := 4) (own := [("_law_one", 5)]) (g := (gName 5)) rfl sc_law_passing.nd rfl rfl (sw_true rfl rfl rfl (by decide +kernel)) (kiTup K rfl (pe_slice (kSlA K rfl) (pv 3) (po_some (pv 2)) po_none)) (blkOk_by (own := [("_law_one", 5)]) (N := ["_law_side", "_law_first", "_law_last", "_law_editions", "_law_some_here", "_law_one"]) (sc := defScope s_law_passing) (by decide +kernel)) (fun _ _ _ _ _ => (pg_name (i := 5) sc_law_passing.nd rfl (.inl rfl))) (fun _ _ _ _ _ => (pts_one (PW.pt (pw_and (pt_cmpR op_notN (pv 5) pe_non (nomark _)) (pw_and1 (pt_cmpR op_lt (pv 5) (pv 1) (nomark _))))))) (fun _ _ _ _ _ => (pv 5)))))
  (pss_one (ps_ret (pe_callTy (kTupOf K rfl) (by rfl) T.z_tuple (by decide +kernel) (pa_cons (keSortSetL K rfl rfl (by rfl) T.z_sorted (by rfl) T.z_set (pv 4)) pa_nil))))), ?_⟩
    refine seq_cut (fun σ' H' => ∃ D y5, σ' = [some (.str (sideS b)), some (.int f), some (.int l), some (.ref p), some (.ref D), y5] ∧ Same H H' ∧ H' D = some (.lst ((passL b f l es).map V.int))) ?_ ?_
    · rintro σ' H1 ⟨D, y5, rfl, s1, hD⟩
      walk_at "go"
      refine g_sortSetL ?_
      walk_at "go"
      refine ⟨D, _, rfl, SqL.at hD, Nat.lt_of_le_of_lt (passL_len b f l es) (by omega), fun out p1 hup hmem np1 => ?_⟩
      have hU : UpOf out (passL b f l es) := ⟨hup, hmem⟩
      walk_at "go"
      refine ⟨p1, _, rfl, .inl ⟨SqL.new, fun t1 nt1 => ?_⟩⟩
      exact q _ _ out (s1.trans ((same_new np1).trans (same_new nt1))) (dp_ints SqT.new) hU
    · intro N hN
      walk_at "go"
      refine ⟨rfl, ?_⟩
      rw [sideS_left]
      have hseg := cutV_seg (b := b) l0 (es.map optV)
      rw [segO_map] at hseg
      have hsl := segO_len b l es
      cases b with
      | true =>
        walk_at "go"
        refine g_slA hp (fun p2 H2 s2 h2 => ?_)
        rw [if_pos rfl] at hseg
        rw [hseg] at h2
        refine ⟨p2, rfl, ⟨_, h2⟩, fun D nD => ?_⟩
        unfold passL at hN
        generalize segO true l es = sg at h2 hN hsl
        refine lc_same (H0 := H2) (walk_tup (K := K) (a := p2) (xs := sg.map optV)) (fun i => ((there (sg.take i)).filter (sideP true f)).map V.int) rfl (fun i _ => ?_) (Same.refl _) nD nD (fun H' s => (Tx.of s).seq h2) (fun i x H3 H4 C Cn hi s hy hC hN' => ?_) (fun H' s hD => ?_)
        · rw [List.length_map]
          exact small1000 (Nat.le_trans (List.length_filter_le _ _) (Nat.le_trans (there_len _) (by rw [List.length_take]; omega)))
        · obtain ⟨rfl, hx⟩ := hy
          obtain ⟨o, go, rfl⟩ := map_at hx
          refine ⟨rfl, ?_⟩
          cases o with
          | none =>
            walk_at "go"
            refine ⟨rfl, ?_⟩
            rw [nn0]
            walk_at "go"
            refine hN' _ (Same.refl _) ?_
            rw [take_snoc go, there_snoc]
            show ((there (sg.take i) ++ []).filter _).map V.int = _
            rw [List.append_nil]
          | some z =>
            walk_at "go"
            refine ⟨rfl, ?_⟩
            rw [nn1, show optV (some z) = V.int z from rfl]
            walk_at "go"
            refine g_ite (fun e0 => ?_) (fun e0 => ?_)
            · walk_at "go"
              refine hC _ _ (Same.refl _) ?_
              rw [take_snoc go, there_snoc]
              show ((there (sg.take i) ++ [z]).filter _).map V.int = _
              rw [List.filter_append, List.map_append, filt1 (p := sideP true f) (by unfold sideP; rw [decide_eq_true e0]; rfl)]
              rfl
            · refine hN' _ (Same.refl _) ?_
              rw [take_snoc go, there_snoc]
              show ((there (sg.take i) ++ [z]).filter _).map V.int = _
              rw [List.filter_append, filt0 (p := sideP true f) (by unfold sideP; rw [decide_eq_false e0]; decide), List.append_nil]
        · rw [List.length_map, List.take_length] at hD
          walk_at "go"
          exact hN _ _ ⟨D, _, rfl, s2.trans s, hD⟩
      | false =>
        walk_at "go"
        refine g_slA hp (fun p2 H2 s2 h2 => ?_)
        rw [if_neg (by decide)] at hseg
        rw [hseg] at h2
        refine ⟨p2, rfl, ⟨_, h2⟩, fun D nD => ?_⟩
        unfold passL at hN
        generalize segO false l es = sg at h2 hN hsl
        refine lc_same (H0 := H2) (walk_tup (K := K) (a := p2) (xs := sg.map optV)) (fun i => ((there (sg.take i)).filter (sideP false f)).map V.int) rfl (fun i _ => ?_) (Same.refl _) nD nD (fun H' s => (Tx.of s).seq h2) (fun i x H3 H4 C Cn hi s hy hC hN' => ?_) (fun H' s hD => ?_)
        · rw [List.length_map]
          exact small1000 (Nat.le_trans (List.length_filter_le _ _) (Nat.le_trans (there_len _) (by rw [List.length_take]; omega)))
        · obtain ⟨rfl, hx⟩ := hy
          obtain ⟨o, go, rfl⟩ := map_at hx
          refine ⟨rfl, ?_⟩
          cases o with
          | none =>
            walk_at "go"
            refine ⟨rfl, ?_⟩
            rw [nn0]
            walk_at "go"
            refine hN' _ (Same.refl _) ?_
            rw [take_snoc go, there_snoc]
            show ((there (sg.take i) ++ []).filter _).map V.int = _
            rw [List.append_nil]
          | some z =>
            walk_at "go"
            refine ⟨rfl, ?_⟩
            rw [nn1, show optV (some z) = V.int z from rfl]
            walk_at "go"
            refine g_ite (fun e0 => ?_) (fun e0 => ?_)
            · walk_at "go"
              refine hC _ _ (Same.refl _) ?_
              rw [take_snoc go, there_snoc]
              show ((there (sg.take i) ++ [z]).filter _).map V.int = _
              rw [List.filter_append, List.map_append, filt1 (p := sideP false f) (by unfold sideP; rw [decide_eq_false (by omega)]; rfl)]
              rfl
            · refine hN' _ (Same.refl _) ?_
              rw [take_snoc go, there_snoc]
              show ((there (sg.take i) ++ [z]).filter _).map V.int = _
              rw [List.filter_append, filt0 (p := sideP false f) (by unfold sideP; rw [decide_eq_true (by omega)]; decide), List.append_nil]
        · rw [List.length_map, List.take_length] at hD
          walk_at "go"
          exact hN _ _ ⟨D, _, rfl, s2.trans s, hD⟩
def sp_editions_passing (K : PySem.W.Frag) : Sp := fun vs H Q _ => ∃ b f l v es, vs = [.str (sideS b), .int f, .int l, v] ∧ Dp K H v (listD es) ∧ es.length ≤ 12 ∧ 0 ≤ l ∧ ∀ H' v' out, Same H H' → Dp K H' v' (tupI out) → UpOf out (passL b f l es) → Q v' H'
theorem ok_editions_passing (T : Txt K mg a) : FnOk P w K mg base CX0 1 a.f_editions_passing a.d_editions_passing ["side", "first", "last", "editions"] (sp_editions_passing K) := by
  refine T.F_editions_passing.ok sc_editions_passing (fun vs H Q E h => ?_) (fun cdv A outer s H vs Q E hr h => ?_)
  · obtain ⟨b, f, l, v, es, rfl, _⟩ := h
    rfl
  · obtain ⟨b, f, l, v, es, rfl, hv, hl, l0, q⟩ := h
    obtain ⟨p, rfl, hp⟩ := of_list hv
    refine ⟨_, (pss_cons (ps_set (i := 4) sc_editions_passing.nd rfl (.inl rfl) (pe_ifExp (pt_cmpR op_eq (pv 0) pe_str (nomark _)) (pe_slice (kSlA K rfl) (pv 3) po_none (po_some (pv 2))) (pe_slice (kSlA K rfl) (pv 3) (po_some (pv 2)) po_none)))
  (pss_cons (ps_setLc (i := 5) (own := [("edition", 6)]) (g := (gName 6)) rfl sc_editions_passing.nd rfl rfl (sw_true rfl rfl rfl (by decide +kernel)) (kiTup K rfl (pv 4)) (blkOk_by (own := [("edition", 6)]) (N := ["side", "first", "last", "editions", "held", "there", "edition"]) (sc := defScope s_editions_passing) (by decide +kernel)) (fun _ _ _ _ _ => (pg_name (i := 6) sc_editions_passing.nd rfl (.inl rfl))) (fun _ _ _ _ _ => (pts_one (pt_cmpR op_notN (pv 6) pe_non (nomark _)))) (fun _ _ _ _ _ => (pv 6)))
  (pss_one (ps_ret (pe_callTy (kTupOf K rfl) (by rfl) T.z_tuple (by decide +kernel) (pa_cons (keSortSetL K rfl rfl (by rfl) T.z_sorted (by rfl) T.z_set (pe_lc (own := [("edition", 6)]) (g := (gName 6)) rfl sc_editions_passing.nd (kiList K rfl (pv 5)) (blkOk_by (own := [("edition", 6)]) (N := ["side", "first", "last", "editions", "held", "there", "edition"]) (sc := defScope s_editions_passing) (by decide +kernel)) (fun _ _ _ _ _ => (pg_name (i := 6) sc_editions_passing.nd rfl (.inl rfl))) (fun _ _ _ _ _ => (pts_one (pt_cmpR op_eq (pe_cmpR op_ge (pv 6) (pv 1) (nomark _)) (pe_cmpR op_eq (pv 0) pe_str (nomark _)) (nomark _)))) (fun _ _ _ _ _ => (pv 6)))) pa_nil)))))), ?_⟩
    refine seq_cut (fun σ' H' => ∃ p2 y5 y6, σ' = [some (.str (sideS b)), some (.int f), some (.int l), some (.ref p), some (.ref p2), y5, y6] ∧ Same H H' ∧ SqT K H' p2 ((segO b l es).map optV)) ?_ ?_
    · rintro σ' H1 ⟨p2, y5, y6, rfl, s1, h2⟩
      have hsl := segO_len b l es
      unfold passL at q
      generalize segO b l es = sg at h2 q hsl
      walk_at "go"
      refine ⟨p2, rfl, ⟨_, h2⟩, fun D nD => ?_⟩
      refine lc_same (H0 := H1) (walk_tup (K := K) (a := p2) (xs := sg.map optV)) (fun i => (there (sg.take i)).map V.int) rfl (fun i _ => ?_) (Same.refl _) nD nD (fun H' s => (Tx.of s).seq h2) (fun i x H3 H4 C Cn hi s hy hC hN' => ?_) (fun H2 s2 hD => ?_)
      · rw [List.length_map]
        exact small1000 (Nat.le_trans (there_len _) (by rw [List.length_take]; omega))
      · obtain ⟨rfl, hx⟩ := hy
        obtain ⟨o, go, rfl⟩ := map_at hx
        refine ⟨rfl, ?_⟩
        cases o with
        | none =>
          walk_at "go"
          refine ⟨rfl, ?_⟩
          rw [nn0]
          walk_at "go"
          refine hN' _ (Same.refl _) ?_
          rw [take_snoc go, there_snoc]
          show (there (sg.take i) ++ []).map V.int = _
          rw [List.append_nil]
        | some z =>
          walk_at "go"
          refine ⟨rfl, ?_⟩
          rw [nn1, show optV (some z) = V.int z from rfl]
          walk_at "go"
          refine hC _ _ (Same.refl _) ?_
          rw [take_snoc go, there_snoc, List.map_append]
          rfl
      · rw [List.length_map, List.take_length] at hD
        have htl := there_len sg
        walk_at "go"
        refine g_sortSetL ?_
        walk_at "go"
        refine ⟨D, rfl, ⟨_, SqL.at hD⟩, fun D2 nD2 => ?_⟩
        refine lc_same (H0 := H2) (walk_list (K := K) (a := D) (xs := (there sg).map V.int)) (fun i => (((there sg).take i).filter (sideP b f)).map V.int) rfl (fun i _ => ?_) (Same.refl _) nD2 nD2 (fun H' s => SqL.at (s _ _ hD)) (fun i x H3 H4 C Cn hi s hy hC hN' => ?_) (fun H3 s3 hD3 => ?_)
        · rw [List.length_map]
          exact small1000 (Nat.le_trans (List.length_filter_le _ _) (by rw [List.length_take]; omega))
        · obtain ⟨rfl, hx⟩ := hy
          obtain ⟨z, gz, rfl⟩ := map_at hx
          refine ⟨rfl, ?_⟩
          walk_at "go"
          refine ⟨rfl, ?_⟩
          rw [sideS_left]
          walk_at "go"
          cases hq : sideP b f z with
          | true =>
            have hq' : (decide (f ≤ z) == b) = true := hq
            rw [hq']
            walk_at "go"
            refine hC _ _ (Same.refl _) ?_
            rw [take_snoc gz, List.filter_append, List.map_append, filt1 (p := sideP b f) hq]
            rfl
          | false =>
            have hq' : (decide (f ≤ z) == b) = false := hq
            rw [hq']
            walk_at "go"
            refine hN' _ (Same.refl _) ?_
            rw [take_snoc gz, List.filter_append, filt0 (p := sideP b f) (by rw [hq]; decide), List.append_nil]
        · rw [List.length_map, List.take_length] at hD3
          have hfl := List.length_filter_le (sideP b f) (there sg)
          refine ⟨D2, _, rfl, SqL.at hD3, by omega, fun out p1 hup hmem np1 => ?_⟩
          walk_at "go"
          refine ⟨p1, _, rfl, .inl ⟨SqL.new, fun t1 nt1 => ?_⟩⟩
          exact q _ _ out (s1.trans (s2.trans (s3.trans ((same_new np1).trans (same_new nt1))))) (dp_ints SqT.new) ⟨hup, hmem⟩
    · intro N hN
      walk_at "go"
      refine ⟨rfl, ?_⟩
      rw [sideS_left]
      have hseg := cutV_seg (b := b) l0 (es.map optV)
      rw [segO_map] at hseg
      cases b with
      | true =>
        walk_at "go"
        refine g_slA hp (fun p2 H2 s2 h2 => ?_)
        rw [if_pos rfl] at hseg
        rw [hseg] at h2
        exact hN _ _ ⟨p2, _, _, rfl, s2, h2⟩
      | false =>
        walk_at "go"
        refine g_slA hp (fun p2 H2 s2 h2 => ?_)
        rw [if_neg (by decide)] at hseg
        rw [hseg] at h2
        exact hN _ _ ⟨p2, _, _, rfl, s2, h2⟩
def InL (n : Int) (es : List (Option Int)) : Prop := (es.length : Int) = n ∧ ∀ z, some z ∈ es → 0 ≤ z ∧ z < n
def sp_is_list (K : PySem.W.Frag) (C : Addr) : Sp := fun vs H Q _ => ∃ lg n rs v es, vs = [lg, v] ∧ LogAt K C H lg n rs ∧ Dp K H v (listD es) ∧ InL n es ∧ n ≤ 12 ∧ ∀ H', Same H H' → Q (.bl true) H'
theorem ok_is_list (T : Txt K mg a) : FnOk P w K mg base CX0 5 a.f_is_list a.d_is_list ["log", "thing"] (sp_is_list K a.c_Log) := by
  refine T.F_is_list.ok sc_is_list (fun vs H Q E h => ?_) (fun cdv A outer s H vs Q E hr h => ?_)
  · obtain ⟨lg, n, rs, v, es, rfl, _⟩ := h
    rfl
  · obtain ⟨lg, n, rs, v, es, rfl, hlog, hv, ⟨hl, hin⟩, n12, q⟩ := h
    obtain ⟨p, rfl, hp⟩ := of_list hv
    obtain ⟨la, ldx, rp, rfl, hla, hrd⟩ := hlog
    refine ⟨_, (pss_cons (ps_if (pt_not (pt_val (pe_call (ok_is_tuple_of T) (hr.mono (by first | decide | omega)) (by rfl) T.g_is_tuple_of T.F_is_tuple_of.kp (T.b_is_tuple_of) .nil pass0 (pa_cons (pv 1) (pa_cons (kpFld K rfl (pv 0) rfl) pa_nil)))))
  (pss_one (ps_ret pe_bl))
  pss_nil)
  (pss_one (ps_ret (pe_call (ok_are_numbers T) (hr.mono (by first | decide | omega)) (by rfl) T.g_are_numbers T.F_are_numbers.kp (T.b_are_numbers) .nil pass0 (pa_cons (pe_lc (own := [("edition", 2)]) (g := (gName 2)) rfl sc_is_list.nd (kiTup K rfl (pv 1)) (blkOk_by (own := [("edition", 2)]) (N := ["log", "thing", "edition"]) (sc := defScope s_is_list) (by decide +kernel)) (fun _ _ _ _ _ => (pg_name (i := 2) sc_is_list.nd rfl (.inl rfl))) (fun _ _ _ _ _ => (pts_one (pt_cmpR op_notN (pv 2) pe_non (nomark _)))) (fun _ _ _ _ _ => (pv 2))) (pa_cons (kpFld K rfl (pv 0) rfl) pa_nil)))))), ?_⟩
    walk_at "go"
    refine ⟨_, _, _, _, _, rfl, hla, T.cl_Log, T.n_Log_offices, rfl, ?_⟩
    refine ⟨_, _, rfl, .inl ⟨p, _, rfl, hp, ?_⟩⟩
    rw [List.length_map, decide_eq_true hl]
    walk_at "go"
    refine ⟨p, rfl, ⟨_, hp⟩, fun D nD => ?_⟩
    refine lc_same (H0 := H) (walk_tup (K := K) (a := p) (xs := es.map optV)) (fun i => (there (es.take i)).map V.int) rfl (fun i _ => ?_) (Same.refl _) nD nD (fun H' s => (Tx.of s).seq hp) (fun i x H3 H4 C Cn hi s hy hC hN' => ?_) (fun H2 s2 hD => ?_)
    · rw [List.length_map]
      exact small1000 (Nat.le_trans (there_len _) (by rw [List.length_take]; omega))
    · obtain ⟨rfl, hx⟩ := hy
      obtain ⟨o, go, rfl⟩ := map_at hx
      refine ⟨rfl, ?_⟩
      cases o with
      | none =>
        walk_at "go"
        refine ⟨rfl, ?_⟩
        rw [nn0]
        walk_at "go"
        refine hN' _ (Same.refl _) ?_
        rw [take_snoc go, there_snoc]
        show (there (es.take i) ++ []).map V.int = _
        rw [List.append_nil]
      | some z =>
        walk_at "go"
        refine ⟨rfl, ?_⟩
        rw [nn1, show optV (some z) = V.int z from rfl]
        walk_at "go"
        refine hC _ _ (Same.refl _) ?_
        rw [take_snoc go, there_snoc, List.map_append]
        rfl
    · rw [List.length_map, List.take_length] at hD
      have htl := there_len es
      walk_at "go"
      refine ⟨_, _, _, _, _, rfl, s2 _ _ hla, T.cl_Log, T.n_Log_offices, rfl, ?_⟩
      refine ⟨D, there es, n, rfl, .inr hD, by omega, fun H3 s3 => ?_⟩
      rw [List.all_eq_true.mpr fun c hc => decide_eq_true (hin c (mem_there.mp hc))]
      exact q _ (s2.trans s3)
def sp_check_list (K : PySem.W.Frag) (C : Addr) : Sp := fun vs H Q _ => ∃ lg n rs v es, vs = [lg, v] ∧ LogAt K C H lg n rs ∧ Dp K H v (listD es) ∧ InL n es ∧ n ≤ 12 ∧ ∀ H', Same H H' → Q .non H'
theorem ok_check_list (T : Txt K mg a) : FnOk P w K mg base CX0 6 a.f_check_list a.d_check_list ["log", "editions"] (sp_check_list K a.c_Log) := by
  refine T.F_check_list.ok sc_check_list (fun vs H Q E h => ?_) (fun cdv A outer s H vs Q E hr h => ?_)
  · obtain ⟨lg, n, rs, v, es, rfl, _⟩ := h
    rfl
  · obtain ⟨lg, n, rs, v, es, rfl, hlog, hv, hin, n12, q⟩ := h
    refine ⟨_, (pss_one (ps_if (pt_not (pt_val (pe_call (ok_is_list T) (hr.mono (by first | decide | omega)) (by rfl) T.g_is_list T.F_is_list.kp (T.b_is_list) .nil pass0 (pa_cons (pv 0) (pa_cons (pv 1) pa_nil)))))
  (pss_one ps_never)
  pss_nil)), ?_⟩
    walk_at "go"
    refine ⟨lg, n, rs, v, es, rfl, hlog, hv, hin, n12, fun H1 s1 => ?_⟩
    walk_at "go"
    exact q _ s1
def sp_passed (K : PySem.W.Frag) (C : Addr) : Sp := fun vs H Q _ => ∃ lg n rs b v f st l u es, vs = [lg, .str (sideS b), v, u] ∧ LogAt K C H lg n rs ∧ Dp K H v (postD f st l) ∧ WfPost n rs f st l ∧ rs.length ≤ 60 ∧ (stands b rs st).all id = true ∧ Dp K H u (listD es) ∧ InL n es ∧ n ≤ 12 ∧ ∀ H' v' out, Same H H' → Dp K H' v' (tupI out) → UpOf out (passL b f l es) → Q v' H'
theorem ok_passed (T : Txt K mg a) : FnOk P w K mg base CX0 9 a.f_passed a.d_passed ["log", "side", "thing", "editions"] (sp_passed K a.c_Log) := by
  refine T.F_passed.ok sc_passed (fun vs H Q E h => ?_) (fun cdv A outer s H vs Q E hr h => ?_)
  · obtain ⟨lg, n, rs, b, v, f, st, l, u, es, rfl, _⟩ := h
    rfl
  · obtain ⟨lg, n, rs, b, v, f, st, l, u, es, rfl, hlog, hv, hw, hmax, hall, hu, hin, n12, q⟩ := h
    refine ⟨_, (pss_cons (ps_expr (pe_call (ok_check_post T) (hr.mono (by first | decide | omega)) (by rfl) T.g_check_post T.F_check_post.kp (T.b_check_post) .nil pass0 (pa_cons (pv 0) (pa_cons (pv 1) (pa_cons (pv 2) pa_nil)))))
  (pss_cons (ps_expr (pe_call (ok_check_list T) (hr.mono (by first | decide | omega)) (by rfl) T.g_check_list T.F_check_list.kp (T.b_check_list) .nil pass0 (pa_cons (pv 0) (pa_cons (pv 3) pa_nil))))
  (pss_one (ps_ret (pe_call (ok_editions_passing T) (hr.mono (by first | decide | omega)) (by rfl) T.g_editions_passing T.F_editions_passing.kp (T.b_editions_passing) .nil pass0 (pa_cons (pv 1) (pa_cons (pe_ix (kIxT K rfl) (pv 2) pe_int (fun _ _ => rfl)) (pa_cons (pe_ix (kIxT K rfl) (pv 2) pe_int (fun _ _ => rfl)) (pa_cons (pv 3) pa_nil))))))))), ?_⟩
    walk_at "go"
    refine ⟨lg, n, rs, b, v, f, st, l, rfl, hlog, hv, hw, by omega, hall, fun H1 s1 => ?_⟩
    walk_at "go"
    refine ⟨lg, n, rs, u, es, rfl, hlog.tx (Tx.of s1), Dp.same s1 _ _ hu, hin, n12, fun H2 s2 => ?_⟩
    have s12 := s1.trans s2
    obtain ⟨vp, t, rfl, hvp, ht⟩ := of_post (Dp.same s12 _ _ hv)
    walk_at "go"
    refine g_ixT hvp (v := .int f) rfl ?_
    walk_at "go"
    refine g_ixT hvp (v := .int l) rfl ?_
    walk_at "go"
    have := hin.1
    refine ⟨b, f, l, u, es, rfl, Dp.same s12 _ _ hu, by omega, hw.2.2.1, fun H3 v' out s3 hv' hU => ?_⟩
    exact q _ _ out (s12.trans s3) hv' hU

end

section
variable {P : Program} {w : World} {K : PySem.W.Frag} {mg : Str → Option Value} {base : Heap} {a : Ad}
/-! ### the second fact -/
/-- of the editions of a list up to a cut, no more than so many unlike ones pass -/
def Few (b : Bool) (f c : Int) (hs : List Int) (k : Int) : Prop := ∀ out : List Int, out.Nodup → (∀ v ∈ out, v ∈ segO b c hs ∧ sideP b f v = true) → (out.length : Int) ≤ k
theorem few_sub {b : Bool} {f c c' : Int} {hs hs' : List Int} {k : Int} (h : Few b f c hs k) (hsub : ∀ v, v ∈ segO b c' hs' → v ∈ segO b c hs) : Few b f c' hs' k := fun out hn hm => h out hn fun v hv => ⟨hsub v (hm v hv).1, (hm v hv).2⟩
theorem few_more {b : Bool} {f c c' : Int} {hs ex : List Int} {k m : Int} (h : Few b f c hs k) (hex : ∀ v, v ∈ segO b c' hs → v ∈ segO b c hs ∨ v ∈ ex) (hm : (ex.length : Int) ≤ m) : Few b f c' hs (k + m) := fun out hn ho => by
  have h1 := h (out.filter fun v => decide (v ∈ segO b c hs)) (hn.filter _) fun v hv => by
    obtain ⟨hv1, hv2⟩ := List.mem_filter.mp hv
    exact ⟨of_decide_eq_true hv2, (ho v hv1).2⟩
  have h2 : (out.filter fun v => !decide (v ∈ segO b c hs)).length ≤ ex.length := List.Nodup.length_le_of_subset (hn.filter _) fun v hv => by
    obtain ⟨hv1, hv2⟩ := List.mem_filter.mp hv
    rcases hex v (ho v hv1).1 with e | e
    · rw [decide_eq_true e] at hv2
      cases hv2
    · exact e
  have h3 : out.length = (out.filter fun v => decide (v ∈ segO b c hs)).length + (out.filter fun v => !decide (v ∈ segO b c hs)).length := by
    have := List.length_eq_countP_add_countP (fun v => decide (v ∈ segO b c hs)) (l := out)
    rw [List.countP_eq_length_filter, List.countP_eq_length_filter] at this
    rw [this]
    congr 2
    refine List.filter_congr fun v _ => ?_
    cases hd : decide (v ∈ segO b c hs) <;> simp_all
  omega
theorem few_step {b : Bool} {f c c' : Int} {hs : List Int} {k : Int} (h : Few b f c hs k) (c0 : 0 ≤ c) (c0' : 0 ≤ c') : Few b f c' hs (k + stepP b c c') := by
  cases b with
  | true =>
    refine few_more h (ex := (hs.take c'.toNat).drop c.toNat) (fun v hv => ?_) ?_
    · show v ∈ hs.take c.toNat ∨ _
      have hv' : v ∈ hs.take c'.toNat := hv
      by_cases e : c'.toNat ≤ c.toNat
      · left
        exact List.mem_of_mem_take (i := c'.toNat) (by rw [List.take_take, Nat.min_eq_left e]; exact hv')
      · rw [← List.take_append_drop c.toNat (hs.take c'.toNat), List.mem_append, List.take_take, Nat.min_eq_left (by omega)] at hv'
        exact hv'
    · rw [List.length_drop, List.length_take]
      unfold stepP
      rw [if_pos rfl]
      split <;> omega
  | false =>
    refine few_more h (ex := (hs.drop c'.toNat).take (c.toNat - c'.toNat)) (fun v hv => ?_) ?_
    · show v ∈ hs.drop c.toNat ∨ _
      have hv' : v ∈ hs.drop c'.toNat := hv
      by_cases e : c.toNat ≤ c'.toNat
      · left
        have : hs.drop c'.toNat = (hs.drop c.toNat).drop (c'.toNat - c.toNat) := by
          rw [List.drop_drop]
          congr 1
          omega
        rw [this] at hv'
        exact List.mem_of_mem_drop hv'
      · rw [← List.take_append_drop (c.toNat - c'.toNat) (hs.drop c'.toNat), List.mem_append, List.drop_drop, show c'.toNat + (c.toNat - c'.toNat) = c.toNat by omega] at hv'
        exact hv'.symm
    · rw [List.length_take, List.length_drop]
      unfold stepP
      rw [if_neg (by decide)]
      split <;> omega
theorem mem_seg {b : Bool} {c v : Int} {hs : List Int} : v ∈ segO b c hs ↔ ∃ i : Nat, hs[i]? = some v ∧ (decide (i < c.toNat) = b) := by
  unfold segO
  cases b with
  | true =>
    rw [if_pos rfl, List.mem_iff_getElem?]
    constructor
    · rintro ⟨i, hi⟩
      rw [List.getElem?_take] at hi
      split at hi
      · rename_i h
        exact ⟨i, hi, decide_eq_true h⟩
      · cases hi
    · rintro ⟨i, hi, h⟩
      refine ⟨i, ?_⟩
      rw [List.getElem?_take, if_pos (of_decide_eq_true h)]
      exact hi
  | false =>
    rw [if_neg (by decide), List.mem_iff_getElem?]
    constructor
    · rintro ⟨i, hi⟩
      rw [List.getElem?_drop] at hi
      exact ⟨c.toNat + i, hi, decide_eq_false (by omega)⟩
    · rintro ⟨i, hi, h⟩
      refine ⟨i - c.toNat, ?_⟩
      have := of_decide_eq_false h
      rw [List.getElem?_drop, show c.toNat + (i - c.toNat) = i by omega]
      exact hi
theorem few_row {b : Bool} {n f c : Int} {hs : List Int} {k : Int} {r : Row} {fl : Bool} (h : Few b f c hs k) (g : GoodRow n r) (hl : (hs.length : Int) = n) (c0 : 0 ≤ c) (hfree : freeB b c r = true) : Few b f c (stepR hs r fl) k := by
  unfold stepR
  split
  case isFalse => exact h
  refine few_sub h fun v hv => ?_
  obtain ⟨g1, g2, g3, g4, g5⟩ := g
  obtain ⟨i, hi, hb⟩ := mem_seg.mp hv
  by_cases e : r.1.toNat = i
  · subst e
    rw [List.getElem?_set_self (by omega)] at hi
    refine mem_seg.mpr ⟨r.2.1.toNat, ?_, ?_⟩
    · rw [← hi]
      exact getD_at (by omega)
    · rw [free_of c0] at hfree
      unfold barI barO isL placeR at hfree
      cases b with
      | true =>
        have h1 := of_decide_eq_true hb
        refine decide_eq_true ?_
        by_cases e2 : r.1 < r.2.1
        · rw [decide_eq_true e2, if_pos rfl, if_pos e2] at hfree
          have : ¬ c = r.2.1 - 1 + 1 := fun z => by rw [show (some (r.2.1 - 1 + 1) : Option Int).getD (-1) = r.2.1 - 1 + 1 from rfl, decide_eq_true z] at hfree; cases hfree
          omega
        · omega
      | false =>
        have h1 := of_decide_eq_false hb
        refine decide_eq_false ?_
        by_cases e2 : r.1 < r.2.1
        · omega
        · rw [decide_eq_false e2, if_pos rfl, if_neg e2] at hfree
          have : ¬ c = r.1 - 1 + 1 := fun z => by rw [show (some (r.1 - 1 + 1) : Option Int).getD (-1) = r.1 - 1 + 1 from rfl, decide_eq_true z] at hfree; cases hfree
          omega
  · rw [List.getElem?_set_ne e] at hi
    exact mem_seg.mpr ⟨i, hi, hb⟩
theorem few_walk {b : Bool} {n f : Int} : ∀ (rs : List Row) (fs : List Bool) (st : List Int) (hs : List Int) (c k l : Int), (∀ r ∈ rs, GoodRow n r) → fs.length = rs.length → st.length = rs.length → (hs.length : Int) = n → 0 ≤ c → 0 ≤ l → (∀ z ∈ st, 0 ≤ z) → (stands b rs st).all id = true → Few b f c hs k →
    Few b f l ((rs.zip fs).foldl (fun h p => stepR h p.1 p.2) hs) (k + costP b c (st ++ [l]))
  | [], [], [], hs, c, k, l, _, _, _, _, c0, l0, _, _, h => by
    show Few b f l hs (k + (stepP b c l + 0))
    rw [Int.add_zero]
    exact few_step h c0 l0
  | [], _ :: _, _, _, _, _, _, _, e, _, _, _, _, _, _, _ => by cases e
  | [], [], _ :: _, _, _, _, _, _, _, e, _, _, _, _, _, _ => by cases e
  | _ :: _, [], _, _, _, _, _, _, e, _, _, _, _, _, _, _ => by cases e
  | _ :: _, _ :: _, [], _, _, _, _, _, _, e, _, _, _, _, _, _ => by cases e
  | r :: rs, fl :: fs, z :: st, hs, c, k, l, hg, e1, e2, hl, c0, l0, hz, hst, h => by
    have hst' : (freeB b z r && (stands b rs st).all id) = true := hst
    rw [Bool.and_eq_true] at hst'
    have z0 := hz z (List.mem_cons_self ..)
    have h1 := few_row (fl := fl) (few_step h c0 z0) (hg r (List.mem_cons_self ..)) hl z0 hst'.1
    have h2 := few_walk rs fs st (stepR hs r fl) z (k + stepP b c z) l (fun q hq => hg q (List.mem_cons_of_mem _ hq)) (by simpa using e1) (by simpa using e2) (by
      unfold stepR
      split
      · rw [List.length_set]; exact hl
      · exact hl) z0 l0 (fun q hq => hz q (List.mem_cons_of_mem _ hq)) hst'.2 h1
    show Few b f l _ (k + (stepP b c z + costP b z (st ++ [l])))
    rw [← Int.add_assoc]
    exact h2
theorem few_first {b : Bool} {n f : Int} (f0 : 0 ≤ f) : Few b f f (firstSt n) 0 := fun out hn hm => by
  cases out with
  | nil => exact Int.le_refl _
  | cons v r =>
    exfalso
    obtain ⟨h1, h2⟩ := hm v (List.mem_cons_self ..)
    obtain ⟨i, hi, hb⟩ := mem_seg.mp h1
    unfold firstSt at hi
    obtain ⟨j, hj, rfl⟩ := map_at hi
    have ej : j = i := by
      have := (List.getElem?_eq_some_iff.mp hj).2
      rw [List.getElem_range] at this
      exact this.symm
    subst ej
    unfold sideP at h2
    have h3 := eq_of_beq h2
    cases b with
    | true =>
      have := of_decide_eq_true h3
      have := of_decide_eq_true hb
      omega
    | false =>
      have := of_decide_eq_false h3
      have := of_decide_eq_false hb
      omega
theorem second_fact {b : Bool} {n f l : Int} {rs : List Row} {fs : List Bool} {st : List Int} (hn : 1 ≤ n) (hg : ∀ r ∈ rs, GoodRow n r) (hw : WfPost n rs f st l) (hall : (stands b rs st).all id = true) (hfs : fs.length = rs.length) {out : List Int} (hU : UpOf out (passL b f l ((stAt n rs fs rs.length).map some))) : (out.length : Int) ≤ costP b f (st ++ [l]) := by
  obtain ⟨f0, fn, l0, ln, hlen, hst⟩ := hw
  have h := few_walk rs fs st (firstSt n) f 0 l hg hfs hlen (by rw [firstSt_len]; omega) f0 l0 (fun z hz => (hst z hz).1) hall (few_first f0)
  have e : stAt n rs fs rs.length = (rs.zip fs).foldl (fun h p => stepR h p.1 p.2) (firstSt n) := by
    unfold stAt
    rw [List.take_of_length_le (by rw [List.length_zip]; omega)]
  rw [← e, Int.zero_add] at h
  refine h out (up_nodup hU.1) fun v hv => ?_
  have hm := (hU.2 v).mp hv
  unfold passL at hm
  obtain ⟨h1, h2⟩ := List.mem_filter.mp hm
  rw [mem_there, segO_map, List.mem_map] at h1
  obtain ⟨w, hw, e3⟩ := h1
  cases e3
  exact ⟨hw, h2⟩

end

section
variable {P : Program} {w : World} {K : PySem.W.Frag} {mg : Str → Option Value} {base : Heap} {a : Ad}
/-! ### all doings, their sheets -/
theorem dAt_mlen {rs : List Row} : ∀ (i : Nat), i ≤ rs.length → ∀ fs : List Bool, fs ∈ dAt rs i → fs.length = i
  | 0, _, fs, h => by
    have h' : fs ∈ [[]] := h
    rw [List.mem_singleton.mp h']
    rfl
  | i + 1, hi, fs, h => by
    have gr := List.getElem?_eq_getElem (show i < rs.length by omega)
    rw [dAt_succ gr, List.mem_flatMap] at h
    obtain ⟨d, hd, hf⟩ := h
    have h1 := dAt_mlen i (by omega) d hd
    unfold dStep at hf
    split at hf
    · rw [List.mem_singleton.mp hf, List.length_append, h1]
      rfl
    · rcases List.mem_cons.mp hf with e | e
      · rw [e, List.length_append, h1]
        rfl
      · rw [List.mem_singleton.mp e, List.length_append, h1]
        rfl
theorem imAll_fl (ds : List (List Bool)) : imAll (ds.map flagsD) = true := imAll_map im_flagsD ds
def sp_law_doings (K : PySem.W.Frag) : Sp := fun vs H Q _ => ∃ rv rs, vs = [rv] ∧ Dp K H rv (rowsD rs) ∧ rs.length ≤ 7 ∧ ∀ H' f xs, Same H H' → H f = none → H' f = some (.lst xs) → DpAll K H' xs ((dAt rs rs.length).map flagsD) → Q (.ref f) H'
theorem two7 {i : Nat} (h : i ≤ 7) : 2 ^ i ≤ 128 := Nat.pow_le_pow_right (by decide) h
theorem dAt_take {rs : List Row} {i : Nat} (h : i ≤ rs.length) (h6 : rs.length ≤ 7) : (dAt rs i).length ≤ 128 := Nat.le_trans (dAt_len i h) (two7 (by omega))
theorem ok_law_doings (T : Txt K mg a) : FnOk P w K mg base CX0 1 a.f_law_doings a.d_law_doings ["_law_rows_here"] (sp_law_doings K) := by
  refine T.F_law_doings.ok sc_law_doings (fun vs H Q E h => ?_) (fun cdv A outer s H vs Q E hr h => ?_)
  · obtain ⟨rv, rs, rfl, _⟩ := h
    rfl
  · obtain ⟨rv, rs, rfl, hrv, h6, q⟩ := h
    obtain ⟨p, ys, rfl, hp, ha⟩ := of_tup hrv
    have hl := DpAll.len ha
    rw [List.length_map] at hl
    refine ⟨_, (pss_cons (ps_set (i := 1) sc_law_doings.nd rfl (.inl rfl) (pe_lst (pa_cons (pe_tup pa_nil) pa_nil)))
  (pss_cons (ps_for PassesOwn.never rfl (kiTup K rfl (pv 0)) (pg_name (i := 2) sc_law_doings.nd rfl (.inl rfl))
  (pss_cons (ps_set (i := 3) sc_law_doings.nd rfl (.inl rfl) (pe_lst pa_nil))
  (pss_cons (ps_for PassesOwn.never rfl (kiList K rfl (pv 1)) (pg_name (i := 4) sc_law_doings.nd rfl (.inl rfl))
  (pss_cons (ps_if (pt_not (pt_val (pe_ix (kIxT K rfl) (pv 2) pe_int (fun _ _ => rfl))))
  (pss_one (ps_expr (pe_bm PySem.F.plainAttrs_list PySem.F.slot_list_append PySem.F.type_list_append mt_append (pv 3) (pa_cons (pe_op (kCatA K rfl) (pv 4) (pe_tup (pa_cons pe_bl pa_nil))) pa_nil))))
  pss_nil)
  (pss_one (ps_expr (pe_bm PySem.F.plainAttrs_list PySem.F.slot_list_append PySem.F.type_list_append mt_append (pv 3) (pa_cons (pe_op (kCatA K rfl) (pv 4) (pe_tup (pa_cons pe_bl pa_nil))) pa_nil))))))
  (pss_one (ps_set (i := 1) sc_law_doings.nd rfl (.inl rfl) (pv 3))))))
  (pss_one (ps_ret (pv 1))))), ?_⟩
    walk_at "go"
    refine ⟨Nat.zero_le _, fun t nt => ?_⟩
    walk_at "go"
    refine ⟨by show 1 ≤ sizeLine; decide, fun l nl => ?_⟩
    have s0 : Same H (upd (upd H t (.tup [])) l (.lst [.ref t])) := (same_new nt).trans (same_new nl)
    have nl0 : H l = none := (same_new nt).free nl
    walk_at "go"
    refine ⟨p, rfl, ⟨_, (Tx.of s0).seq hp⟩, ?_⟩
    refine for_it (walk_tup (K := K) (a := p) (xs := ys)) (fun i σ H' => ∃ l xs y2 y3 y4, σ = [some (.ref p), some (.ref l), y2, y3, y4] ∧ Same H H' ∧ H l = none ∧ H' l = some (.lst xs) ∧ DpAll K H' xs ((dAt rs i).map flagsD))
      ⟨l, [.ref t], _, _, _, rfl, s0, nl0, upd_same, .cons (.tup ((Tx.new nl).seq SqT.new) .nil) .nil⟩ (fun i σ H' _ hP => ?_) (fun i x σ H1 H1' hi hP hy => ?_) (fun σ H' hP => ?_)
    · obtain ⟨l, xs, _, _, _, _, sm, _⟩ := hP
      exact (Tx.of sm).seq hp
    · obtain ⟨l, xs, y2, y3, y4, rfl, sm, nl0, hl1, hxs⟩ := hP
      obtain ⟨rfl, hx⟩ := hy
      obtain ⟨d, gd, rd⟩ := DpAll.get ha hx
      obtain ⟨r, gr, rfl⟩ := map_at gd
      obtain ⟨rp, rfl, hrp⟩ := of_row rd
      have hi' : i < rs.length := (List.getElem?_eq_some_iff.mp gr).1
      have hlen := dAt_take (show i ≤ rs.length by omega) h6
      have hrp1 := (Tx.of sm).seq hrp
      have hxl := DpAll.len hxs
      rw [List.length_map] at hxl
      walk_at "go"
      refine ⟨Nat.zero_le _, fun g ng => ?_⟩
      walk_at "go"
      have sg : Same H1' (upd H1' g (.lst [])) := same_new ng
      refine ⟨l, rfl, ⟨_, SqL.at (sg _ _ hl1)⟩, ?_⟩
      refine for_it (walk_list (K := K) (a := l) (xs := xs)) (fun j σ H' => ∃ zs y4, σ = [some (.ref p), some (.ref l), some (.ref rp), some (.ref g), y4] ∧ Same H1' H' ∧ H' g = some (.lst zs) ∧ DpAll K H' zs ((((dAt rs i).take j).flatMap (dStep r)).map flagsD))
        ⟨[], _, rfl, sg, upd_same, .nil⟩ (fun j σ H' _ hP => ?_) (fun j x σ H2 H2' hj hP hy => ?_) (fun σ H' hP => ?_)
      · obtain ⟨zs, _, _, s2, _⟩ := hP
        exact SqL.at (s2 _ _ hl1)
      · obtain ⟨zs, y4, rfl, s2, hg, hzs⟩ := hP
        obtain ⟨rfl, hx2⟩ := hy
        obtain ⟨e, ge, re⟩ := DpAll.get hxs hx2
        obtain ⟨fs, gfs, rfl⟩ := map_at ge
        obtain ⟨fp, rfl, hfp⟩ := of_flags re
        have hzl := DpAll.len hzs
        rw [List.length_map] at hzl
        have hzb : (((dAt rs i).take j).flatMap (dStep r)).length ≤ 256 := by
          have := flatMap_len _ (dStep_len r) ((dAt rs i).take j)
          rw [List.length_take] at this
          omega
        have hfl : fs.length ≤ 100 := by
          have := dAt_mlen (rs := rs) i (by omega) fs (List.mem_of_getElem? gfs)
          omega
        have eT : ((dAt rs i).take (j + 1)).flatMap (dStep r) = ((dAt rs i).take j).flatMap (dStep r) ++ dStep r fs := by
          rw [take_snoc gfs, List.flatMap_append]
          simp
        walk_at "gs"
        refine seq_cut (fun σ' H4 => ∃ zs2, σ' = [some (.ref p), some (.ref l), some (.ref rp), some (.ref g), some (.ref fp)] ∧ Same H1' H4 ∧ H4 g = some (.lst zs2) ∧ DpAll K H4 zs2 ((((dAt rs i).take j).flatMap (dStep r) ++ (if r.2.2 = true then [] else [fs ++ [false]])).map flagsD)) ?_ ?_
        · rintro σ' H4 ⟨zs2, rfl, s4, hg4, hz4⟩
          have hb2 : (((dAt rs i).take j).flatMap (dStep r) ++ (if r.2.2 = true then [] else [fs ++ [false]])).length ≤ 257 := by
            rw [List.length_append]
            split
            · show _ + 0 ≤ 257
              omega
            · show _ + 1 ≤ 257
              omega
          walk_at "go"
          refine ⟨.inl ⟨rfl, _, SqL.at hg4⟩, ?_⟩
          walk_at "go"
          refine ⟨by show 1 ≤ sizeLine; decide, fun t2 nt2 => ?_⟩
          have s5 : Same H4 (upd H4 t2 (.tup [.bl true])) := same_new nt2
          refine g_catA ((Tx.of (s4.trans s5)).seq hfp) SqT.new (by rw [List.length_map]; exact Nat.le_trans (show _ ≤ 200 by simp only [List.length_cons, List.length_nil]; omega) (by decide)) (fun p5 H5 s6 h6 => ?_)
          have s56 : Same H4 H5 := s5.trans s6
          have h6' : SqT K H5 p5 ((fs ++ [true]).map V.bl) := by rw [List.map_append]; exact h6
          walk_at "go"
          refine ⟨g, zs2, .ref p5, rfl, rfl, s56 _ _ hg4, by rw [DpAll.len hz4, List.length_map]; exact small1000 (by omega), ?_⟩
          refine ⟨zs2 ++ [.ref p5], _, rfl, Same.put (s4.trans s56) ng, upd_same, ?_⟩
          have eD : dStep r fs = (if r.2.2 = true then [] else [fs ++ [false]]) ++ [fs ++ [true]] := by
            unfold dStep
            split <;> rfl
          rw [eT, eD, ← List.append_assoc, List.map_append (l₁ := _ ++ _)]
          refine Dp.txAll (Tx.lst (s56 _ _ hg4)) _ _ ?_ (DpAll.snoc (Dp.sameAll s56 _ _ hz4) (dp_flags h6'))
          have := imAll_fl ((((dAt rs i).take j).flatMap (dStep r) ++ (if r.2.2 = true then [] else [fs ++ [false]])) ++ [fs ++ [true]])
          rw [List.map_append] at this
          exact this
        · intro N hN
          walk_at "go"
          refine g_ixT ((Tx.of s2).seq hrp1) (v := .bl r.2.2) rfl ?_
          walk_at "go"
          cases hs : r.2.2 with
          | true =>
            walk_at "go"
            refine hN _ _ ⟨zs, rfl, s2, hg, ?_⟩
            rw [hs, if_pos rfl, List.append_nil]
            exact hzs
          | false =>
            walk_at "go"
            refine ⟨.inl ⟨rfl, _, SqL.at hg⟩, ?_⟩
            walk_at "go"
            refine ⟨by show 1 ≤ sizeLine; decide, fun t2 nt2 => ?_⟩
            have s5 : Same H2' (upd H2' t2 (.tup [.bl false])) := same_new nt2
            refine g_catA ((Tx.of (s2.trans s5)).seq hfp) SqT.new (by rw [List.length_map]; exact Nat.le_trans (show _ ≤ 200 by simp only [List.length_cons, List.length_nil]; omega) (by decide)) (fun p5 H5 s6 h6 => ?_)
            have s56 : Same H2' H5 := s5.trans s6
            have h6' : SqT K H5 p5 ((fs ++ [false]).map V.bl) := by rw [List.map_append]; exact h6
            walk_at "go"
            refine ⟨g, zs, .ref p5, rfl, rfl, s56 _ _ hg, by rw [DpAll.len hzs, List.length_map]; exact small1000 (by omega), ?_⟩
            refine hN _ _ ⟨zs ++ [.ref p5], rfl, Same.put (s2.trans s56) ng, upd_same, ?_⟩
            rw [hs, if_neg Bool.false_ne_true, List.map_append]
            refine Dp.txAll (Tx.lst (s56 _ _ hg)) _ _ ?_ (DpAll.snoc (Dp.sameAll s56 _ _ hzs) (dp_flags h6'))
            have := imAll_fl (((dAt rs i).take j).flatMap (dStep r) ++ [fs ++ [false]])
            rw [List.map_append] at this
            exact this
      · obtain ⟨zs, y4, rfl, s2, hg, hzs⟩ := hP
        walk_at "go"
        refine ⟨g, zs, _, _, _, rfl, sm.trans s2, sm.free ng, hg, ?_⟩
        rw [dAt_succ gr]
        rw [hxl, List.take_length] at hzs
        exact hzs
    · obtain ⟨l, xs, y2, y3, y4, rfl, sm, nl0, hl1, hxs⟩ := hP
      rw [hl] at hxs
      walk_at "go"
      exact q _ l xs sm nl0 hl1 hxs
def sp_law_led (K : PySem.W.Frag) : Sp := fun vs H Q _ => ∃ n rv t rs fs, vs = [.int n, rv, t] ∧ Dp K H rv (rowsD rs) ∧ Dp K H t (flagsD fs) ∧ 1 ≤ n ∧ n ≤ 12 ∧ rs.length ≤ 60 ∧ (∀ r ∈ rs, GoodRow n r) ∧ fs.length = rs.length ∧ ∀ H' v, Same H H' → Dp K H' v (tupI (stAt n rs fs rs.length)) → Q v H'
theorem ok_law_led (T : Txt K mg a) : FnOk P w K mg base CX0 1 a.f_law_led a.d_law_led ["_law_offices_here", "_law_rows_here", "_law_doing"] (sp_law_led K) := by
  refine T.F_law_led.ok sc_law_led (fun vs H Q E h => ?_) (fun cdv A outer s H vs Q E hr h => ?_)
  · obtain ⟨n, rv, t, rs, fs, rfl, _⟩ := h
    rfl
  · obtain ⟨n, rv, t, rs, fs, rfl, hrv, ht, n1, n12, hmax, hgood, hlen, q⟩ := h
    have hst := fun i hi => st_good (by omega : 0 ≤ n) hgood hlen i hi
    obtain ⟨tp, rfl, htp⟩ := of_flags ht
    obtain ⟨p, ys, rfl, hp, ha⟩ := of_tup hrv
    have hl := DpAll.len ha
    rw [List.length_map] at hl
    refine ⟨_, (pss_cons (ps_set (i := 3) sc_law_led.nd rfl (.inl rfl) (pe_listRg rfl (by rfl) T.z_list (prg_1 (by rfl) T.z_range (pv 0))))
  (pss_cons (ps_for PassesOwn.never rfl (kiZip K rfl (by rfl) T.z_zip (pa_cons (pv 2) (pa_cons (pv 1) pa_nil))) (kgTup K rfl rfl (pgs_cons (pg_name (i := 4) sc_law_led.nd rfl (.inl rfl)) (pgs_cons (pg_name (i := 5) sc_law_led.nd rfl (.inl rfl)) pgs_nil)))
  (pss_one (ps_if (pt_val (pv 4))
  (pss_one (ps_asg (pe_ix (kIxL K rfl) (pv 3) (pe_ix (kIxT K rfl) (pv 5) pe_int (fun _ _ => rfl)) (fun _ _ => rfl)) (pg_sub (pv 3) (pe_ix (kIxT K rfl) (pv 5) pe_int (fun _ _ => rfl)) set_list)))
  pss_nil)))
  (pss_one (ps_ret (pe_callTy (kTupOf K rfl) (by rfl) T.z_tuple (by decide +kernel) (pa_cons (pv 3) pa_nil)))))), ?_⟩
    walk_at "go"
    refine ⟨RgOk.of_le (by decide) (by omega) (by decide) (by omega), fun h nh => ?_⟩
    rw [rgV_first]
    have s1 : Same H (upd H h (.lst ((firstSt n).map V.int))) := same_new nh
    walk_at "go"
    refine ⟨tp, p, fs.map V.bl, ys, rfl, .inr ⟨(Tx.of s1).seq htp, (Tx.of s1).seq hp, ?_⟩⟩
    refine for_it (walk_zipT (K := K) (a := tp) (b := p) (xs := fs.map V.bl) (ys := ys) (n := rs.length) (by rw [List.length_map, hl, hlen, Nat.min_self]))
      (fun i σ H' => ∃ y4 y5, σ = [some (.int n), some (.ref p), some (.ref tp), some (.ref h), y4, y5] ∧ Same H H' ∧ H' h = some (.lst ((stAt n rs fs i).map V.int)))
      ⟨_, _, rfl, s1, upd_same⟩ (fun i σ H' _ hP => ?_) (fun i x σ H2 H3 hi hP hy => ?_) (fun σ H' hP => ?_)
    · obtain ⟨y4, y5, rfl, sm, _⟩ := hP
      exact ⟨(Tx.of sm).seq htp, (Tx.of sm).seq hp⟩
    · obtain ⟨y4, y5, rfl, sm, hh⟩ := hP
      obtain ⟨Tp, x1, y1, rfl, nT, rfl, e1, e2⟩ := hy
      obtain ⟨f, gf, rfl⟩ := map_at e1
      obtain ⟨d, gd, rd⟩ := DpAll.get ha e2
      obtain ⟨r, gr, rfl⟩ := map_at gd
      have hrow := hgood r (List.mem_of_getElem? gr)
      obtain ⟨g1, g2, g3, g4, g5⟩ := hrow
      have sT : Same H (upd H2 Tp (.tup [V.bl f, y1])) := sm.trans (same_new nT)
      obtain ⟨rp, rfl, hrp⟩ := of_row (Dp.same sT _ _ rd)
      have nTh : h ≠ Tp := ne_of_none hh nT
      have hst1 := hst i (by omega)
      have hsl : (stAt n rs fs i).length = n.toNat := by have := hst1.1; omega
      have eS : stAt n rs fs (i + 1) = stepR (stAt n rs fs i) r f := st_succ gr gf
      refine ⟨Tp, _, rfl, SqT.new, rfl, _, _, rfl, _, _, rfl, rfl, ?_⟩
      have hh' : (upd H2 Tp (.tup [V.bl f, .ref rp])) h = some (.lst ((stAt n rs fs i).map V.int)) := by rw [upd_ne nTh]; exact hh
      walk_at "go"
      cases f with
      | false =>
        walk_at "go"
        exact ⟨_, _, rfl, sT, by rw [eS]; exact hh'⟩
      | true =>
        have hy2 : r.2.1.toNat < (stAt n rs fs i).length := by omega
        have gz := List.getElem?_eq_getElem hy2
        walk_at "go"
        refine g_ixT hrp (v := .int r.2.1) rfl ?_
        walk_at "go"
        refine g_ixL (SqL.at hh') (atI_at g3 (map_get gz)) ?_
        walk_at "go"
        refine g_ixT hrp (v := .int r.1) rfl ?_
        walk_at "go"
        refine g_setL hh' (ixN_at g1 (by rw [List.length_map, hsl]; omega)) ?_
        refine ⟨_, _, rfl, Same.put sT nh, ?_⟩
        rw [upd_same, eS]
        unfold stepR
        rw [if_pos rfl, getD_of gz, List.map_set]
    · obtain ⟨y4, y5, rfl, sm, hh⟩ := hP
      walk_at "go"
      refine ⟨h, _, rfl, .inl ⟨SqL.at hh, fun t1 nt1 => ?_⟩⟩
      exact q _ _ (sm.trans (same_new nt1)) (dp_ints SqT.new)

end

section
variable {P : Program} {w : World} {K : PySem.W.Frag} {mg : Str → Option Value} {base : Heap} {a : Ad}
/-! ### drawn lists -/
theorem flags_of : ∀ {ds : List PyData}, (∀ e ∈ ds, ∃ f, e = .bool f) → ∃ fs : List Bool, ds = fs.map PyData.bool
  | [], _ => ⟨[], rfl⟩
  | e :: ds, h => by
    obtain ⟨fs, e1⟩ := flags_of fun z hz => h z (List.mem_cons_of_mem _ hz)
    obtain ⟨f, rfl⟩ := h e (List.mem_cons_self ..)
    exact ⟨f :: fs, by rw [e1]; rfl⟩
theorem InL.set {n : Int} {es : List (Option Int)} (h : InL n es) (i : Nat) {o : Option Int} (ho : ∀ z, o = some z → 0 ≤ z ∧ z < n) : InL n (es.set i o) := by
  refine ⟨by rw [List.length_set]; exact h.1, fun z hz => ?_⟩
  rcases List.mem_or_eq_of_mem_set hz with e | e
  · exact h.2 z e
  · exact ho z e.symm
theorem InL.st {n : Int} (hn : 1 ≤ n) {rs : List Row} (hg : ∀ r ∈ rs, GoodRow n r) {fs : List Bool} (hfs : fs.length = rs.length) : InL n ((stAt n rs fs rs.length).map some) := by
  have h := st_good (by omega : 0 ≤ n) hg hfs rs.length (Nat.le_refl _)
  have hl : ((stAt n rs fs rs.length).length : Int) = n := by have := h.1; omega
  refine ⟨by rw [List.length_map]; exact hl, fun z hz => ?_⟩
  obtain ⟨w, hw, e⟩ := List.mem_map.mp hz
  cases e
  exact h.2.1 _ hw
def sp_law_list (K : PySem.W.Frag) : Sp := fun vs H Q _ => ∃ (d c : Addr) (n : Int) (rv : V) (rs : List Row), vs = [.ref d, .int n, rv] ∧ Dice d c H ∧ Dp K H rv (rowsD rs) ∧ 1 ≤ n ∧ n ≤ 12 ∧ rs.length ≤ 60 ∧ (∀ r ∈ rs, GoodRow n r) ∧ ∀ H' v es, Fr d H H' → Dice d c H' → Dp K H' v (listD es) → InL n es → Q v H'
theorem ok_law_list (T : Txt K mg a) : FnOk P w K mg base CX0 3 a.f_law_list a.d_law_list ["_law_hand_here", "_law_offices_here", "_law_rows_here"] (sp_law_list K) := by
  refine T.F_law_list.ok sc_law_list (fun vs H Q E h => ?_) (fun cdv A outer s H vs Q E hr h => ?_)
  · obtain ⟨d, c, n, rv, rs, rfl, _⟩ := h
    rfl
  · obtain ⟨d, c, n, rv, rs, rfl, hD, hrv, n1, n12, hmax, hgood, q⟩ := h
    obtain ⟨p, ys, rfl, hp, ha⟩ := of_tup hrv
    have hl := DpAll.len ha
    rw [List.length_map] at hl
    refine ⟨_, (pss_cons (ps_set (i := 3) sc_law_list.nd rfl (.inl rfl) (pe_callTy (kTupOf K rfl) (by rfl) T.z_tuple (by decide +kernel) (pa_cons (pe_lc (own := [("_law_row_here", 8)]) (g := (gName 8)) rfl sc_law_list.nd (kiTup K rfl (pv 2)) (blkOk_by (own := [("_law_row_here", 8)]) (N := ["_law_hand_here", "_law_offices_here", "_law_rows_here", "_law_doing", "_law_found", "_law_share", "_law_office", "_law_turn", "_law_row_here"]) (sc := defScope s_law_list) (by decide +kernel)) (fun _ _ _ _ _ => (pg_name (i := 8) sc_law_list.nd rfl (.inl rfl))) (fun _ _ _ _ _ => pts_nil) (fun _ _ _ _ _ => (pe_or (pe_ix (kIxT K rfl) (pv 8) pe_int (fun _ _ => rfl)) (pe_one (pe_cmpR op_eq (pe_call (ok_law_draw T) (hr.mono (by first | decide | omega)) (by rfl) T.g_law_draw T.F_law_draw.kp (T.b_law_draw) .nil pass0 (pa_cons (pv 0) (pa_cons pe_int pa_nil))) pe_int (nomark _)))))) pa_nil)))
  (pss_cons (ps_set (i := 4) sc_law_list.nd rfl (.inl rfl) (pe_callTy (kLstOf K rfl) (by rfl) T.z_list (by decide +kernel) (pa_cons (pe_call (ok_law_led T) (hr.mono (by first | decide | omega)) (by rfl) T.g_law_led T.F_law_led.kp (T.b_law_led) .nil pass0 (pa_cons (pv 1) (pa_cons (pv 2) (pa_cons (pv 3) pa_nil)))) pa_nil)))
  (pss_cons (ps_set (i := 5) sc_law_list.nd rfl (.inl rfl) (pe_call (ok_law_draw T) (hr.mono (by first | decide | omega)) (by rfl) T.g_law_draw T.F_law_draw.kp (T.b_law_draw) .nil pass0 (pa_cons (pv 0) (pa_cons pe_int pa_nil))))
  (pss_cons (ps_for PassesOwn.never rfl (pi_range1 rfl T.z_range (pa_cons (pv 1) pa_nil)) (pg_name (i := 6) sc_law_list.nd rfl (.inl rfl))
  (pss_one (ps_if (pt_cmpR op_lt (pe_call (ok_law_draw T) (hr.mono (by first | decide | omega)) (by rfl) T.g_law_draw T.F_law_draw.kp (T.b_law_draw) .nil pass0 (pa_cons (pv 0) (pa_cons pe_int pa_nil))) (pv 5) (nomark _))
  (pss_one (ps_asg pe_non (pg_sub (pv 4) (pv 6) set_list)))
  pss_nil)))
  (pss_cons (ps_for PassesOwn.never rfl (pi_range1 rfl T.z_range (pa_cons (pe_call (ok_law_draw T) (hr.mono (by first | decide | omega)) (by rfl) T.g_law_draw T.F_law_draw.kp (T.b_law_draw) .nil pass0 (pa_cons (pv 0) (pa_cons pe_int pa_nil))) pa_nil)) (pg_name (i := 7) sc_law_list.nd rfl (.inl rfl))
  (pss_one (ps_asg (pe_call (ok_law_draw T) (hr.mono (by first | decide | omega)) (by rfl) T.g_law_draw T.F_law_draw.kp (T.b_law_draw) .nil pass0 (pa_cons (pv 0) (pa_cons (pv 1) pa_nil))) (pg_sub (pv 4) (pe_call (ok_law_draw T) (hr.mono (by first | decide | omega)) (by rfl) T.g_law_draw T.F_law_draw.kp (T.b_law_draw) .nil pass0 (pa_cons (pv 0) (pa_cons (pv 1) pa_nil))) set_list))))
  (pss_one (ps_ret (pe_callTy (kTupOf K rfl) (by rfl) T.z_tuple (by decide +kernel) (pa_cons (pv 4) pa_nil))))))))), ?_⟩
    walk_at "go"
    refine ⟨p, rfl, ⟨_, hp⟩, fun D nDD => ?_⟩
    refine lc_drawI (K := K) (d := d) (c := c) (walk_tup (K := K) (a := p) (xs := ys)) (fun i e => ∃ f, e = .bool f) (small1000 (by omega)) (fun i e ⟨z, h⟩ => by rw [h]; rfl) nDD hD (fun H' f => (hD.tx f).seq hp) (fun j x H9 H9' C Cn hj f9 hD9 hy hC => ?_) (fun H1 zs ds f1 hD1 hDl hzs hn hall => ?_)
    · obtain ⟨rfl, hx⟩ := hy
      obtain ⟨e, ge, re⟩ := DpAll.get ha hx
      obtain ⟨r', gr, rfl⟩ := map_at ge
      obtain ⟨rp, rfl, hrp⟩ := of_row re
      refine ⟨rfl, ?_⟩
      walk_at "go"
      refine g_ixT ((hD.tx f9).seq hrp) (v := .bl r'.2.2) rfl ?_
      walk_at "go"
      cases hs : r'.2.2 with
      | true =>
        walk_at "go"
        exact hC _ _ _ (Fr.refl _ _) hD9 (.bl true) ⟨true, rfl⟩
      | false =>
        walk_at "go"
        refine ⟨d, c, 2, rfl, hD9, by decide, by decide, fun H10 z f10 hD10 _ _ => ?_⟩
        walk_at "go"
        exact hC _ _ _ f10 hD10 (.bl _) ⟨_, rfl⟩
    obtain ⟨fs, rfl⟩ := flags_of fun e he => by
      obtain ⟨i, hi⟩ := List.mem_iff_getElem?.mp he
      exact hall i e hi
    rw [List.length_map] at hn
    walk_at "go"
    refine ⟨D, zs, rfl, .inl ⟨SqL.at hDl, fun p2 np2 => ?_⟩⟩
    have hfl : Dp K (upd H1 p2 (.tup zs)) (.ref p2) (flagsD fs) := .tup SqT.new (Dp.sameAll (same_new np2) _ _ hzs)
    have f2 : Fr d H (upd H1 p2 (.tup zs)) := f1.trans (Fr.new np2)
    have hD2 := hD1.new (o := .tup zs) np2
    generalize upd H1 p2 (.tup zs) = H2 at *
    have hfs : fs.length = rs.length := by omega
    walk_at "go"
    refine ⟨n, .ref p, .ref p2, rs, fs, rfl, Dp.tx (hD.tx f2) _ _ (im_rowsD rs) hrv, hfl, n1, n12, hmax, hgood, hfs, fun H3 v s3 hv => ?_⟩
    rw [tupI_list] at hv
    have hI := InL.st n1 hgood hfs
    obtain ⟨lp, rfl, hlp⟩ := of_list hv
    refine ⟨lp, _, rfl, .inr hlp, fun F nF => ?_⟩
    have hD3 := hD2.fr s3
    have hD4 := hD3.new (o := .lst (((stAt n rs fs rs.length).map some).map optV)) nF
    have nFd := hD3.nd nF
    have nFc := hD3.nc nF
    have f4 : Fr d H (upd H3 F (.lst (((stAt n rs fs rs.length).map some).map optV))) := (f2.trans (Fr.of s3)).trans (Fr.new nF)
    have f24 : Fr d H2 (upd H3 F (.lst (((stAt n rs fs rs.length).map some).map optV))) := (Fr.of s3).trans (Fr.new nF)
    generalize hes : (stAt n rs fs rs.length).map some = es at *
    have hF0 : (upd H3 F (.lst (es.map optV))) F = some (.lst (es.map optV)) := upd_same
    have nF2 : H2 F = none := s3.free nF
    generalize upd H3 F (.lst (es.map optV)) = H4 at *
    walk_at "go"
    refine ⟨d, c, 4, rfl, hD4, by decide, by decide, fun H5 sh f5 hD5 _ _ => ?_⟩
    have hF5 := f5 _ _ nFd hF0
    walk_at "go"
    refine ⟨_, rfl, by omega, by omega, ?_⟩
    refine for_it walk_rng0 (fun i σ H' => ∃ y6 y7 y8, σ = [some (.ref d), some (.int n), some (.ref p), some (.ref p2), some (.ref F), some (.int sh), y6, y7, y8] ∧ Fr d H2 H' ∧ Dice d c H' ∧ ∃ es, H' F = some (.lst (es.map optV)) ∧ InL n es)
      ⟨_, _, _, rfl, f24.trans f5, hD5, es, hF5, hI⟩ (fun _ _ _ _ _ => trivial) (fun i z σ H6 H6' hi hP hy => ?_) (fun σ H7 hP => ?_)
    · obtain ⟨y6, y7, y8, rfl, f6, hD6, es, hF6, hI6⟩ := hP
      obtain ⟨rfl, rfl⟩ := hy
      walk_at "go"
      refine ⟨d, c, 5, rfl, hD6, by decide, by decide, fun H8 x f8 hD8 _ _ => ?_⟩
      have hF8 := f8 _ _ nFd hF6
      walk_at "go"
      refine g_ite (fun e0 => ?_) (fun e0 => ?_)
      · walk_at "go"
        refine g_setL hF8 (ixN_at (by omega) (by rw [List.length_map]; have := hI6.1; omega)) ?_
        refine ⟨_, _, _, rfl, Fr.put (f6.trans f8) nF2, hD8.put nFd nFc, es.set ((i : Nat) : Int).toNat none, ?_, hI6.set ((i : Nat) : Int).toNat (fun z hz => by cases hz)⟩
        rw [upd_same, List.map_set]
        rfl
      · walk_at "go"
        exact ⟨_, _, _, rfl, f6.trans f8, hD8, es, hF8, hI6⟩
    · obtain ⟨y6, y7, y8, rfl, f7, hD7, es, hF7, hI7⟩ := hP
      walk_at "go"
      refine ⟨d, c, 3, rfl, hD7, by decide, by decide, fun H8 m f8 hD8 m0 m1 => ?_⟩
      refine ⟨_, rfl, by omega, by omega, ?_⟩
      refine for_it walk_rng0 (fun i σ H' => ∃ y6 y7 y8, σ = [some (.ref d), some (.int n), some (.ref p), some (.ref p2), some (.ref F), some (.int sh), y6, y7, y8] ∧ Fr d H2 H' ∧ Dice d c H' ∧ ∃ es, H' F = some (.lst (es.map optV)) ∧ InL n es)
        ⟨_, _, _, rfl, f7.trans f8, hD8, es, f8 _ _ nFd hF7, hI7⟩ (fun _ _ _ _ _ => trivial) (fun i z σ H9 H9' hi hP hy => ?_) (fun σ H9 hP => ?_)
      · obtain ⟨y6, y7, y8, rfl, f9, hD9, es, hF9, hI9⟩ := hP
        obtain ⟨rfl, rfl⟩ := hy
        walk_at "go"
        refine ⟨d, c, n, rfl, hD9, by omega, by omega, fun H10 x f10 hD10 x0 x1 => ?_⟩
        have hF10 := f10 _ _ nFd hF9
        walk_at "go"
        refine ⟨d, c, n, rfl, hD10, by omega, by omega, fun H11 k f11 hD11 k0 k1 => ?_⟩
        have hF11 := f11 _ _ nFd hF10
        refine g_setL hF11 (ixN_at k0 (by rw [List.length_map]; have := hI9.1; omega)) ?_
        refine ⟨_, _, _, rfl, Fr.put ((f9.trans f10).trans f11) nF2, hD11.put nFd nFc, es.set k.toNat (some x), ?_, hI9.set k.toNat (fun z hz => by cases hz; exact ⟨x0, x1⟩)⟩
        rw [upd_same, List.map_set]
        rfl
      · obtain ⟨y6, y7, y8, rfl, f9, hD9, es, hF9, hI9⟩ := hP
        walk_at "go"
        refine ⟨F, _, rfl, .inl ⟨SqL.at hF9, fun p4 np4 => ?_⟩⟩
        exact q _ _ es ((f2.trans f9).trans (Fr.new np4)) (hD9.new np4) (dp_list SqT.new) hI9
/-! ### the law -/
def lawLevel : Nat := 11
theorem dAt_pos {rs : List Row} : ∀ (i : Nat), i ≤ rs.length → 0 < (dAt rs i).length
  | 0, _ => by show 0 < ([[]] : List (List Bool)).length; decide
  | i + 1, hi => by
    have gr := List.getElem?_eq_getElem (show i < rs.length by omega)
    generalize rs[i] = r at gr
    have ih := dAt_pos (rs := rs) i (by omega)
    rw [dAt_succ gr]
    cases hd : dAt rs i with
    | nil => rw [hd] at ih; cases ih
    | cons x xs =>
      rw [List.flatMap_cons, List.length_append]
      have : 0 < (dStep r x).length := by
        unfold dStep
        split <;> simp
      omega
theorem im_postD (f : Int) (st : List Int) (l : Int) : im (postD f st l) = true := by
  show (true && (im (tupI st) && (true && true))) = true
  rw [im_ints]
  rfl
def sp_law (K : PySem.W.Frag) : Sp := fun vs H Q _ => ∃ (a : Addr) (ns : List Int), vs = [.ref a] ∧ SqL K H a (ns.map V.int) ∧ ns.length ≤ 63 ∧ ∀ H', Q (.bl true) H'
theorem all_trues : ∀ k : Nat, (List.replicate k true).all id = true := fun k => by
  rw [List.all_eq_true]
  intro x hx
  rw [(List.mem_replicate.mp hx).2]
  rfl
set_option maxHeartbeats 2000000 in
theorem ok_law (T : Txt K mg a) : FnOk P w K mg base CX0 lawLevel a.f_law a.d_law ["_law_script"] (sp_law K) := by
  refine T.F_law.ok sc_law (fun vs H Q E h => ?_) (fun cdv A outer s H vs Q E hr h => ?_)
  · obtain ⟨s, ns, rfl, _⟩ := h
    rfl
  · obtain ⟨sa, cells, rfl, hS, hlen, q⟩ := h
    refine ⟨_, (pss_cons (ps_set (i := 1) sc_law.nd rfl (.inl rfl) (pe_call (ok_law_hand T) (hr.mono (by first | decide | omega)) (by rfl) T.g_law_hand T.F_law_hand.kp (T.b_law_hand) .nil pass0 (pa_cons (pv 0) pa_nil)))
  (pss_cons (ps_for PassesOwn.never rfl (pi_range1 rfl T.z_range (pa_cons pe_int pa_nil)) (pg_name (i := 2) sc_law.nd rfl (.inl rfl))
  (pss_cons (ps_set (i := 3) sc_law.nd rfl (.inr rfl) (pe_call (ok_law_offices T) (hr.mono (by first | decide | omega)) (by rfl) T.g_law_offices T.F_law_offices.kp (T.b_law_offices) .nil pass0 (pa_cons (pv 1) (pa_cons pe_int pa_nil))))
  (pss_cons (ps_set (i := 4) sc_law.nd rfl (.inr rfl) (pe_call (ok_law_rows T) (hr.mono (by first | decide | omega)) (by rfl) T.g_law_rows T.F_law_rows.kp (T.b_law_rows) .nil pass0 (pa_cons (pv 1) (pa_cons (pv 3) (pa_cons (pe_call (ok_law_draw T) (hr.mono (by first | decide | omega)) (by rfl) T.g_law_draw T.F_law_draw.kp (T.b_law_draw) .nil pass0 (pa_cons (pv 1) (pa_cons pe_int pa_nil))) (pa_cons pe_int pa_nil))))))
  (pss_cons (ps_set (i := 5) sc_law.nd rfl (.inl rfl) (pe_make T.mk_Log (ok_Log_init T) (hr.mono (by first | decide | omega)) (by rfl) T.gc_Log T.b_Log_init .nil pass0 (pa_cons (pv 3) (pa_cons (pv 4) pa_nil))))
  (pss_cons (ps_setLc (i := 6) (own := [("_law_doing", 13)]) (g := (gName 13)) rfl sc_law.nd rfl rfl (sw_true rfl rfl rfl (by decide +kernel)) (kiList K rfl (pe_call (ok_law_doings T) (hr.mono (by first | decide | omega)) (by rfl) T.g_law_doings T.F_law_doings.kp (T.b_law_doings) .nil pass0 (pa_cons (pv 4) pa_nil))) (blkOk_by (own := [("_law_doing", 13)]) (N := ["_law_script", "_law_hand_here", "_law_turn", "_law_offices_here", "_law_rows_here", "_law_log", "_law_finals", "_law_side", "_law_thing", "_law_cost", "_law_again", "_law_editions", "_law_due", "_law_doing", "_law_row_here"]) (sc := defScope s_law) (by decide +kernel)) (fun _ _ _ _ _ => (pg_name (i := 13) sc_law.nd rfl (.inl rfl))) (fun _ _ _ _ _ => pts_nil) (fun _ _ _ _ _ => (pe_call (ok_law_led T) (hr.mono (by first | decide | omega)) (by rfl) T.g_law_led T.F_law_led.kp (T.b_law_led) .nil pass0 (pa_cons (pv 3) (pa_cons (pv 4) (pa_cons (pv 13) pa_nil))))))
  (pss_one (ps_for PassesOwn.never rfl (kiTup K rfl (pe_tup (pa_cons pe_str (pa_cons pe_str pa_nil)))) (pg_name (i := 7) sc_law.nd rfl (.inr rfl))
  (pss_cons (ps_set (i := 8) sc_law.nd rfl (.inr rfl) (pe_call (ok_law_drawn_post T) (hr.mono (by first | decide | omega)) (by rfl) T.g_law_drawn_post T.F_law_drawn_post.kp (T.b_law_drawn_post) .nil pass0 (pa_cons (pv 1) (pa_cons (pv 3) (pa_cons (pv 4) (pa_cons (pv 7) pa_nil))))))
  (pss_cons (ps_if (pt_cmpR op_eq (pe_call (ok_law_draw T) (hr.mono (by first | decide | omega)) (by rfl) T.g_law_draw T.F_law_draw.kp (T.b_law_draw) .nil pass0 (pa_cons (pv 1) (pa_cons pe_int pa_nil))) pe_int (nomark _))
  (pss_one (ps_set (i := 8) sc_law.nd rfl (.inr rfl) (pe_call (ok_post T) (hr.mono (by first | decide | omega)) (by rfl) T.g_post T.F_post.kp (T.b_post) .nil pass0 (pa_cons (pv 5) (pa_cons (pv 7) (pa_cons (pe_ix (kIxT K rfl) (pv 8) pe_int (fun _ _ => rfl)) (pa_cons (pe_ix (kIxT K rfl) (pv 8) pe_int (fun _ _ => rfl)) pa_nil)))))))
  pss_nil)
  (pss_cons (ps_set (i := 9) sc_law.nd rfl (.inr rfl) (pe_call (ok_post_price T) (hr.mono (by first | decide | omega)) (by rfl) T.g_post_price T.F_post_price.kp (T.b_post_price) .nil pass0 (pa_cons (pv 5) (pa_cons (pv 7) (pa_cons (pv 8) pa_nil)))))
  (pss_cons (ps_if (pt_not (pt_val (pe_callB (kAll K rfl rfl) (by rfl) T.z_all (by decide +kernel) (pa_cons (pe_lc (own := [("_law_row_here", 14)]) (g := (gName 14)) rfl sc_law.nd (kiList K rfl (pv 6)) (blkOk_by (own := [("_law_row_here", 14)]) (N := ["_law_script", "_law_hand_here", "_law_turn", "_law_offices_here", "_law_rows_here", "_law_log", "_law_finals", "_law_side", "_law_thing", "_law_cost", "_law_again", "_law_editions", "_law_due", "_law_doing", "_law_row_here"]) (sc := defScope s_law) (by decide +kernel)) (fun _ _ _ _ _ => (pg_name (i := 14) sc_law.nd rfl (.inl rfl))) (fun _ _ _ _ _ => pts_nil) (fun _ _ _ _ _ => (pe_cmpR op_le (pe_callB (kLen K rfl) (by rfl) T.z_len (by decide +kernel) (pa_cons (pe_call (ok_law_passing T) (hr.mono (by first | decide | omega)) (by rfl) T.g_law_passing T.F_law_passing.kp (T.b_law_passing) .nil pass0 (pa_cons (pv 7) (pa_cons (pe_ix (kIxT K rfl) (pv 8) pe_int (fun _ _ => rfl)) (pa_cons (pe_ix (kIxT K rfl) (pv 8) pe_int (fun _ _ => rfl)) (pa_cons (pv 14) pa_nil))))) pa_nil)) (pv 9) (nomark _)))) pa_nil))))
  (pss_one (ps_ret pe_bl))
  pss_nil)
  (pss_one (ps_for PassesOwn.never rfl (pi_range1 rfl T.z_range (pa_cons pe_int pa_nil)) (pg_name (i := 10) sc_law.nd rfl (.inl rfl))
  (pss_cons (ps_set (i := 11) sc_law.nd rfl (.inl rfl) (pe_call (ok_law_some T) (hr.mono (by first | decide | omega)) (by rfl) T.g_law_some T.F_law_some.kp (T.b_law_some) .nil pass0 (pa_cons (pv 1) (pa_cons (pv 6) pa_nil))))
  (pss_cons (ps_if (pt_cmpR op_gt (pv 10) pe_int (nomark _))
  (pss_one (ps_set (i := 11) sc_law.nd rfl (.inl rfl) (pe_call (ok_law_list T) (hr.mono (by first | decide | omega)) (by rfl) T.g_law_list T.F_law_list.kp (T.b_law_list) .nil pass0 (pa_cons (pv 1) (pa_cons (pv 3) (pa_cons (pv 4) pa_nil))))))
  pss_nil)
  (pss_cons (ps_set (i := 12) sc_law.nd rfl (.inl rfl) (pe_call (ok_law_passing T) (hr.mono (by first | decide | omega)) (by rfl) T.g_law_passing T.F_law_passing.kp (T.b_law_passing) .nil pass0 (pa_cons (pv 7) (pa_cons (pe_ix (kIxT K rfl) (pv 8) pe_int (fun _ _ => rfl)) (pa_cons (pe_ix (kIxT K rfl) (pv 8) pe_int (fun _ _ => rfl)) (pa_cons (pv 11) pa_nil))))))
  (pss_cons (ps_if (pt_not (pt_val (pe_call (ok_law_is T 1) (hr.mono (by first | decide | omega)) (by rfl) T.g_law_is T.F_law_is.kp (T.b_law_is) .nil pass0 (pa_cons (pe_call (ok_passed T) (hr.mono (by first | decide | omega)) (by rfl) T.g_passed T.F_passed.kp (T.b_passed) .nil pass0 (pa_cons (pv 5) (pa_cons (pv 7) (pa_cons (pv 8) (pa_cons (pv 11) pa_nil))))) (pa_cons (pv 12) pa_nil)))))
  (pss_one (ps_ret pe_bl))
  pss_nil)
  (pss_one (ps_if (PW.pt (pw_and (pt_cmpR op_eq (pv 10) pe_int (nomark _)) (pw_and1 (pt_cmpR op_gt (pe_callB (kLen K rfl) (by rfl) T.z_len (by decide +kernel) (pa_cons (pv 12) pa_nil)) (pv 9) (nomark _)))))
  (pss_one (ps_ret pe_bl))
  pss_nil)))))))))))))))))))
  (pss_one (ps_ret pe_bl)))), ?_⟩
    walk_at "go"
    refine ⟨sa, cells, rfl, hS, hlen, fun H1 d c s1 nd hD1 => ?_⟩
    walk_at "go"
    refine ⟨_, rfl, by decide, by decide, ?_⟩
    refine for_it walk_rng0 (fun i σ H' => ∃ y2 y3 y4 y5 y6 y7 y8 y9 y10 y11 y12 y13 y14, σ = [some (.ref sa), some (.ref d), y2, y3, y4, y5, y6, y7, y8, y9, y10, y11, y12, y13, y14] ∧ Dice d c H') ⟨_, _, _, _, _, _, _, _, _, _, _, _, _, rfl, hD1⟩ (fun _ _ _ _ _ => trivial) (fun i z σ H4 H4' hi hP hy => ?_) (fun σ H' hP => ?_)
    · obtain ⟨y2, y3, y4, y5, y6, y7, y8, y9, y10, y11, y12, y13, y14, rfl, hD4⟩ := hP
      obtain ⟨rfl, rfl⟩ := hy
      walk_at "go"
      refine ⟨d, c, 6, rfl, hD4, by decide, by decide, fun H5 n f5 hD5 n1 n6 => ?_⟩
      walk_at "go"
      refine ⟨d, c, 8, rfl, hD5, by decide, by decide, fun H6 m f6 hD6 m0 m1 => ?_⟩
      walk_at "go"
      refine ⟨d, c, n, m, 2, rfl, hD6, n1, by omega, m0, by omega, fun H7 v rs f7 hD7 hv hgood hl _ => ?_⟩
      have n12 : n ≤ 12 := by omega
      obtain ⟨p, ys, rfl, hp, ha⟩ := of_tup hv
      walk_at "go"
      intro x dx nx ndx nxd
      refine ⟨x, dx, n, p, rs, rfl, upd_same, ?_, ⟨n1, n12, by omega, hgood⟩, fun H8 f8 hx8 => ⟨rfl, ?_⟩⟩
      · exact Dp.same ((same_new ndx).trans (same_new (by rw [upd_ne nxd.symm]; exact nx))) _ _ hv
      have s8 := log_made nx ndx f8
      have hv8 := Dp.same s8 _ _ hv
      have hlog8 : LogAt K a.c_Log H8 (.ref x) n rs := ⟨x, dx, p, rfl, hx8, hv8⟩
      have hD8 := hD7.fr s8
      walk_at "go"
      refine ⟨.ref p, rs, rfl, hv8, by omega, fun H9 fl xs s9 nfl hfl hxs => ?_⟩
      have hv9 := Dp.same s9 _ _ hv8
      refine ⟨fl, rfl, ⟨_, SqL.at hfl⟩, fun D nD => ?_⟩
      refine lc_data (K := K) (walk_list (K := K) (a := fl) (xs := xs)) (fun i => (((dAt rs rs.length).take i).map fun fs => tupI (stAt n rs fs rs.length))) rfl (fun i _ => ?_) (fun i _ => imAll_map (fun fs => im_ints _) _) nD (fun H' s => SqL.at (s _ _ hfl)) (fun j z H10 H10' C Cn hj s hy hC hN => ?_) (fun H10 zs s10 hD10 hzs => ?_)
      · rw [List.length_map, List.length_take]
        have := dAt_take (rs := rs) (i := rs.length) (Nat.le_refl _) (by omega)
        exact small1000 (by omega)
      · obtain ⟨rfl, hx⟩ := hy
        obtain ⟨e, ge, re⟩ := DpAll.get hxs hx
        obtain ⟨fs, gfs, rfl⟩ := map_at ge
        refine ⟨rfl, ?_⟩
        walk_at "go"
        refine ⟨n, .ref p, z, rs, fs, rfl, Dp.same s _ _ hv9, Dp.same s _ _ re, n1, n12, by omega, hgood, dAt_mlen rs.length (Nat.le_refl _) fs (List.mem_of_getElem? gfs), fun H11 v' s11 hv' => ?_⟩
        refine hC _ _ _ s11 hv' ?_
        rw [take_snoc gfs, List.map_append]
        rfl
      have hxl := DpAll.len hxs
      rw [List.length_map] at hxl
      rw [hxl, List.take_length] at hzs
      have hfin : ∀ (k : Nat) (u : V), zs[k]? = some u → ∃ fs : List Bool, fs.length = rs.length ∧ Dp K H10 u (tupI (stAt n rs fs rs.length)) := fun k u hu => by
        obtain ⟨e, ge, re⟩ := DpAll.get hzs hu
        obtain ⟨fs, gfs, rfl⟩ := map_at ge
        exact ⟨fs, dAt_mlen rs.length (Nat.le_refl _) fs (List.mem_of_getElem? gfs), re⟩
      have hpos : 0 < zs.length := by
        rw [DpAll.len hzs, List.length_map]
        exact dAt_pos rs.length (Nat.le_refl _)
      have hzl : zs.length ≤ 128 := by
        rw [DpAll.len hzs, List.length_map]
        exact dAt_take (rs := rs) (i := rs.length) (Nat.le_refl _) (by omega)
      have nDd : D ≠ d := (hD8.fr s9).nd nD
      have hDc10 : Dice d c H10 := hD8.fr (s9.trans s10)
      walk_at "go"
      refine ⟨by show 2 ≤ sizeLine; decide, fun t1 nt1 => ?_⟩
      have s12 : Same H10 (upd H10 t1 (.tup [.str (Str.ofString "left"), .str (Str.ofString "right")])) := same_new nt1
      have ht1 : SqT K (upd H10 t1 (.tup [.str (Str.ofString "left"), .str (Str.ofString "right")])) t1 [.str (Str.ofString "left"), .str (Str.ofString "right")] := SqT.new
      refine ⟨t1, rfl, ⟨_, ht1⟩, ?_⟩
      generalize upd H10 t1 (.tup [.str (Str.ofString "left"), .str (Str.ofString "right")]) = H12 at *
      have s812 := s9.trans (s10.trans s12)
      have hD12 := hD8.fr s812
      have hv12 := Dp.same s812 _ _ hv8
      have hlog12 := hlog8.tx (Tx.of s812)
      have hDl12 : H12 D = some (.lst zs) := s12 _ _ hD10
      have hA : AnyLog n rs := ⟨n1, n12, by omega, hgood⟩
      have hfin12 : ∀ (k : Nat) (u : V), zs[k]? = some u → ∃ fs : List Bool, fs.length = rs.length ∧ Dp K H12 u (listD ((stAt n rs fs rs.length).map some)) := fun k u hu => by
        obtain ⟨fs, e1, e2⟩ := hfin k u hu
        have e3 := Dp.same s12 _ _ e2
        rw [tupI_list] at e3
        exact ⟨fs, e1, e3⟩
      clear hfin hzs hxs
      refine for_it (walk_tup (K := K) (a := t1) (xs := [.str (Str.ofString "left"), .str (Str.ofString "right")])) (fun j σ H' => ∃ y7 y8 y9 y10 y11 y12 y13 y14, σ = [some (.ref sa), some (.ref d), some (.int (i : Int)), some (.int n), some (.ref p), some (.ref x), some (.ref D), y7, y8, y9, y10, y11, y12, y13, y14] ∧ Fr d H12 H' ∧ Dice d c H') ⟨_, _, _, _, _, _, _, _, rfl, Fr.refl _ _, hD12⟩ (fun j σ H' _ hP => ?_) (fun j z σ H13 H13' hj hP hy => ?_) (fun σ H' hP => ?_)
      · obtain ⟨_, _, _, _, _, _, _, _, _, f13, _⟩ := hP
        exact (hD12.tx f13).seq ht1
      · obtain ⟨y7, y8, y9, y10, y11, y12, y13, y14, rfl, f13, hD13⟩ := hP
        obtain ⟨rfl, hz⟩ := hy
        obtain ⟨b, rfl⟩ : ∃ b, z = .str (sideS b) := by
          match j, hz with
          | 0, hz => cases hz; exact ⟨true, rfl⟩
          | 1, hz => cases hz; exact ⟨false, rfl⟩
          | k + 2, hz => simp at hz
        have t13 : Tx H12 H13' := hD12.tx f13
        walk_at "go"
        refine ⟨d, c, n, b, .ref p, rs, rfl, hD13, Dp.tx t13 _ _ (im_rowsD rs) hv12, n1, n12, by omega, hgood, fun H14 v0 f0 st0 l0 f14 hD14 hv14 hw0 hall0 => ?_⟩
        have fA : Fr d H12 H14 := f13.trans f14
        walk_at "gs"
        refine seq_cut (fun σ' H' => ∃ v f st l, σ' = [some (.ref sa), some (.ref d), some (.int (i : Int)), some (.int n), some (.ref p), some (.ref x), some (.ref D), some (.str (sideS b)), some v, y9, y10, y11, y12, y13, y14] ∧ Fr d H12 H' ∧ Dice d c H' ∧ Dp K H' v (postD f st l) ∧ WfPost n rs f st l ∧ (stands b rs st).all id = true) ?_ ?_
        · rintro σ' H15 ⟨v, f, st, l, rfl, f15, hD15, hv15, hw, hall⟩
          have hsl : st.length ≤ 60 := by have := hw.2.2.2.2.1; omega
          have t15 : Tx H12 H15 := hD12.tx f15
          walk_at "go"
          refine ⟨.ref x, n, rs, b, v, f, st, l, rfl, hlog12.tx t15, hv15, hw, by omega, hall, fun H16 s16 => ?_⟩
          have f16 : Fr d H12 H16 := f15.trans (Fr.of s16)
          have hD16 := hD15.fr s16
          have t16 : Tx H12 H16 := hD12.tx f16
          have hv16 := Dp.same s16 _ _ hv15
          have hDl16 := f16 _ _ nDd hDl12
          generalize hcost : costP b f (st ++ [l]) = cost at *
          walk_at "go"
          refine ⟨D, rfl, ⟨_, SqL.at hDl16⟩, fun D2 nD2 => ?_⟩
          refine lc_same (H0 := H16) (walk_list (K := K) (a := D) (xs := zs)) (fun i => (List.replicate i true).map V.bl) rfl (fun i hi => ?_) (Same.refl _) nD2 nD2 (fun H' s => SqL.at (s _ _ hDl16)) (fun k u H17 H17' C Cn hk s hy hC hN => ?_) (fun H17 s17 hD2' => ?_)
          · rw [List.length_map, List.length_replicate]
            exact small1000 (by omega)
          · obtain ⟨rfl, hx⟩ := hy
            obtain ⟨fs, hfs, hu⟩ := hfin12 k u hx
            obtain ⟨vp, t, rfl, hvp, ht⟩ := of_post (Dp.same s _ _ hv16)
            have hI := InL.st n1 hgood hfs
            refine ⟨rfl, ?_⟩
            walk_at "go"
            refine g_ixT hvp (v := .int f) rfl ?_
            walk_at "go"
            refine g_ixT hvp (v := .int l) rfl ?_
            walk_at "go"
            refine ⟨b, f, l, u, _, rfl, Dp.tx (t16.trans (Tx.of s)) _ _ (im_listD _) hu, by have := hI.1; omega, hw.2.2.1, fun H18 v' out s18 hv' hU => ?_⟩
            have h2f := second_fact n1 hgood hw hall hfs hU
            rw [hcost] at h2f
            obtain ⟨op, rfl, hop⟩ := of_ints hv'
            refine ⟨op, _, rfl, .inr hop, ?_⟩
            rw [List.length_map]
            walk_at "go"
            rw [decide_eq_true h2f]
            refine hC _ _ s18 ?_
            rw [List.replicate_succ', List.map_append]
            rfl
          walk_at "go"
          refine ⟨D2, _, rfl, SqL.at hD2', ?_⟩
          rw [all_rep]
          have f17 : Fr d H12 H17 := f16.trans (Fr.of s17)
          have hD17 := hD16.fr s17
          have hv17 := Dp.same s17 _ _ hv16
          walk_at "go"
          refine ⟨_, rfl, by decide, by decide, ?_⟩
          refine for_it walk_rng0 (fun k σ H' => ∃ y10 y11 y12 y13 y14, σ = [some (.ref sa), some (.ref d), some (.int (i : Int)), some (.int n), some (.ref p), some (.ref x), some (.ref D), some (.str (sideS b)), some v, some (.int cost), y10, y11, y12, y13, y14] ∧ Fr d H17 H' ∧ Dice d c H') ⟨_, _, _, _, _, rfl, Fr.refl _ _, hD17⟩ (fun _ _ _ _ _ => trivial) (fun k z σ H18 H18' hk hP hy => ?_) (fun σ H' hP => ?_)
          · obtain ⟨y10, y11, y12, y13, y14, rfl, f18, hD18⟩ := hP
            obtain ⟨rfl, rfl⟩ := hy
            walk_at "go"
            refine ⟨d, c, D, zs, rfl, hD18, (f17.trans f18) _ _ nDd hDl12, nDd, hpos, by omega, fun H19 u f19 hD19 hu => ?_⟩
            have f19' : Fr d H17 H19 := f18.trans f19
            obtain ⟨m9, hm9⟩ := List.mem_iff_getElem?.mp hu
            obtain ⟨fs, hfs, hdu⟩ := hfin12 m9 u hm9
            have hdu19 := Dp.tx (hD12.tx (f17.trans f19')) _ _ (im_listD _) hdu
            walk_at "gs"
            refine seq_cut (fun σ' H' => ∃ u es, σ' = [some (.ref sa), some (.ref d), some (.int (i : Int)), some (.int n), some (.ref p), some (.ref x), some (.ref D), some (.str (sideS b)), some v, some (.int cost), some (.int (k : Int)), some u, y12, y13, y14] ∧ Fr d H17 H' ∧ Dice d c H' ∧ Dp K H' u (listD es) ∧ InL n es ∧ ((k : Int) = 0 → ∀ out, UpOf out (passL b f l es) → (out.length : Int) ≤ cost)) ?_ ?_
            · rintro σ' H20 ⟨u, es, rfl, f20, hD20, hu20, hin, h2f⟩
              have t20 : Tx H12 H20 := hD12.tx (f17.trans f20)
              have hv20 := Dp.tx (hD17.tx f20) _ _ (im_postD f st l) hv17
              obtain ⟨vp, t, rfl, hvp, ht⟩ := of_post hv20
              have hel := hin.1
              walk_at "go"
              refine g_ixT hvp (v := .int f) rfl ?_
              walk_at "go"
              refine g_ixT hvp (v := .int l) rfl ?_
              walk_at "go"
              refine ⟨b, f, l, u, es, rfl, hu20, by omega, hw.2.2.1, fun H21 due o1 s21 hdue hU1 => ?_⟩
              walk_at "go"
              refine ⟨.ref x, n, rs, b, .ref vp, f, st, l, u, es, rfl, hlog12.tx (t20.trans (Tx.of s21)), Dp.same s21 _ _ hv20, hw, by omega, hall, Dp.same s21 _ _ hu20, hin, n12, fun H22 got o2 s22 hgot hU2 => ?_⟩
              have eo := hU2.same hU1
              subst eo
              have hol := hU2.len
              have hpl := passL_len b f l es
              walk_at "go"
              refine ⟨_, _, tupI o2, rfl, hgot, Dp.same s22 _ _ hdue, dep_tupI _, sm_tupI (by omega), fun H23 s23 => ?_⟩
              have s2023 := s21.trans (s22.trans s23)
              walk_at "go"
              refine g_ite (fun e0 => ?_) (fun e0 => ?_)
              · obtain ⟨op, rfl, hop⟩ := of_ints (Dp.same (s22.trans s23) _ _ hdue)
                walk_at "go"
                refine ⟨op, _, rfl, .inr hop, ?_⟩
                rw [List.length_map]
                walk_at "go"
                rw [decide_eq_false (show ¬ cost < (o2.length : Int) by have := h2f e0 o2 hU1; omega)]
                walk_at "go"
                exact ⟨_, _, _, _, _, rfl, f20.trans (Fr.of s2023), hD20.fr s2023⟩
              · walk_at "go"
                exact ⟨_, _, _, _, _, rfl, f20.trans (Fr.of s2023), hD20.fr s2023⟩
            · intro N hN
              walk_at "go"
              refine g_ite (fun e0 => ?_) (fun e0 => ?_)
              · walk_at "go"
                refine ⟨d, c, n, .ref p, rs, rfl, hD19, Dp.tx (hD12.tx (f17.trans f19')) _ _ (im_rowsD rs) hv12, n1, n12, by omega, hgood, fun H20 u2 es f20 hD20 hu2 hin => ?_⟩
                walk_at "go"
                exact hN _ _ ⟨u2, es, rfl, f19'.trans f20, hD20, hu2, hin, fun e => by omega⟩
              · walk_at "go"
                refine hN _ _ ⟨u, _, rfl, f19', hD19, hdu19, InL.st n1 hgood hfs, fun _ out hU => ?_⟩
                have := second_fact n1 hgood hw hall hfs hU
                rw [hcost] at this
                exact this
          · obtain ⟨y10, y11, y12, y13, y14, rfl, f18, hD18⟩ := hP
            exact ⟨_, _, _, _, _, _, _, _, rfl, f17.trans f18, hD18⟩
        · intro N hN
          walk_at "go"
          refine ⟨d, c, 2, rfl, hD14, by decide, by decide, fun H15 w0 f15 hD15 _ _ => ?_⟩
          have hv15 := Dp.tx (hD14.tx f15) _ _ (im_postD f0 st0 l0) hv14
          walk_at "go"
          refine g_ite (fun e0 => ?_) (fun e0 => ?_)
          · obtain ⟨vp, t, rfl, hvp, ht⟩ := of_post hv15
            have f15' := fA.trans f15
            walk_at "go"
            refine g_ixT hvp (v := .int f0) rfl ?_
            walk_at "go"
            refine g_ixT hvp (v := .int l0) rfl ?_
            walk_at "go"
            obtain ⟨a0, a1, a2, a3, _⟩ := id hw0
            refine ⟨.ref x, n, rs, b, f0, l0, rfl, hlog12.tx (hD12.tx f15'), hA, a0, a1, a2, a3, fun H16 v s16 hv => ?_⟩
            obtain ⟨b1, b2, b3⟩ := back_all (b := b) ⟨a0, a1⟩ hgood a2 a3
            walk_at "go"
            exact hN _ _ ⟨v, f0, _, l0, rfl, f15'.trans (Fr.of s16), hD15.fr s16, hv, b1, b2⟩
          · walk_at "go"
            exact hN _ _ ⟨v0, f0, st0, l0, rfl, fA.trans f15, hD15, hv15, hw0, hall0⟩
      · obtain ⟨y7, y8, y9, y10, y11, y12, y13, y14, rfl, f13, hD13⟩ := hP
        exact ⟨_, _, _, _, _, _, _, _, _, _, _, _, _, rfl, hD13⟩
    · obtain ⟨y2, y3, y4, y5, y6, y7, y8, y9, y10, y11, y12, y13, y14, rfl, hD4⟩ := hP
      walk_at "go"
      exact q _

end

set_option maxHeartbeats 0 in
theorem all_mk {l : PySem.W.OpenLaw} {w : World} {K : PySem.W.Frag} {h : Heap} {mg : Str → Option Value} {fa : Addr} (X : K.In h) (G : h.Ns mainGlobals mg) (hfa : mg "law" = some (.ref fa))
    {f0 : Addr} {od0 an0 : Option Addr} {sl0 : Array (Option Value)} {oc0 kV0 dc0 pm0 cd0 ct0 : Value}
    (a0 : PySem.W.nsIn K mainGlobals "is_integer" = some (some (.ref f0))) (l0 : K.lookup f0 = some ⟨oc0, od0, .func (PySem.W.fnOf "is_integer" "is_integer" (defArgs s_is_integer) (defBody s_is_integer) (defScope s_is_integer) .none kV0 dc0 pm0 an0 cd0 ct0), sl0⟩) (c0 : PySem.W.codeIn K cd0 "is_integer" = true) (k0 : PySem.W.keepIn K (.ref f0) = true)
    {f1 : Addr} {od1 an1 : Option Addr} {sl1 : Array (Option Value)} {oc1 kV1 dc1 pm1 cd1 ct1 : Value}
    (a1 : PySem.W.nsIn K mainGlobals "is_between" = some (some (.ref f1))) (l1 : K.lookup f1 = some ⟨oc1, od1, .func (PySem.W.fnOf "is_between" "is_between" (defArgs s_is_between) (defBody s_is_between) (defScope s_is_between) .none kV1 dc1 pm1 an1 cd1 ct1), sl1⟩) (c1 : PySem.W.codeIn K cd1 "is_between" = true) (k1 : PySem.W.keepIn K (.ref f1) = true)
    {f2 : Addr} {od2 an2 : Option Addr} {sl2 : Array (Option Value)} {oc2 kV2 dc2 pm2 cd2 ct2 : Value}
    (a2 : PySem.W.nsIn K mainGlobals "is_number" = some (some (.ref f2))) (l2 : K.lookup f2 = some ⟨oc2, od2, .func (PySem.W.fnOf "is_number" "is_number" (defArgs s_is_number) (defBody s_is_number) (defScope s_is_number) .none kV2 dc2 pm2 an2 cd2 ct2), sl2⟩) (c2 : PySem.W.codeIn K cd2 "is_number" = true) (k2 : PySem.W.keepIn K (.ref f2) = true)
    {f3 : Addr} {od3 an3 : Option Addr} {sl3 : Array (Option Value)} {oc3 kV3 dc3 pm3 cd3 ct3 : Value}
    (a3 : PySem.W.nsIn K mainGlobals "is_word" = some (some (.ref f3))) (l3 : K.lookup f3 = some ⟨oc3, od3, .func (PySem.W.fnOf "is_word" "is_word" (defArgs s_is_word) (defBody s_is_word) (defScope s_is_word) .none kV3 dc3 pm3 an3 cd3 ct3), sl3⟩) (c3 : PySem.W.codeIn K cd3 "is_word" = true) (k3 : PySem.W.keepIn K (.ref f3) = true)
    {f4 : Addr} {od4 an4 : Option Addr} {sl4 : Array (Option Value)} {oc4 kV4 dc4 pm4 cd4 ct4 : Value}
    (a4 : PySem.W.nsIn K mainGlobals "is_tuple_of" = some (some (.ref f4))) (l4 : K.lookup f4 = some ⟨oc4, od4, .func (PySem.W.fnOf "is_tuple_of" "is_tuple_of" (defArgs s_is_tuple_of) (defBody s_is_tuple_of) (defScope s_is_tuple_of) .none kV4 dc4 pm4 an4 cd4 ct4), sl4⟩) (c4 : PySem.W.codeIn K cd4 "is_tuple_of" = true) (k4 : PySem.W.keepIn K (.ref f4) = true)
    {f5 : Addr} {od5 an5 : Option Addr} {sl5 : Array (Option Value)} {oc5 kV5 dc5 pm5 cd5 ct5 : Value}
    (a5 : PySem.W.nsIn K mainGlobals "are_numbers" = some (some (.ref f5))) (l5 : K.lookup f5 = some ⟨oc5, od5, .func (PySem.W.fnOf "are_numbers" "are_numbers" (defArgs s_are_numbers) (defBody s_are_numbers) (defScope s_are_numbers) .none kV5 dc5 pm5 an5 cd5 ct5), sl5⟩) (c5 : PySem.W.codeIn K cd5 "are_numbers" = true) (k5 : PySem.W.keepIn K (.ref f5) = true)
    {f6 : Addr} {od6 an6 : Option Addr} {sl6 : Array (Option Value)} {oc6 kV6 dc6 pm6 cd6 ct6 : Value}
    (a6 : PySem.W.nsIn K mainGlobals "is_side" = some (some (.ref f6))) (l6 : K.lookup f6 = some ⟨oc6, od6, .func (PySem.W.fnOf "is_side" "is_side" (defArgs s_is_side) (defBody s_is_side) (defScope s_is_side) .none kV6 dc6 pm6 an6 cd6 ct6), sl6⟩) (c6 : PySem.W.codeIn K cd6 "is_side" = true) (k6 : PySem.W.keepIn K (.ref f6) = true)
    {f7 : Addr} {od7 an7 : Option Addr} {sl7 : Array (Option Value)} {oc7 kV7 dc7 pm7 cd7 ct7 : Value}
    (a7 : PySem.W.nsIn K mainGlobals "is_list" = some (some (.ref f7))) (l7 : K.lookup f7 = some ⟨oc7, od7, .func (PySem.W.fnOf "is_list" "is_list" (defArgs s_is_list) (defBody s_is_list) (defScope s_is_list) .none kV7 dc7 pm7 an7 cd7 ct7), sl7⟩) (c7 : PySem.W.codeIn K cd7 "is_list" = true) (k7 : PySem.W.keepIn K (.ref f7) = true)
    {f8 : Addr} {od8 an8 : Option Addr} {sl8 : Array (Option Value)} {oc8 kV8 dc8 pm8 cd8 ct8 : Value}
    (a8 : PySem.W.nsIn K mainGlobals "is_copying" = some (some (.ref f8))) (l8 : K.lookup f8 = some ⟨oc8, od8, .func (PySem.W.fnOf "is_copying" "is_copying" (defArgs s_is_copying) (defBody s_is_copying) (defScope s_is_copying) .none kV8 dc8 pm8 an8 cd8 ct8), sl8⟩) (c8 : PySem.W.codeIn K cd8 "is_copying" = true) (k8 : PySem.W.keepIn K (.ref f8) = true)
    {f9 : Addr} {od9 an9 : Option Addr} {sl9 : Array (Option Value)} {oc9 kV9 dc9 pm9 cd9 ct9 : Value}
    (a9 : PySem.W.nsIn K mainGlobals "is_row" = some (some (.ref f9))) (l9 : K.lookup f9 = some ⟨oc9, od9, .func (PySem.W.fnOf "is_row" "is_row" (defArgs s_is_row) (defBody s_is_row) (defScope s_is_row) .none kV9 dc9 pm9 an9 cd9 ct9), sl9⟩) (c9 : PySem.W.codeIn K cd9 "is_row" = true) (k9 : PySem.W.keepIn K (.ref f9) = true)
    {f10 : Addr} {od10 an10 : Option Addr} {sl10 : Array (Option Value)} {oc10 kV10 dc10 pm10 cd10 ct10 : Value}
    (a10 : PySem.W.nsIn K mainGlobals "wrong_part" = some (some (.ref f10))) (l10 : K.lookup f10 = some ⟨oc10, od10, .func (PySem.W.fnOf "wrong_part" "wrong_part" (defArgs s_wrong_part) (defBody s_wrong_part) (defScope s_wrong_part) .none kV10 dc10 pm10 an10 cd10 ct10), sl10⟩) (c10 : PySem.W.codeIn K cd10 "wrong_part" = true) (k10 : PySem.W.keepIn K (.ref f10) = true)
    {f11 : Addr} {od11 an11 : Option Addr} {sl11 : Array (Option Value)} {oc11 kV11 dc11 pm11 cd11 ct11 : Value}
    (a11 : PySem.W.nsIn K mainGlobals "is_left" = some (some (.ref f11))) (l11 : K.lookup f11 = some ⟨oc11, od11, .func (PySem.W.fnOf "is_left" "is_left" (defArgs s_is_left) (defBody s_is_left) (defScope s_is_left) .none kV11 dc11 pm11 an11 cd11 ct11), sl11⟩) (c11 : PySem.W.codeIn K cd11 "is_left" = true) (k11 : PySem.W.keepIn K (.ref f11) = true)
    {f12 : Addr} {od12 an12 : Option Addr} {sl12 : Array (Option Value)} {oc12 kV12 dc12 pm12 cd12 ct12 : Value}
    (a12 : PySem.W.nsIn K mainGlobals "cut_between" = some (some (.ref f12))) (l12 : K.lookup f12 = some ⟨oc12, od12, .func (PySem.W.fnOf "cut_between" "cut_between" (defArgs s_cut_between) (defBody s_cut_between) (defScope s_cut_between) .none kV12 dc12 pm12 an12 cd12 ct12), sl12⟩) (c12 : PySem.W.codeIn K cd12 "cut_between" = true) (k12 : PySem.W.keepIn K (.ref f12) = true)
    {f13 : Addr} {od13 an13 : Option Addr} {sl13 : Array (Option Value)} {oc13 kV13 dc13 pm13 cd13 ct13 : Value}
    {C_Log : Addr}
    (a13 : PySem.W.findIn K (.ref C_Log) "__init__" = some (some (.ref f13))) (i13 : PySem.W.isFn K (.ref f13) = true) (l13 : K.lookup f13 = some ⟨oc13, od13, .func (PySem.W.fnOf "__init__" "Log.__init__" (defArgs s_Log_init) (defBody s_Log_init) (defScope s_Log_init) .none kV13 dc13 pm13 an13 cd13 ct13), sl13⟩) (c13 : PySem.W.codeIn K cd13 "Log.__init__" = true) (k13 : PySem.W.keepIn K (.ref f13) = true)
    {f14 : Addr} {od14 an14 : Option Addr} {sl14 : Array (Option Value)} {oc14 kV14 dc14 pm14 cd14 ct14 : Value}
    (a14 : PySem.W.nsIn K mainGlobals "check_side" = some (some (.ref f14))) (l14 : K.lookup f14 = some ⟨oc14, od14, .func (PySem.W.fnOf "check_side" "check_side" (defArgs s_check_side) (defBody s_check_side) (defScope s_check_side) .none kV14 dc14 pm14 an14 cd14 ct14), sl14⟩) (c14 : PySem.W.codeIn K cd14 "check_side" = true) (k14 : PySem.W.keepIn K (.ref f14) = true)
    {f15 : Addr} {od15 an15 : Option Addr} {sl15 : Array (Option Value)} {oc15 kV15 dc15 pm15 cd15 ct15 : Value}
    (a15 : PySem.W.nsIn K mainGlobals "check_cut" = some (some (.ref f15))) (l15 : K.lookup f15 = some ⟨oc15, od15, .func (PySem.W.fnOf "check_cut" "check_cut" (defArgs s_check_cut) (defBody s_check_cut) (defScope s_check_cut) .none kV15 dc15 pm15 an15 cd15 ct15), sl15⟩) (c15 : PySem.W.codeIn K cd15 "check_cut" = true) (k15 : PySem.W.keepIn K (.ref f15) = true)
    {f16 : Addr} {od16 an16 : Option Addr} {sl16 : Array (Option Value)} {oc16 kV16 dc16 pm16 cd16 ct16 : Value}
    (a16 : PySem.W.nsIn K mainGlobals "check_list" = some (some (.ref f16))) (l16 : K.lookup f16 = some ⟨oc16, od16, .func (PySem.W.fnOf "check_list" "check_list" (defArgs s_check_list) (defBody s_check_list) (defScope s_check_list) .none kV16 dc16 pm16 an16 cd16 ct16), sl16⟩) (c16 : PySem.W.codeIn K cd16 "check_list" = true) (k16 : PySem.W.keepIn K (.ref f16) = true)
    {f17 : Addr} {od17 an17 : Option Addr} {sl17 : Array (Option Value)} {oc17 kV17 dc17 pm17 cd17 ct17 : Value}
    (a17 : PySem.W.nsIn K mainGlobals "barred_cut" = some (some (.ref f17))) (l17 : K.lookup f17 = some ⟨oc17, od17, .func (PySem.W.fnOf "barred_cut" "barred_cut" (defArgs s_barred_cut) (defBody s_barred_cut) (defScope s_barred_cut) .none kV17 dc17 pm17 an17 cd17 ct17), sl17⟩) (c17 : PySem.W.codeIn K cd17 "barred_cut" = true) (k17 : PySem.W.keepIn K (.ref f17) = true)
    {f18 : Addr} {od18 an18 : Option Addr} {sl18 : Array (Option Value)} {oc18 kV18 dc18 pm18 cd18 ct18 : Value}
    (a18 : PySem.W.nsIn K mainGlobals "walk_price" = some (some (.ref f18))) (l18 : K.lookup f18 = some ⟨oc18, od18, .func (PySem.W.fnOf "walk_price" "walk_price" (defArgs s_walk_price) (defBody s_walk_price) (defScope s_walk_price) .none kV18 dc18 pm18 an18 cd18 ct18), sl18⟩) (c18 : PySem.W.codeIn K cd18 "walk_price" = true) (k18 : PySem.W.keepIn K (.ref f18) = true)
    {f19 : Addr} {od19 an19 : Option Addr} {sl19 : Array (Option Value)} {oc19 kV19 dc19 pm19 cd19 ct19 : Value}
    (a19 : PySem.W.nsIn K mainGlobals "is_post" = some (some (.ref f19))) (l19 : K.lookup f19 = some ⟨oc19, od19, .func (PySem.W.fnOf "is_post" "is_post" (defArgs s_is_post) (defBody s_is_post) (defScope s_is_post) .none kV19 dc19 pm19 an19 cd19 ct19), sl19⟩) (c19 : PySem.W.codeIn K cd19 "is_post" = true) (k19 : PySem.W.keepIn K (.ref f19) = true)
    {f20 : Addr} {od20 an20 : Option Addr} {sl20 : Array (Option Value)} {oc20 kV20 dc20 pm20 cd20 ct20 : Value}
    (a20 : PySem.W.nsIn K mainGlobals "check_post" = some (some (.ref f20))) (l20 : K.lookup f20 = some ⟨oc20, od20, .func (PySem.W.fnOf "check_post" "check_post" (defArgs s_check_post) (defBody s_check_post) (defScope s_check_post) .none kV20 dc20 pm20 an20 cd20 ct20), sl20⟩) (c20 : PySem.W.codeIn K cd20 "check_post" = true) (k20 : PySem.W.keepIn K (.ref f20) = true)
    {f21 : Addr} {od21 an21 : Option Addr} {sl21 : Array (Option Value)} {oc21 kV21 dc21 pm21 cd21 ct21 : Value}
    (a21 : PySem.W.nsIn K mainGlobals "post_price" = some (some (.ref f21))) (l21 : K.lookup f21 = some ⟨oc21, od21, .func (PySem.W.fnOf "post_price" "post_price" (defArgs s_post_price) (defBody s_post_price) (defScope s_post_price) .none kV21 dc21 pm21 an21 cd21 ct21), sl21⟩) (c21 : PySem.W.codeIn K cd21 "post_price" = true) (k21 : PySem.W.keepIn K (.ref f21) = true)
    {f22 : Addr} {od22 an22 : Option Addr} {sl22 : Array (Option Value)} {oc22 kV22 dc22 pm22 cd22 ct22 : Value}
    (a22 : PySem.W.nsIn K mainGlobals "cheapest_walks" = some (some (.ref f22))) (l22 : K.lookup f22 = some ⟨oc22, od22, .func (PySem.W.fnOf "cheapest_walks" "cheapest_walks" (defArgs s_cheapest_walks) (defBody s_cheapest_walks) (defScope s_cheapest_walks) .none kV22 dc22 pm22 an22 cd22 ct22), sl22⟩) (c22 : PySem.W.codeIn K cd22 "cheapest_walks" = true) (k22 : PySem.W.keepIn K (.ref f22) = true)
    {f23 : Addr} {od23 an23 : Option Addr} {sl23 : Array (Option Value)} {oc23 kV23 dc23 pm23 cd23 ct23 : Value}
    (a23 : PySem.W.nsIn K mainGlobals "check_ends" = some (some (.ref f23))) (l23 : K.lookup f23 = some ⟨oc23, od23, .func (PySem.W.fnOf "check_ends" "check_ends" (defArgs s_check_ends) (defBody s_check_ends) (defScope s_check_ends) .none kV23 dc23 pm23 an23 cd23 ct23), sl23⟩) (c23 : PySem.W.codeIn K cd23 "check_ends" = true) (k23 : PySem.W.keepIn K (.ref f23) = true)
    {f24 : Addr} {od24 an24 : Option Addr} {sl24 : Array (Option Value)} {oc24 kV24 dc24 pm24 cd24 ct24 : Value}
    (a24 : PySem.W.nsIn K mainGlobals "post" = some (some (.ref f24))) (l24 : K.lookup f24 = some ⟨oc24, od24, .func (PySem.W.fnOf "post" "post" (defArgs s_post) (defBody s_post) (defScope s_post) .none kV24 dc24 pm24 an24 cd24 ct24), sl24⟩) (c24 : PySem.W.codeIn K cd24 "post" = true) (k24 : PySem.W.keepIn K (.ref f24) = true)
    {f25 : Addr} {od25 an25 : Option Addr} {sl25 : Array (Option Value)} {oc25 kV25 dc25 pm25 cd25 ct25 : Value}
    (a25 : PySem.W.nsIn K mainGlobals "editions_passing" = some (some (.ref f25))) (l25 : K.lookup f25 = some ⟨oc25, od25, .func (PySem.W.fnOf "editions_passing" "editions_passing" (defArgs s_editions_passing) (defBody s_editions_passing) (defScope s_editions_passing) .none kV25 dc25 pm25 an25 cd25 ct25), sl25⟩) (c25 : PySem.W.codeIn K cd25 "editions_passing" = true) (k25 : PySem.W.keepIn K (.ref f25) = true)
    {f26 : Addr} {od26 an26 : Option Addr} {sl26 : Array (Option Value)} {oc26 kV26 dc26 pm26 cd26 ct26 : Value}
    (a26 : PySem.W.nsIn K mainGlobals "passed" = some (some (.ref f26))) (l26 : K.lookup f26 = some ⟨oc26, od26, .func (PySem.W.fnOf "passed" "passed" (defArgs s_passed) (defBody s_passed) (defScope s_passed) .none kV26 dc26 pm26 an26 cd26 ct26), sl26⟩) (c26 : PySem.W.codeIn K cd26 "passed" = true) (k26 : PySem.W.keepIn K (.ref f26) = true)
    {f27 : Addr} {od27 an27 : Option Addr} {sl27 : Array (Option Value)} {oc27 kV27 dc27 pm27 cd27 ct27 : Value}
    (a27 : PySem.W.nsIn K mainGlobals "_law_hand" = some (some (.ref f27))) (l27 : K.lookup f27 = some ⟨oc27, od27, .func (PySem.W.fnOf "_law_hand" "_law_hand" (defArgs s_law_hand) (defBody s_law_hand) (defScope s_law_hand) .none kV27 dc27 pm27 an27 cd27 ct27), sl27⟩) (c27 : PySem.W.codeIn K cd27 "_law_hand" = true) (k27 : PySem.W.keepIn K (.ref f27) = true)
    {f28 : Addr} {od28 an28 : Option Addr} {sl28 : Array (Option Value)} {oc28 kV28 dc28 pm28 cd28 ct28 : Value}
    (a28 : PySem.W.nsIn K mainGlobals "_law_draw" = some (some (.ref f28))) (l28 : K.lookup f28 = some ⟨oc28, od28, .func (PySem.W.fnOf "_law_draw" "_law_draw" (defArgs s_law_draw) (defBody s_law_draw) (defScope s_law_draw) .none kV28 dc28 pm28 an28 cd28 ct28), sl28⟩) (c28 : PySem.W.codeIn K cd28 "_law_draw" = true) (k28 : PySem.W.keepIn K (.ref f28) = true)
    {f29 : Addr} {od29 an29 : Option Addr} {sl29 : Array (Option Value)} {oc29 kV29 dc29 pm29 cd29 ct29 : Value}
    (a29 : PySem.W.nsIn K mainGlobals "_law_is" = some (some (.ref f29))) (l29 : K.lookup f29 = some ⟨oc29, od29, .func (PySem.W.fnOf "_law_is" "_law_is" (defArgs s_law_is) (defBody s_law_is) (defScope s_law_is) .none kV29 dc29 pm29 an29 cd29 ct29), sl29⟩) (c29 : PySem.W.codeIn K cd29 "_law_is" = true) (k29 : PySem.W.keepIn K (.ref f29) = true)
    {f30 : Addr} {od30 an30 : Option Addr} {sl30 : Array (Option Value)} {oc30 kV30 dc30 pm30 cd30 ct30 : Value}
    (a30 : PySem.W.nsIn K mainGlobals "_law_some" = some (some (.ref f30))) (l30 : K.lookup f30 = some ⟨oc30, od30, .func (PySem.W.fnOf "_law_some" "_law_some" (defArgs s_law_some) (defBody s_law_some) (defScope s_law_some) .none kV30 dc30 pm30 an30 cd30 ct30), sl30⟩) (c30 : PySem.W.codeIn K cd30 "_law_some" = true) (k30 : PySem.W.keepIn K (.ref f30) = true)
    {f31 : Addr} {od31 an31 : Option Addr} {sl31 : Array (Option Value)} {oc31 kV31 dc31 pm31 cd31 ct31 : Value}
    (a31 : PySem.W.nsIn K mainGlobals "_law_row" = some (some (.ref f31))) (l31 : K.lookup f31 = some ⟨oc31, od31, .func (PySem.W.fnOf "_law_row" "_law_row" (defArgs s_law_row) (defBody s_law_row) (defScope s_law_row) .none kV31 dc31 pm31 an31 cd31 ct31), sl31⟩) (c31 : PySem.W.codeIn K cd31 "_law_row" = true) (k31 : PySem.W.keepIn K (.ref f31) = true)
    {f32 : Addr} {od32 an32 : Option Addr} {sl32 : Array (Option Value)} {oc32 kV32 dc32 pm32 cd32 ct32 : Value}
    (a32 : PySem.W.nsIn K mainGlobals "_law_rows" = some (some (.ref f32))) (l32 : K.lookup f32 = some ⟨oc32, od32, .func (PySem.W.fnOf "_law_rows" "_law_rows" (defArgs s_law_rows) (defBody s_law_rows) (defScope s_law_rows) .none kV32 dc32 pm32 an32 cd32 ct32), sl32⟩) (c32 : PySem.W.codeIn K cd32 "_law_rows" = true) (k32 : PySem.W.keepIn K (.ref f32) = true)
    {f33 : Addr} {od33 an33 : Option Addr} {sl33 : Array (Option Value)} {oc33 kV33 dc33 pm33 cd33 ct33 : Value}
    (a33 : PySem.W.nsIn K mainGlobals "_law_led" = some (some (.ref f33))) (l33 : K.lookup f33 = some ⟨oc33, od33, .func (PySem.W.fnOf "_law_led" "_law_led" (defArgs s_law_led) (defBody s_law_led) (defScope s_law_led) .none kV33 dc33 pm33 an33 cd33 ct33), sl33⟩) (c33 : PySem.W.codeIn K cd33 "_law_led" = true) (k33 : PySem.W.keepIn K (.ref f33) = true)
    {f34 : Addr} {od34 an34 : Option Addr} {sl34 : Array (Option Value)} {oc34 kV34 dc34 pm34 cd34 ct34 : Value}
    (a34 : PySem.W.nsIn K mainGlobals "_law_doings" = some (some (.ref f34))) (l34 : K.lookup f34 = some ⟨oc34, od34, .func (PySem.W.fnOf "_law_doings" "_law_doings" (defArgs s_law_doings) (defBody s_law_doings) (defScope s_law_doings) .none kV34 dc34 pm34 an34 cd34 ct34), sl34⟩) (c34 : PySem.W.codeIn K cd34 "_law_doings" = true) (k34 : PySem.W.keepIn K (.ref f34) = true)
    {f35 : Addr} {od35 an35 : Option Addr} {sl35 : Array (Option Value)} {oc35 kV35 dc35 pm35 cd35 ct35 : Value}
    (a35 : PySem.W.nsIn K mainGlobals "_law_bars" = some (some (.ref f35))) (l35 : K.lookup f35 = some ⟨oc35, od35, .func (PySem.W.fnOf "_law_bars" "_law_bars" (defArgs s_law_bars) (defBody s_law_bars) (defScope s_law_bars) .none kV35 dc35 pm35 an35 cd35 ct35), sl35⟩) (c35 : PySem.W.codeIn K cd35 "_law_bars" = true) (k35 : PySem.W.keepIn K (.ref f35) = true)
    {f36 : Addr} {od36 an36 : Option Addr} {sl36 : Array (Option Value)} {oc36 kV36 dc36 pm36 cd36 ct36 : Value}
    (a36 : PySem.W.nsIn K mainGlobals "_law_passing" = some (some (.ref f36))) (l36 : K.lookup f36 = some ⟨oc36, od36, .func (PySem.W.fnOf "_law_passing" "_law_passing" (defArgs s_law_passing) (defBody s_law_passing) (defScope s_law_passing) .none kV36 dc36 pm36 an36 cd36 ct36), sl36⟩) (c36 : PySem.W.codeIn K cd36 "_law_passing" = true) (k36 : PySem.W.keepIn K (.ref f36) = true)
    {f37 : Addr} {od37 an37 : Option Addr} {sl37 : Array (Option Value)} {oc37 kV37 dc37 pm37 cd37 ct37 : Value}
    (a37 : PySem.W.nsIn K mainGlobals "_law_list" = some (some (.ref f37))) (l37 : K.lookup f37 = some ⟨oc37, od37, .func (PySem.W.fnOf "_law_list" "_law_list" (defArgs s_law_list) (defBody s_law_list) (defScope s_law_list) .none kV37 dc37 pm37 an37 cd37 ct37), sl37⟩) (c37 : PySem.W.codeIn K cd37 "_law_list" = true) (k37 : PySem.W.keepIn K (.ref f37) = true)
    {f38 : Addr} {od38 an38 : Option Addr} {sl38 : Array (Option Value)} {oc38 kV38 dc38 pm38 cd38 ct38 : Value}
    (a38 : PySem.W.nsIn K mainGlobals "_law_drawn_post" = some (some (.ref f38))) (l38 : K.lookup f38 = some ⟨oc38, od38, .func (PySem.W.fnOf "_law_drawn_post" "_law_drawn_post" (defArgs s_law_drawn_post) (defBody s_law_drawn_post) (defScope s_law_drawn_post) .none kV38 dc38 pm38 an38 cd38 ct38), sl38⟩) (c38 : PySem.W.codeIn K cd38 "_law_drawn_post" = true) (k38 : PySem.W.keepIn K (.ref f38) = true)
    {f39 : Addr} {od39 an39 : Option Addr} {sl39 : Array (Option Value)} {oc39 kV39 dc39 pm39 cd39 ct39 : Value}
    (a39 : PySem.W.nsIn K mainGlobals "_law_offices" = some (some (.ref f39))) (l39 : K.lookup f39 = some ⟨oc39, od39, .func (PySem.W.fnOf "_law_offices" "_law_offices" (defArgs s_law_offices) (defBody s_law_offices) (defScope s_law_offices) .none kV39 dc39 pm39 an39 cd39 ct39), sl39⟩) (c39 : PySem.W.codeIn K cd39 "_law_offices" = true) (k39 : PySem.W.keepIn K (.ref f39) = true)
    {f40 : Addr} {od40 an40 : Option Addr} {sl40 : Array (Option Value)} {oc40 kV40 dc40 pm40 cd40 ct40 : Value}
    (a40 : PySem.W.nsIn K mainGlobals "law" = some (some (.ref f40))) (l40 : K.lookup f40 = some ⟨oc40, od40, .func (PySem.W.fnOf "law" "law" (defArgs s_law) (defBody s_law) (defScope s_law) .none kV40 dc40 pm40 an40 cd40 ct40), sl40⟩) (c40 : PySem.W.codeIn K cd40 "law" = true) (k40 : PySem.W.keepIn K (.ref f40) = true)
    (gc_Log : PySem.W.nsIn K mainGlobals "Log" = some (some (.ref C_Log)))
    (pg_Log : PySem.W.plainGet K C_Log Str.empty = true) (hd_Log : PySem.W.hasDictIn K C_Log = true) (po_Log : PySem.W.plainOver K C_Log = true) (sa_Log : PySem.W.findIn K (.ref C_Log) "__setattr__" = some (some (.builtin "object.__setattr__"))) (mk_Log : PySem.W.makesIn K C_Log = true) (kc_Log : PySem.W.keepIn K (.ref C_Log) = true)
    (na_Log_offices : PySem.W.findIn K (.ref C_Log) "offices" = some none)
    (na_Log_rows : PySem.W.findIn K (.ref C_Log) "rows" = some none)
    {t_MOST_OFFICES : Tok} (v_MOST_OFFICES : PySem.W.nsIn K mainGlobals "MOST_OFFICES" = some (some (.int 12 t_MOST_OFFICES)))
    {t_MOST_ROWS : Tok} (v_MOST_ROWS : PySem.W.nsIn K mainGlobals "MOST_ROWS" = some (some (.int 60 t_MOST_ROWS)))
    (z0 : PySem.W.nsIn K mainGlobals "isinstance" = some none)
    (z1 : PySem.W.nsIn K mainGlobals "int" = some none)
    (z2 : PySem.W.nsIn K mainGlobals "bool" = some none)
    (z3 : PySem.W.nsIn K mainGlobals "tuple" = some none)
    (z4 : PySem.W.nsIn K mainGlobals "list" = some none)
    (z5 : PySem.W.nsIn K mainGlobals "len" = some none)
    (z6 : PySem.W.nsIn K mainGlobals "abs" = some none)
    (z7 : PySem.W.nsIn K mainGlobals "all" = some none)
    (z8 : PySem.W.nsIn K mainGlobals "zip" = some none)
    (z9 : PySem.W.nsIn K mainGlobals "range" = some none)
    (z10 : PySem.W.nsIn K mainGlobals "enumerate" = some none)
    (z11 : PySem.W.nsIn K mainGlobals "max" = some none)
    (z12 : PySem.W.nsIn K mainGlobals "min" = some none)
    (z13 : PySem.W.nsIn K mainGlobals "sum" = some none)
    (z14 : PySem.W.nsIn K mainGlobals "str" = some none)
    (z15 : PySem.W.nsIn K mainGlobals "set" = some none)
    (z16 : PySem.W.nsIn K mainGlobals "sorted" = some none)
    : ∃ fd : FuncData, (∀ (s : Shared) (v : Value), BindsTo s fd ⟨[v], []⟩ [("_law_script", v)]) ∧ ∀ base : Heap, K.In base → base.Ns mainGlobals mg → FnOk l.prog w K mg base CX0 lawLevel fa fd ["_law_script"] (sp_law K) := by
  have e := hfa.symm.trans (PySem.W.mg_of X G a40)
  cases e
  have F0 := fun_mk (st := s_is_integer) l0 c0 k0
  have b0 := F0.binds (ps := ["thing"]) fun _ _ _ _ _ _ us hl => match us, hl with | [_], _ => rfl
  have F1 := fun_mk (st := s_is_between) l1 c1 k1
  have b1 := F1.binds (ps := ["thing", "least", "most"]) fun _ _ _ _ _ _ us hl => match us, hl with | [_, _, _], _ => rfl
  have F2 := fun_mk (st := s_is_number) l2 c2 k2
  have b2 := F2.binds (ps := ["thing", "many"]) fun _ _ _ _ _ _ us hl => match us, hl with | [_, _], _ => rfl
  have F3 := fun_mk (st := s_is_word) l3 c3 k3
  have b3 := F3.binds (ps := ["thing", "word"]) fun _ _ _ _ _ _ us hl => match us, hl with | [_, _], _ => rfl
  have F4 := fun_mk (st := s_is_tuple_of) l4 c4 k4
  have b4 := F4.binds (ps := ["thing", "many"]) fun _ _ _ _ _ _ us hl => match us, hl with | [_, _], _ => rfl
  have F5 := fun_mk (st := s_are_numbers) l5 c5 k5
  have b5 := F5.binds (ps := ["things", "many"]) fun _ _ _ _ _ _ us hl => match us, hl with | [_, _], _ => rfl
  have F6 := fun_mk (st := s_is_side) l6 c6 k6
  have b6 := F6.binds (ps := ["thing"]) fun _ _ _ _ _ _ us hl => match us, hl with | [_], _ => rfl
  have F7 := fun_mk (st := s_is_list) l7 c7 k7
  have b7 := F7.binds (ps := ["log", "thing"]) fun _ _ _ _ _ _ us hl => match us, hl with | [_, _], _ => rfl
  have F8 := fun_mk (st := s_is_copying) l8 c8 k8
  have b8 := F8.binds (ps := ["offices", "thing"]) fun _ _ _ _ _ _ us hl => match us, hl with | [_, _], _ => rfl
  have F9 := fun_mk (st := s_is_row) l9 c9 k9
  have b9 := F9.binds (ps := ["offices", "thing"]) fun _ _ _ _ _ _ us hl => match us, hl with | [_, _], _ => rfl
  have F10 := fun_mk (st := s_wrong_part) l10 c10 k10
  have b10 := F10.binds (ps := ["offices", "rows", "is_right"]) fun _ _ _ _ _ _ us hl => match us, hl with | [_, _, _], _ => rfl
  have F11 := fun_mk (st := s_is_left) l11 c11 k11
  have b11 := F11.binds (ps := ["row"]) fun _ _ _ _ _ _ us hl => match us, hl with | [_], _ => rfl
  have F12 := fun_mk (st := s_cut_between) l12 c12 k12
  have b12 := F12.binds (ps := ["row"]) fun _ _ _ _ _ _ us hl => match us, hl with | [_], _ => rfl
  have F13 := fun_mk (st := s_Log_init) l13 c13 k13
  have b13 := F13.binds (ps := ["self", "offices", "rows"]) fun _ _ _ _ _ _ us hl => match us, hl with | [_, _, _], _ => rfl
  have F14 := fun_mk (st := s_check_side) l14 c14 k14
  have b14 := F14.binds (ps := ["side"]) fun _ _ _ _ _ _ us hl => match us, hl with | [_], _ => rfl
  have F15 := fun_mk (st := s_check_cut) l15 c15 k15
  have b15 := F15.binds (ps := ["offices", "cut"]) fun _ _ _ _ _ _ us hl => match us, hl with | [_, _], _ => rfl
  have F16 := fun_mk (st := s_check_list) l16 c16 k16
  have b16 := F16.binds (ps := ["log", "editions"]) fun _ _ _ _ _ _ us hl => match us, hl with | [_, _], _ => rfl
  have F17 := fun_mk (st := s_barred_cut) l17 c17 k17
  have b17 := F17.binds (ps := ["side", "row"]) fun _ _ _ _ _ _ us hl => match us, hl with | [_, _], _ => rfl
  have F18 := fun_mk (st := s_walk_price) l18 c18 k18
  have b18 := F18.binds (ps := ["side", "start", "end"]) fun _ _ _ _ _ _ us hl => match us, hl with | [_, _, _], _ => rfl
  have F19 := fun_mk (st := s_is_post) l19 c19 k19
  have b19 := F19.binds (ps := ["log", "side", "thing"]) fun _ _ _ _ _ _ us hl => match us, hl with | [_, _, _], _ => rfl
  have F20 := fun_mk (st := s_check_post) l20 c20 k20
  have b20 := F20.binds (ps := ["log", "side", "thing"]) fun _ _ _ _ _ _ us hl => match us, hl with | [_, _, _], _ => rfl
  have F21 := fun_mk (st := s_post_price) l21 c21 k21
  have b21 := F21.binds (ps := ["log", "side", "thing"]) fun _ _ _ _ _ _ us hl => match us, hl with | [_, _, _], _ => rfl
  have F22 := fun_mk (st := s_cheapest_walks) l22 c22 k22
  have b22 := F22.binds (ps := ["log", "side", "first"]) fun _ _ _ _ _ _ us hl => match us, hl with | [_, _, _], _ => rfl
  have F23 := fun_mk (st := s_check_ends) l23 c23 k23
  have b23 := F23.binds (ps := ["log", "side", "first", "last"]) fun _ _ _ _ _ _ us hl => match us, hl with | [_, _, _, _], _ => rfl
  have F24 := fun_mk (st := s_post) l24 c24 k24
  have b24 := F24.binds (ps := ["log", "side", "first", "last"]) fun _ _ _ _ _ _ us hl => match us, hl with | [_, _, _, _], _ => rfl
  have F25 := fun_mk (st := s_editions_passing) l25 c25 k25
  have b25 := F25.binds (ps := ["side", "first", "last", "editions"]) fun _ _ _ _ _ _ us hl => match us, hl with | [_, _, _, _], _ => rfl
  have F26 := fun_mk (st := s_passed) l26 c26 k26
  have b26 := F26.binds (ps := ["log", "side", "thing", "editions"]) fun _ _ _ _ _ _ us hl => match us, hl with | [_, _, _, _], _ => rfl
  have F27 := fun_mk (st := s_law_hand) l27 c27 k27
  have b27 := F27.binds (ps := ["_law_script"]) fun _ _ _ _ _ _ us hl => match us, hl with | [_], _ => rfl
  have F28 := fun_mk (st := s_law_draw) l28 c28 k28
  have b28 := F28.binds (ps := ["_law_hand_here", "_law_many"]) fun _ _ _ _ _ _ us hl => match us, hl with | [_, _], _ => rfl
  have F29 := fun_mk (st := s_law_is) l29 c29 k29
  have b29 := F29.binds (ps := ["_law_told", "_law_due"]) fun _ _ _ _ _ _ us hl => match us, hl with | [_, _], _ => rfl
  have F30 := fun_mk (st := s_law_some) l30 c30 k30
  have b30 := F30.binds (ps := ["_law_hand_here", "_law_things"]) fun _ _ _ _ _ _ us hl => match us, hl with | [_, _], _ => rfl
  have F31 := fun_mk (st := s_law_row) l31 c31 k31
  have b31 := F31.binds (ps := ["_law_hand_here", "_law_offices_here", "_law_share"]) fun _ _ _ _ _ _ us hl => match us, hl with | [_, _, _], _ => rfl
  have F32 := fun_mk (st := s_law_rows) l32 c32 k32
  have b32 := F32.binds (ps := ["_law_hand_here", "_law_offices_here", "_law_many", "_law_share"]) fun _ _ _ _ _ _ us hl => match us, hl with | [_, _, _, _], _ => rfl
  have F33 := fun_mk (st := s_law_led) l33 c33 k33
  have b33 := F33.binds (ps := ["_law_offices_here", "_law_rows_here", "_law_doing"]) fun _ _ _ _ _ _ us hl => match us, hl with | [_, _, _], _ => rfl
  have F34 := fun_mk (st := s_law_doings) l34 c34 k34
  have b34 := F34.binds (ps := ["_law_rows_here"]) fun _ _ _ _ _ _ us hl => match us, hl with | [_], _ => rfl
  have F35 := fun_mk (st := s_law_bars) l35 c35 k35
  have b35 := F35.binds (ps := ["_law_side", "_law_row_here"]) fun _ _ _ _ _ _ us hl => match us, hl with | [_, _], _ => rfl
  have F36 := fun_mk (st := s_law_passing) l36 c36 k36
  have b36 := F36.binds (ps := ["_law_side", "_law_first", "_law_last", "_law_editions"]) fun _ _ _ _ _ _ us hl => match us, hl with | [_, _, _, _], _ => rfl
  have F37 := fun_mk (st := s_law_list) l37 c37 k37
  have b37 := F37.binds (ps := ["_law_hand_here", "_law_offices_here", "_law_rows_here"]) fun _ _ _ _ _ _ us hl => match us, hl with | [_, _, _], _ => rfl
  have F38 := fun_mk (st := s_law_drawn_post) l38 c38 k38
  have b38 := F38.binds (ps := ["_law_hand_here", "_law_offices_here", "_law_rows_here", "_law_side"]) fun _ _ _ _ _ _ us hl => match us, hl with | [_, _, _, _], _ => rfl
  have F39 := fun_mk (st := s_law_offices) l39 c39 k39
  have b39 := F39.binds (ps := ["_law_hand_here", "_law_most"]) fun _ _ _ _ _ _ us hl => match us, hl with | [_, _], _ => rfl
  have F40 := fun_mk (st := s_law) l40 c40 k40
  have b40 := F40.binds (ps := ["_law_script"]) fun _ _ _ _ _ _ us hl => match us, hl with | [_], _ => rfl
  have T : Txt K mg ⟨f0, _, f1, _, f2, _, f3, _, f4, _, f5, _, f6, _, f7, _, f8, _, f9, _, f10, _, f11, _, f12, _, f13, _, f14, _, f15, _, f16, _, f17, _, f18, _, f19, _, f20, _, f21, _, f22, _, f23, _, f24, _, f25, _, f26, _, f27, _, f28, _, f29, _, f30, _, f31, _, f32, _, f33, _, f34, _, f35, _, f36, _, f37, _, f38, _, f39, _, _, _, C_Log⟩ := ⟨F0, PySem.W.mg_of X G a0, b0, F1, PySem.W.mg_of X G a1, b1, F2, PySem.W.mg_of X G a2, b2, F3, PySem.W.mg_of X G a3, b3, F4, PySem.W.mg_of X G a4, b4, F5, PySem.W.mg_of X G a5, b5, F6, PySem.W.mg_of X G a6, b6, F7, PySem.W.mg_of X G a7, b7, F8, PySem.W.mg_of X G a8, b8, F9, PySem.W.mg_of X G a9, b9, F10, PySem.W.mg_of X G a10, b10, F11, PySem.W.mg_of X G a11, b11, F12, PySem.W.mg_of X G a12, b12, F13, b13, F14, PySem.W.mg_of X G a14, b14, F15, PySem.W.mg_of X G a15, b15, F16, PySem.W.mg_of X G a16, b16, F17, PySem.W.mg_of X G a17, b17, F18, PySem.W.mg_of X G a18, b18, F19, PySem.W.mg_of X G a19, b19, F20, PySem.W.mg_of X G a20, b20, F21, PySem.W.mg_of X G a21, b21, F22, PySem.W.mg_of X G a22, b22, F23, PySem.W.mg_of X G a23, b23, F24, PySem.W.mg_of X G a24, b24, F25, PySem.W.mg_of X G a25, b25, F26, PySem.W.mg_of X G a26, b26, F27, PySem.W.mg_of X G a27, b27, F28, PySem.W.mg_of X G a28, b28, F29, PySem.W.mg_of X G a29, b29, F30, PySem.W.mg_of X G a30, b30, F31, PySem.W.mg_of X G a31, b31, F32, PySem.W.mg_of X G a32, b32, F33, PySem.W.mg_of X G a33, b33, F34, PySem.W.mg_of X G a34, b34, F35, PySem.W.mg_of X G a35, b35, F36, PySem.W.mg_of X G a36, b36, F37, PySem.W.mg_of X G a37, b37, F38, PySem.W.mg_of X G a38, b38, F39, PySem.W.mg_of X G a39, b39, F40, PySem.W.mg_of X G a40, b40, PySem.W.mg_of X G gc_Log, ⟨pg_Log, hd_Log, po_Log, sa_Log⟩, na_Log_offices, na_Log_rows, ⟨mk_Log, a13, i13, kc_Log⟩, ⟨_, PySem.W.mg_of X G v_MOST_OFFICES⟩, ⟨_, PySem.W.mg_of X G v_MOST_ROWS⟩, PySem.W.mg_none_of X G z0, PySem.W.mg_none_of X G z1, PySem.W.mg_none_of X G z2, PySem.W.mg_none_of X G z3, PySem.W.mg_none_of X G z4, PySem.W.mg_none_of X G z5, PySem.W.mg_none_of X G z6, PySem.W.mg_none_of X G z7, PySem.W.mg_none_of X G z8, PySem.W.mg_none_of X G z9, PySem.W.mg_none_of X G z10, PySem.W.mg_none_of X G z11, PySem.W.mg_none_of X G z12, PySem.W.mg_none_of X G z13, PySem.W.mg_none_of X G z14, PySem.W.mg_none_of X G z15, PySem.W.mg_none_of X G z16⟩
  exact ⟨_, fun s v => .of_eq rfl, fun base _ _ => ok_law T⟩
end Pf
open PySem PySem.W PyProof.Rows
set_option maxHeartbeats 0 in
theorem PySem.Challenge.cw_takenover_k23_whole_editions_that_pass_holds : PySem.Challenge.rw_takenover_k23_whole_editions_that_pass.Holds := by
  w_on; o_law; k_head; (case hw => w_witness2)
  k_fill
  refine L2.walk_of (l := PySem.Challenge.rw_takenover_k23_whole_editions_that_pass) (n := 63) (k := Pf.lawLevel) (x := "_law_script") (CX := fun _ => L2.CX0) (sp := fun w => Pf.sp_law _) rfl (by decide) rfl ⟨rfl, by decide, by decide⟩ (fun w h Y => PySem.W.kIn_of Y) ?F (fun _ _ a ns hl _ hS => ⟨a, ns, rfl, hS, hl, fun _ => rfl⟩) (fun _ _ _ _ _ h => h)
  case F =>
    intro w mg fa h KX G hmg
    refine' Pf.all_mk KX G hmg ?a0 ?l0 ?c0 ?k0 ?a1 ?l1 ?c1 ?k1 ?a2 ?l2 ?c2 ?k2 ?a3 ?l3 ?c3 ?k3 ?a4 ?l4 ?c4 ?k4 ?a5 ?l5 ?c5 ?k5 ?a6 ?l6 ?c6 ?k6 ?a7 ?l7 ?c7 ?k7 ?a8 ?l8 ?c8 ?k8 ?a9 ?l9 ?c9 ?k9 ?a10 ?l10 ?c10 ?k10 ?a11 ?l11 ?c11 ?k11 ?a12 ?l12 ?c12 ?k12 ?a13 ?i13 ?l13 ?c13 ?k13 ?a14 ?l14 ?c14 ?k14 ?a15 ?l15 ?c15 ?k15 ?a16 ?l16 ?c16 ?k16 ?a17 ?l17 ?c17 ?k17 ?a18 ?l18 ?c18 ?k18 ?a19 ?l19 ?c19 ?k19 ?a20 ?l20 ?c20 ?k20 ?a21 ?l21 ?c21 ?k21 ?a22 ?l22 ?c22 ?k22 ?a23 ?l23 ?c23 ?k23 ?a24 ?l24 ?c24 ?k24 ?a25 ?l25 ?c25 ?k25 ?a26 ?l26 ?c26 ?k26 ?a27 ?l27 ?c27 ?k27 ?a28 ?l28 ?c28 ?k28 ?a29 ?l29 ?c29 ?k29 ?a30 ?l30 ?c30 ?k30 ?a31 ?l31 ?c31 ?k31 ?a32 ?l32 ?c32 ?k32 ?a33 ?l33 ?c33 ?k33 ?a34 ?l34 ?c34 ?k34 ?a35 ?l35 ?c35 ?k35 ?a36 ?l36 ?c36 ?k36 ?a37 ?l37 ?c37 ?k37 ?a38 ?l38 ?c38 ?k38 ?a39 ?l39 ?c39 ?k39 ?a40 ?l40 ?c40 ?k40 ?gc_Log ?pg_Log ?hd_Log ?po_Log ?sa_Log ?mk_Log ?kc_Log ?na_Log_offices ?na_Log_rows ?v_MOST_OFFICES ?v_MOST_ROWS ?z0 ?z1 ?z2 ?z3 ?z4 ?z5 ?z6 ?z7 ?z8 ?z9 ?z10 ?z11 ?z12 ?z13 ?z14 ?z15 ?z16
    (case gc_Log => k_is); (case a0 => k_is); (case l0 => k_is); (case c0 => k_is); (case k0 => k_is); (case a1 => k_is); (case l1 => k_is); (case c1 => k_is); (case k1 => k_is); (case a2 => k_is); (case l2 => k_is); (case c2 => k_is); (case k2 => k_is); (case a3 => k_is); (case l3 => k_is); (case c3 => k_is); (case k3 => k_is); (case a4 => k_is); (case l4 => k_is); (case c4 => k_is); (case k4 => k_is); (case a5 => k_is); (case l5 => k_is); (case c5 => k_is); (case k5 => k_is); (case a6 => k_is); (case l6 => k_is); (case c6 => k_is); (case k6 => k_is); (case a7 => k_is); (case l7 => k_is); (case c7 => k_is); (case k7 => k_is); (case a8 => k_is); (case l8 => k_is); (case c8 => k_is); (case k8 => k_is); (case a9 => k_is); (case l9 => k_is); (case c9 => k_is); (case k9 => k_is); (case a10 => k_is); (case l10 => k_is); (case c10 => k_is); (case k10 => k_is); (case a11 => k_is); (case l11 => k_is); (case c11 => k_is); (case k11 => k_is); (case a12 => k_is); (case l12 => k_is); (case c12 => k_is); (case k12 => k_is); (case a13 => k_is); (case i13 => k_is); (case l13 => k_is); (case c13 => k_is); (case k13 => k_is); (case a14 => k_is); (case l14 => k_is); (case c14 => k_is); (case k14 => k_is); (case a15 => k_is); (case l15 => k_is); (case c15 => k_is); (case k15 => k_is); (case a16 => k_is); (case l16 => k_is); (case c16 => k_is); (case k16 => k_is); (case a17 => k_is); (case l17 => k_is); (case c17 => k_is); (case k17 => k_is); (case a18 => k_is); (case l18 => k_is); (case c18 => k_is); (case k18 => k_is); (case a19 => k_is); (case l19 => k_is); (case c19 => k_is); (case k19 => k_is); (case a20 => k_is); (case l20 => k_is); (case c20 => k_is); (case k20 => k_is); (case a21 => k_is); (case l21 => k_is); (case c21 => k_is); (case k21 => k_is); (case a22 => k_is); (case l22 => k_is); (case c22 => k_is); (case k22 => k_is); (case a23 => k_is); (case l23 => k_is); (case c23 => k_is); (case k23 => k_is); (case a24 => k_is); (case l24 => k_is); (case c24 => k_is); (case k24 => k_is); (case a25 => k_is); (case l25 => k_is); (case c25 => k_is); (case k25 => k_is); (case a26 => k_is); (case l26 => k_is); (case c26 => k_is); (case k26 => k_is); (case a27 => k_is); (case l27 => k_is); (case c27 => k_is); (case k27 => k_is); (case a28 => k_is); (case l28 => k_is); (case c28 => k_is); (case k28 => k_is); (case a29 => k_is); (case l29 => k_is); (case c29 => k_is); (case k29 => k_is); (case a30 => k_is); (case l30 => k_is); (case c30 => k_is); (case k30 => k_is); (case a31 => k_is); (case l31 => k_is); (case c31 => k_is); (case k31 => k_is); (case a32 => k_is); (case l32 => k_is); (case c32 => k_is); (case k32 => k_is); (case a33 => k_is); (case l33 => k_is); (case c33 => k_is); (case k33 => k_is); (case a34 => k_is); (case l34 => k_is); (case c34 => k_is); (case k34 => k_is); (case a35 => k_is); (case l35 => k_is); (case c35 => k_is); (case k35 => k_is); (case a36 => k_is); (case l36 => k_is); (case c36 => k_is); (case k36 => k_is); (case a37 => k_is); (case l37 => k_is); (case c37 => k_is); (case k37 => k_is); (case a38 => k_is); (case l38 => k_is); (case c38 => k_is); (case k38 => k_is); (case a39 => k_is); (case l39 => k_is); (case c39 => k_is); (case k39 => k_is); (case a40 => k_is); (case l40 => k_is); (case c40 => k_is); (case k40 => k_is); (case pg_Log => k_is); (case hd_Log => k_is); (case po_Log => k_is); (case sa_Log => k_is); (case mk_Log => k_is); (case kc_Log => k_is); (case na_Log_offices => k_is); (case na_Log_rows => k_is); (case v_MOST_OFFICES => k_is); (case v_MOST_ROWS => k_is); (case z0 => k_is); (case z1 => k_is); (case z2 => k_is); (case z3 => k_is); (case z4 => k_is); (case z5 => k_is); (case z6 => k_is); (case z7 => k_is); (case z8 => k_is); (case z9 => k_is); (case z10 => k_is); (case z11 => k_is); (case z12 => k_is); (case z13 => k_is); (case z14 => k_is); (case z15 => k_is); (case z16 => k_is)
