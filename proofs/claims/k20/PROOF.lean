import PyProof.Rows.All
import Wide.All
import OpenK.AllK
import Wide.FinOn
import HandS.ForMost
import HandS.IsInst
import HandS.Wide
import HandS.TupAny
import HandS.Zip
import HandS.Walk
import HandS.Conv
import HandS.CallLocal
import KE.GoesEnum
import KE.GoesMore
import PyProof.EnumMake
import PyProof.EnumFor
import HandS.OwnEq
import HandS.Codes
import HandS.TupMul
import HandS.Deep
import PySem.Challenge.RW_takenover_k20_whole_prices_by_all_posts
set_option Elab.async false
set_option linter.all false
set_option maxRecDepth 100000
namespace Pf
open PySem PySem.Spec PyProof.Rows L2
/-! ### frames -/
/-- all but the one list at d stays -/
def Fr (d : Addr) (H H' : Hp) : Prop := ∀ b o, b ≠ d → H b = some o → H' b = some o
/-- all that is no list stays -/
def Tx (H H' : Hp) : Prop := ∀ b o, H b = some o → (∀ z, o ≠ .lst z) → H' b = some o
theorem Fr.refl (d : Addr) (H : Hp) : Fr d H H := fun _ _ _ h => h
theorem Fr.trans {d : Addr} {H H1 H2 : Hp} (x : Fr d H H1) (y : Fr d H1 H2) : Fr d H H2 := fun b o n h => y b o n (x b o n h)
theorem Fr.of {d : Addr} {H H' : Hp} (x : Same H H') : Fr d H H' := fun b o _ h => x b o h
theorem Fr.upd {d : Addr} {H : Hp} {o : HO} : Fr d H (upd H d o) := fun b x n h => by rw [upd_ne n]; exact h
theorem Fr.new {d p : Addr} {H : Hp} {o : HO} (n : H p = none) : Fr d H (L2.upd H p o) := fun b x _ h => by
  rw [upd_ne (ne_of_none h n)]; exact h
theorem same_new {H : Hp} {p : Addr} {o : HO} (h : H p = none) : Same H (upd H p o) := fun b x e => by
  rw [upd_ne (ne_of_none e h)]; exact e
/-- behind a change of what was not there at H -/
theorem Same.put {H H1 : Hp} {p : Addr} {o : HO} (s : Same H H1) (h : H p = none) : Same H (upd H1 p o) := fun b x e => by
  rw [upd_ne (ne_of_none e h)]; exact s b x e
theorem Fr.put {d : Addr} {H H1 : Hp} {p : Addr} {o : HO} (s : Fr d H H1) (h : H p = none) : Fr d H (L2.upd H1 p o) := fun b x n e => by
  rw [upd_ne (ne_of_none e h)]; exact s b x n e
theorem Tx.refl (H : Hp) : Tx H H := fun _ _ h _ => h
theorem Tx.trans {H H1 H2 : Hp} (x : Tx H H1) (y : Tx H1 H2) : Tx H H2 := fun b o h n => y b o (x b o h n) n
theorem Tx.of {H H' : Hp} (x : Same H H') : Tx H H' := fun b o h _ => x b o h
theorem Tx.new {H : Hp} {p : Addr} {o : HO} (h : H p = none) : Tx H (L2.upd H p o) := Tx.of (same_new h)
theorem Tx.lst {H : Hp} {p : Addr} {z : List V} {o : HO} (h : H p = some (.lst z)) : Tx H (L2.upd H p o) := fun b x e n => by
  by_cases hb : b = p
  · subst hb
    rw [h] at e
    exact absurd (Option.some.inj e).symm (n z)
  · rw [upd_ne hb]; exact e
theorem Fr.tx {d : Addr} {H H' : Hp} {z : List V} (f : Fr d H H') (h : H d = some (.lst z)) : Tx H H' := fun b x e n => by
  by_cases hb : b = d
  · subst hb
    rw [h] at e
    exact absurd (Option.some.inj e).symm (n z)
  · exact f b x hb e
theorem Tx.seq {K : PySem.W.Frag} {H H' : Hp} {b : Addr} {xs : List V} (t : Tx H H') (h : SqT K H b xs) : SqT K H' b xs := by
  rcases h with (h | ⟨o, h⟩) | h
  · exact .inl (.inl (t _ _ h (fun z e => by cases e)))
  · exact .inl (.inr ⟨o, t _ _ h (fun z e => by cases e)⟩)
  · exact .inr h
theorem Fr.seqL {K : PySem.W.Frag} {d : Addr} {H H' : Hp} {b : Addr} {xs : List V} (t : Fr d H H') (n : b ≠ d) (h : SqL K H b xs) : SqL K H' b xs := by
  rcases h with (h | ⟨o, h⟩) | h
  · exact .inl (.inl (t _ _ n h))
  · exact .inl (.inr ⟨o, t _ _ n h⟩)
  · exact .inr h
theorem SqL.new {K : PySem.W.Frag} {H : Hp} {p : Addr} {xs : List V} : SqL K (L2.upd H p (.lst xs)) p xs := .inl (.inl upd_same)
theorem SqT.new {K : PySem.W.Frag} {H : Hp} {p : Addr} {xs : List V} : SqT K (L2.upd H p (.tup xs)) p xs := .inl (.inl upd_same)
theorem SqL.at {K : PySem.W.Frag} {H : Hp} {p : Addr} {xs : List V} (h : H p = some (.lst xs)) : SqL K H p xs := .inl (.inl h)
theorem SqT.at {K : PySem.W.Frag} {H : Hp} {p : Addr} {xs : List V} (h : H p = some (.tup xs)) : SqT K H p xs := .inl (.inl h)

/-! ### data without lists: it stays where all that is no list stays -/
mutual
def im : PyData → Bool
  | .tuple ds => imAll ds
  | .list _ => false
  | .dict _ => false
  | _ => true
def imAll : List PyData → Bool
  | [] => true
  | d :: ds => im d && imAll ds
end
theorem imAll_iff : ∀ ds : List PyData, imAll ds = true ↔ ∀ d ∈ ds, im d = true
  | [] => by unfold imAll; simp
  | d :: ds => by unfold imAll; rw [Bool.and_eq_true, imAll_iff ds]; simp
mutual
theorem Dp.tx {K : PySem.W.Frag} {H H' : Hp} (t : Tx H H') : ∀ (d : PyData) (v : V), im d = true → Dp K H v d → Dp K H' v d
  | .none, _, _, h => by cases h; exact .non
  | .bool b, _, _, h => by cases h; exact .bl b
  | .int i, _, _, h => by cases h; exact .int i
  | .str x, _, _, h => by cases h; exact .str x
  | .tuple ds, v, m, h => by
    unfold im at m
    cases h with
    | tup q r => exact .tup (t.seq q) (Dp.txAll t ds _ m r)
theorem Dp.txAll {K : PySem.W.Frag} {H H' : Hp} (t : Tx H H') : ∀ (ds : List PyData) (vs : List V), imAll ds = true → DpAll K H vs ds → DpAll K H' vs ds
  | [], _, _, h => by cases h; exact .nil
  | d :: ds, vs, m, h => by
    unfold imAll at m
    rw [Bool.and_eq_true] at m
    cases h with
    | cons p q => exact .cons (Dp.tx t d _ m.1 p) (Dp.txAll t ds _ m.2 q)
end
mutual
theorem Dp.same {K : PySem.W.Frag} {H H' : Hp} (t : Same H H') : ∀ (d : PyData) (v : V), Dp K H v d → Dp K H' v d
  | .none, _, h => by cases h; exact .non
  | .bool b, _, h => by cases h; exact .bl b
  | .int i, _, h => by cases h; exact .int i
  | .str x, _, h => by cases h; exact .str x
  | .tuple ds, v, h => by
    cases h with
    | tup q r => exact .tup ((Tx.of t).seq q) (Dp.sameAll t ds _ r)
  | .list ds, v, h => by
    cases h with
    | lst q r => exact .lst (t.seq q) (Dp.sameAll t ds _ r)
theorem Dp.sameAll {K : PySem.W.Frag} {H H' : Hp} (t : Same H H') : ∀ (ds : List PyData) (vs : List V), DpAll K H vs ds → DpAll K H' vs ds
  | [], _, h => by cases h; exact .nil
  | d :: ds, vs, h => by
    cases h with
    | cons p q => exact .cons (Dp.same t d _ p) (Dp.sameAll t ds _ q)
end
theorem DpAll.len {K : PySem.W.Frag} {H : Hp} : ∀ {vs : List V} {ds : List PyData}, DpAll K H vs ds → vs.length = ds.length
  | _, _, .nil => rfl
  | _, _, .cons _ q => by rw [List.length_cons, List.length_cons, DpAll.len q]
theorem DpAll.at {K : PySem.W.Frag} {H : Hp} : ∀ {vs : List V} {ds : List PyData} {i : Nat} {v : V} {d : PyData}, DpAll K H vs ds → vs[i]? = some v → ds[i]? = some d → Dp K H v d
  | _, _, 0, _, _, .cons p _, h, k => by cases h; cases k; exact p
  | _, _, i + 1, _, _, .cons _ q, h, k => DpAll.at (i := i) q (by simpa using h) (by simpa using k)
theorem DpAll.snoc {K : PySem.W.Frag} {H : Hp} : ∀ {vs : List V} {ds : List PyData} {v : V} {d : PyData}, DpAll K H vs ds → Dp K H v d → DpAll K H (vs ++ [v]) (ds ++ [d])
  | _, _, _, _, .nil, p => .cons p .nil
  | _, _, _, _, .cons x q, p => .cons x (DpAll.snoc q p)
theorem DpAll.app {K : PySem.W.Frag} {H : Hp} : ∀ {vs us : List V} {ds es : List PyData}, DpAll K H vs ds → DpAll K H us es → DpAll K H (vs ++ us) (ds ++ es)
  | _, _, _, _, .nil, p => p
  | _, _, _, _, .cons x q, p => .cons x (DpAll.app q p)
/-- tuples of whole numbers -/
abbrev tupI (ns : List Int) : PyData := .tuple (ns.map PyData.int)
theorem dpAll_ints {K : PySem.W.Frag} {H : Hp} : ∀ (ns : List Int), DpAll K H (ns.map V.int) (ns.map PyData.int)
  | [] => .nil
  | n :: ns => .cons (.int n) (dpAll_ints ns)
theorem dpAll_ints_eq {K : PySem.W.Frag} {H : Hp} : ∀ {ns : List Int} {vs : List V}, DpAll K H vs (ns.map PyData.int) → vs = ns.map V.int
  | [], _, .nil => rfl
  | n :: ns, _, .cons p q => by
    cases p
    rw [dpAll_ints_eq q]
    rfl
theorem dp_ints {K : PySem.W.Frag} {H : Hp} {p : Addr} {ns : List Int} (h : SqT K H p (ns.map V.int)) : Dp K H (.ref p) (tupI ns) := .tup h (dpAll_ints ns)
theorem of_ints {K : PySem.W.Frag} {H : Hp} {v : V} {ns : List Int} (h : Dp K H v (tupI ns)) : ∃ p, v = .ref p ∧ SqT K H p (ns.map V.int) := by
  cases h with
  | tup q r => rw [dpAll_ints_eq r] at q; exact ⟨_, rfl, q⟩
theorem imAll_ints : ∀ (ns : List Int), imAll (ns.map PyData.int) = true
  | [] => rfl
  | _ :: ns => by
    show (im (.int _) && imAll (ns.map PyData.int)) = true
    rw [imAll_ints ns]; rfl
theorem im_ints (ns : List Int) : im (tupI ns) = true := imAll_ints ns
/-- the class of a value of data -/
def tyD : PyData → String
  | .none => "NoneType"
  | .bool _ => "bool"
  | .int _ => "int"
  | .str _ => "str"
  | .list _ => "list"
  | .tuple _ => "tuple"
  | .dict _ => "dict"
theorem Dp.ty {K : PySem.W.Frag} {H : Hp} {v : V} {d : PyData} (h : Dp K H v d) : TyX K H v (.type (tyD d)) := by
  cases h with
  | non => exact .base .non
  | bl b => exact .base (.bl b)
  | int i => exact .base (.int i)
  | str x => exact .base (.str x)
  | lst q r =>
    rcases q with (q | ⟨o, q⟩) | ⟨o, its, n, e, c, _⟩
    · exact .base (.lst q)
    · exact .base (.frz q)
    · exact .kList e c
  | tup q r =>
    rcases q with (q | ⟨o, q⟩) | ⟨o, its, n, e, c, _⟩
    · exact .base (.tup q)
    · exact .fTuple q
    · exact .kTuple e c
theorem atI_int {cs : List Int} {i : Int} (h0 : 0 ≤ i) (h : i < (cs.map V.int).length) : ∃ z, z ∈ cs ∧ cs[i.toNat]? = some z ∧ atI (cs.map V.int) i = some (.int z) := by
  have hl : i.toNat < cs.length := by rw [List.length_map] at h; omega
  obtain ⟨z, ez⟩ : ∃ z, cs[i.toNat]? = some z := ⟨_, List.getElem?_eq_getElem hl⟩
  refine ⟨z, List.mem_of_getElem? ez, ez, ?_⟩
  have e : i = ((i.toNat : Nat) : Int) := by omega
  rw [e]
  refine atI_nat ?_
  rw [List.getElem?_map, ez]
  rfl
/-! ### walks: zip of two tuples -/
theorem walk_zipT {K : PySem.W.Frag} {a b : Addr} {xs ys : List V} {n : Nat} (hn : n = min xs.length ys.length) : Walk (RZ.ItzT K a b) n (fun H => SqT K H a xs ∧ SqT K H b ys) (YPair (fun i => xs[i]?) (fun i => ys[i]?)) where
  goes := fun i H hi ⟨p, q⟩ => ⟨xs, ys, xs[i]'(by omega), ys[i]'(by omega), p, q, List.getElem?_eq_getElem (by omega), List.getElem?_eq_getElem (by omega)⟩
  stops := fun H ⟨p, q⟩ => ⟨xs, ys, p, q, by omega⟩
  yields := fun i H x H' hi ⟨p, q⟩ ⟨T, x1, x2, e, nT, e2, f1, f2⟩ => ⟨T, x1, x2, e, nT, e2, f1 xs p, f2 ys q⟩

/-! ### readings, step by step -/
section
variable {σ : L2.St} {H : Hp} {Q : VK} {QT : Bool → Hp → Prop} {QA : List V → Hp → Prop} {D : Ends} {ta tb tc te : TE} {t u : TT} {tr : TA} {s1 s2 : TS} {r r' : R2} {v : V} {K : PySem.W.Frag}
theorem g_var {i : Nat} (e : σ[i]? = some (some v)) (q : Q v H) : tVar i σ H Q := ⟨v, e, q⟩
theorem g_c (q : Q v H) : tC v σ H Q := q
theorem g_op (q : ta σ H fun x H1 => tb σ H1 fun y H2 => r x y H2 Q) : tOp r ta tb σ H Q := q
theorem g_rI0 {g : Int → Int → V} {i j : Int} (q : Q (g i j) H) : rI0 g (.int i) (.int j) H Q := ⟨i, j, rfl, rfl, q⟩
theorem g_rI {C : Int → Int → Prop} {g : Int → Int → V} {i j : Int} (c : C i j) (q : Q (g i j) H) : rI C g (.int i) (.int j) H Q := ⟨i, j, rfl, rfl, c, q⟩
theorem g_eqI {i j : Int} (q : Q (.bl (decide (i = j))) H) : rEq (.int i) (.int j) H Q := ⟨rfl, by
  rw [show decide (V.int i = V.int j) = decide (i = j) from by simp only [V.int.injEq]]; exact q⟩
theorem g_neI {i j : Int} (q : Q (.bl (!decide (i = j))) H) : rNe (.int i) (.int j) H Q := ⟨rfl, by
  rw [show decide (V.int i = V.int j) = decide (i = j) from by simp only [V.int.injEq]]; exact q⟩
theorem dec_bl {i j : Bool} : decide (V.bl i = V.bl j) = (i == j) := by cases i <;> cases j <;> rfl
theorem g_eqB {i j : Bool} (q : Q (.bl (i == j)) H) : rEq (.bl i) (.bl j) H Q := ⟨rfl, by rw [dec_bl]; exact q⟩
theorem g_neB {i j : Bool} (q : Q (.bl (!(i == j))) H) : rNe (.bl i) (.bl j) H Q := ⟨rfl, by rw [dec_bl]; exact q⟩
theorem g_test (q : ta σ H fun x H' => ∃ k, x = .bl k ∧ QT k H') : tTest ta σ H QT := q
theorem g_tB (q : ta σ H fun x H' => ∃ k, x = .bl k ∧ QT k H') : tB ta σ H QT := q
theorem g_bl {b : Bool} {P : Bool → Prop} (q : P b) : ∃ k, V.bl b = .bl k ∧ P k := ⟨b, rfl, q⟩
theorem g_and (q : t σ H fun c H1 => if c = true then u σ H1 QT else QT false H1) : tAnd t u σ H QT := q
theorem g_or (q : t σ H fun c H1 => if c = true then QT true H1 else u σ H1 QT) : tOr t u σ H QT := q
theorem g_not (q : t σ H fun c H1 => QT (!c) H1) : tNot t σ H QT := q
theorem g_andV (q : ta σ H fun x H1 => ∃ c, x = .bl c ∧ if c = true then tb σ H1 Q else Q (.bl false) H1) : tAndV ta tb σ H Q := q
theorem g_orV (q : ta σ H fun x H1 => ∃ c, x = .bl c ∧ if c = true then Q (.bl true) H1 else tb σ H1 Q) : tOrV ta tb σ H Q := q
theorem g_notV (q : ta σ H fun x H1 => ∃ c, x = .bl c ∧ Q (.bl (!c)) H1) : tNotV ta σ H Q := q
theorem g_if (q : t σ H fun c H1 => if c = true then ta σ H1 Q else tb σ H1 Q) : tIf t ta tb σ H Q := q
theorem g_un {r : V → Hp → VK → Prop} (q : ta σ H fun x H1 => r x H1 Q) : tUn r ta σ H Q := q
theorem g_rU {g : Int → V} {i : Int} (q : Q (g i) H) : rU g (.int i) H Q := ⟨i, rfl, q⟩
theorem g_chain (q : ta σ H fun x H1 => tb σ H1 fun y H2 => r x y H2 fun z H3 => ∃ k, z = .bl k ∧ (if k = true then tc σ H3 fun w' H4 => r' y w' H4 Q else Q (.bl false) H3)) : tChain r r' ta tb tc σ H Q := q
theorem g_seq (q : s1 { D with nx := s2 D } σ H) : tSeq s1 s2 D σ H := q
theorem g_ifS (q : t σ H fun b H1 => if b = true then s1 D σ H1 else s2 D σ H1) : tIfS t s1 s2 D σ H := q
theorem g_next (q : D.nx σ H) : tNext D σ H := q
theorem g_asg {g : TG} (q : ta σ H fun x H1 => g x σ H1 D.nx) : tAsg ta g D σ H := q
theorem g_name {i : Nat} {P : L2.St → Hp → Prop} (q : P (σ.set i (some v)) H) : gName i v σ H P := q
theorem g_sub {ts : TSet} {P : L2.St → Hp → Prop} (q : ta σ H fun o H1 => tb σ H1 fun i H2 => ts o i v H2 fun H3 => P σ H3) : gSub ta tb ts v σ H P := q
theorem g_setL {p : Addr} {xs : List V} {k : Int} {j : Nat} {P : Hp → Prop} (h : H p = some (.lst xs)) (e : ixN xs.length k = some j) (q : P (upd H p (.lst (xs.set j v)))) : rSetL (.ref p) (.int k) v H P := ⟨p, xs, k, j, rfl, rfl, h, e, q⟩
theorem g_ret (q : ta σ H D.rt) : tRet ta D σ H := q
theorem g_drop (q : ta σ H fun _ H1 => D.nx σ H1) : tDrop ta D σ H := q
theorem g_cons (q : ta σ H fun x H1 => tr σ H1 fun xs H2 => QA (x :: xs) H2) : tCons ta tr σ H QA := q
theorem g_nil (q : QA [] H) : tNil σ H QA := q
theorem g_cb {r : List V → Hp → VK → Prop} (q : tr σ H fun vs H1 => r vs H1 Q) : tCB r tr σ H Q := q
theorem g_tup (q : tr σ H fun xs H1 => xs.length ≤ sizeLine ∧ ∀ p, H1 p = none → Q (.ref p) (upd H1 p (.tup xs))) : tTup tr σ H Q := q
theorem g_lst (q : tr σ H fun xs H1 => xs.length ≤ sizeLine ∧ ∀ p, H1 p = none → Q (.ref p) (upd H1 p (.lst xs))) : tLst tr σ H Q := q
theorem g_sl {r : V → Option Int → Option Int → Hp → VK → Prop} {tl th : TO} (q : ta σ H fun x H1 => tl σ H1 fun l H2 => th σ H2 fun u H3 => r x l u H3 Q) : tSl r ta tl th σ H Q := q
theorem g_nopart {P : Option Int → Hp → Prop} (q : P none H) : tNoPart σ H P := q
theorem g_part {P : Option Int → Hp → Prop} (q : ta σ H fun x H1 => ∃ i, x = .int i ∧ P (some i) H1) : tPart ta σ H P := q
theorem g_part2 {i : Int} {P : Int → Prop} (q : P i) : ∃ k, V.int i = .int k ∧ P k := ⟨i, rfl, q⟩
theorem g_ixL {p : Addr} {xs : List V} {i : Int} (h : SqL K H p xs) (e : atI xs i = some v) (q : Q v H) : rIxL K (.ref p) (.int i) H Q := ⟨p, xs, i, v, rfl, rfl, h, e, q⟩
theorem g_ixT {p : Addr} {xs : List V} {i : Int} (h : SqT K H p xs) (e : atI xs i = some v) (q : Q v H) : rIxT K (.ref p) (.int i) H Q := ⟨p, xs, i, v, rfl, rfl, h, e, q⟩
theorem g_call {sp : Sp} {dvs : List V} {E : XK} (q : tr σ H fun vs H1 => sp (vs ++ dvs) H1 Q E) : tCall sp dvs E tr σ H Q := q
theorem g_int {i : Int} (q : Q (.int i) H) : (∃ k, [V.int i] = [.int k] ∧ Q (.int k) H) ∨ ∃ k : Bool, [V.int i] = [.bl k] ∧ Q (.int (if k = true then 1 else 0)) H := .inl ⟨i, rfl, q⟩
theorem g_list {i : Nat} {P : Addr → Prop} {p : Addr} (q : P p) : ∃ k, V.ref p = .ref k ∧ P k := ⟨p, rfl, q⟩
theorem g_iList {R : It → Hp → Prop} {p : Addr} {xs : List V} (h : SqL K H p xs) (q : R (Itl K p) H) : ∃ a, V.ref p = .ref a ∧ (∃ xs, SqL K H a xs) ∧ R (Itl K a) H := ⟨p, rfl, ⟨xs, h⟩, q⟩
theorem g_iTup {R : It → Hp → Prop} {p : Addr} {xs : List V} (h : SqT K H p xs) (q : R (Itt K p) H) : ∃ a, V.ref p = .ref a ∧ (∃ xs, SqT K H a xs) ∧ R (Itt K a) H := ⟨p, rfl, ⟨xs, h⟩, q⟩
theorem g_lenL {p : Addr} {xs : List V} (h : SqL K H p xs) (q : Q (.int xs.length) H) : ∃ p' ys, [V.ref p] = [.ref p'] ∧ (SqL K H p' ys ∨ SqT K H p' ys) ∧ Q (.int ys.length) H := ⟨p, xs, rfl, .inl h, q⟩
theorem g_lenT {p : Addr} {xs : List V} (h : SqT K H p xs) (q : Q (.int xs.length) H) : ∃ p' ys, [V.ref p] = [.ref p'] ∧ (SqL K H p' ys ∨ SqT K H p' ys) ∧ Q (.int ys.length) H := ⟨p, xs, rfl, .inr h, q⟩
theorem g_ite {c A B : Prop} [Decidable c] (h1 : c → A) (h2 : ¬ c → B) : if decide c = true then A else B := by
  by_cases h : c
  · rw [decide_eq_true h, if_pos rfl]; exact h1 h
  · rw [decide_eq_false h, if_neg Bool.false_ne_true]; exact h2 h
theorem g_iteN {c A B : Prop} [Decidable c] (h1 : ¬ c → A) (h2 : c → B) : if (!decide c) = true then A else B := by
  by_cases h : c
  · rw [decide_eq_true h]; exact (if_neg Bool.false_ne_true) ▸ h2 h
  · rw [decide_eq_false h]; exact (if_pos rfl) ▸ h1 h
theorem g_lc {wi : TI} {g : TG} {tt : TT} {vs : List Nat} (q : wi σ H fun J H1 => ∀ D, H1 D = none → ∃ W : Nat → Nat → Hp → Prop, (∃ m, W 0 m (L2.upd H1 D (.lst []))) ∧ ∀ i m H, W i m H →
  (J.stop i H ∧ Q (.ref D) H) ∨ (J.go i H ∧ ∃ Nx : Hp → Prop, (∀ H', Nx H' → ∃ m', m' < m ∧ W (i + 1) m' H') ∧ ∀ x H', J.yld i H x H' → g x (wipe σ vs) H' fun σ2 H2 => wipe σ2 vs = wipe σ vs ∧ tt σ2 H2 fun b H3 =>
    if b = true then te σ2 H3 fun y H4 => ∃ acc, H4 D = some (.lst acc) ∧ acc.length < sizeLine ∧ Nx (L2.upd H4 D (.lst (acc ++ [y]))) else Nx H3)) : tLc wi g tt te vs σ H Q := q
theorem g_for {wi : TI} {g : TG} {tb : TS} (q : wi σ H fun J H1 => ∃ W : Nat → Nat → L2.St → Hp → Prop, (∃ m, W 0 m σ H1) ∧ ∀ i m σ H, W i m σ H →
  (J.stop i H ∧ D.nx σ H) ∨ (J.go i H ∧ ∃ N : L2.St → Hp → Prop, (∀ σ' H', N σ' H' → ∃ m', m' < m ∧ W (i + 1) m' σ' H') ∧ ∀ x H', J.yld i H x H' → g x σ H' fun σ2 H2 => tb { D with nx := N, ct := N, bk := D.nx } σ2 H2)) : tFor wi g tb D σ H := q
theorem g_iL {R : It → Hp → Prop} (q : ta σ H fun x H1 => ∃ a, x = .ref a ∧ (∃ xs, SqL K H1 a xs) ∧ R (Itl K a) H1) : iList K ta σ H R := q
theorem g_iT {R : It → Hp → Prop} (q : ta σ H fun x H1 => ∃ a, x = .ref a ∧ (∃ xs, SqT K H1 a xs) ∧ R (Itt K a) H1) : iTup K ta σ H R := q
theorem g_iR1 {R : It → Hp → Prop} (q : tr σ H fun vs H1 => ∃ j : Int, vs = [.int j] ∧ -(2 ^ 62) ≤ j ∧ j < 2 ^ 62 ∧ R (Itr 0 j.toNat) H1) : iRng1 tr σ H R := q
theorem g_iR2 {R : It → Hp → Prop} (q : tr σ H fun vs H1 => ∃ i j : Int, vs = [.int i, .int j] ∧ (-(2 ^ 62) ≤ i ∧ i < 2 ^ 62 ∧ -(2 ^ 62) ≤ j ∧ j < 2 ^ 62) ∧ R (Itr i (j - i).toNat) H1) : iRng2 tr σ H R := q
theorem g_iZA {R : It → Hp → Prop} (q : tr σ H fun vs H1 => ∃ a b xs ys, vs = [.ref a, .ref b] ∧ ((SqL K H1 a xs ∧ SqL K H1 b ys ∧ R (Itz K a b) H1) ∨ (SqT K H1 a xs ∧ SqT K H1 b ys ∧ R (RZ.ItzT K a b) H1))) : RZ.iZipA K tr σ H R := q
theorem g_bm {T : String} {rm : V → List V → Hp → VK → Prop} (q : ta σ H fun x H1 => tyV K T x H1 ∧ tr σ H1 fun xs H2 => rm x xs H2 Q) : tBM K T rm ta tr σ H Q := q
theorem g_nT {A B : Prop} (h : B) : if (!true) = true then A else B := h
theorem g_nF {A B : Prop} (h : A) : if (!false) = true then A else B := h
theorem g_oFF {A B : Prop} (h : B) : if (false || false) = true then A else B := h
theorem g_oTx {b : Bool} {A B : Prop} (h : A) : if (true || b) = true then A else B := h
theorem g_oFT {A B : Prop} (h : A) : if (false || true) = true then A else B := h
theorem g_noTx {b : Bool} {A B : Prop} (h : B) : if (!(true || b)) = true then A else B := h
theorem g_noFT {A B : Prop} (h : B) : if (!(false || true)) = true then A else B := h
theorem g_noFF {A B : Prop} (h : A) : if (!(false || false)) = true then A else B := h
theorem g_yes (q : QT true H) : tYes σ H QT := q
/-- one word for what follows a statement -/
theorem seq_cut (R : L2.St → Hp → Prop) (h2 : ∀ σ' H', R σ' H' → s2 D σ' H') (h1 : ∀ N : L2.St → Hp → Prop, (∀ σ' H', R σ' H' → N σ' H') → s1 { D with nx := N } σ H) : tSeq s1 s2 D σ H := h1 (s2 D) h2
end

/-! ### the drawn numbers: the list at d, its cells at c -/
def Dice (d c : Addr) (H : Hp) : Prop := ∃ (cs : List Int) (i q s t : Int), H d = some (.lst [.ref c, .int i, .int q, .int s, .int t]) ∧ H c = some (.lst (cs.map V.int)) ∧ c ≠ d ∧ (∀ x ∈ cs, 0 ≤ x) ∧ 0 ≤ i ∧ 0 ≤ q ∧ 0 ≤ s ∧ s < 2147483648 ∧ 0 ≤ t
theorem Dice.fr {H H' : Hp} {d c : Addr} (D : Dice d c H) (f : Same H H') : Dice d c H' := by
  obtain ⟨cs, i, q, s, t, h1, h2, r⟩ := D
  exact ⟨cs, i, q, s, t, f _ _ h1, f _ _ h2, r⟩
theorem Dice.nd {H : Hp} {d c p : Addr} (D : Dice d c H) (n : H p = none) : p ≠ d := by
  obtain ⟨cs, i, q, s, t, h1, r⟩ := D
  exact (ne_of_none h1 n).symm
theorem Dice.nc {H : Hp} {d c p : Addr} (D : Dice d c H) (n : H p = none) : p ≠ c := by
  obtain ⟨cs, i, q, s, t, h1, h2, r⟩ := D
  exact (ne_of_none h2 n).symm
theorem Dice.tx {H H' : Hp} {d c : Addr} (D : Dice d c H) (f : Fr d H H') : Tx H H' := by
  obtain ⟨cs, i, q, s, t, h1, r⟩ := D
  exact f.tx h1
theorem Dice.new {H : Hp} {d c p : Addr} {o : HO} (D : Dice d c H) (n : H p = none) : Dice d c (L2.upd H p o) := D.fr (same_new n)
theorem Dice.put {H : Hp} {d c p : Addr} {o : HO} (D : Dice d c H) (n : p ≠ d) (n2 : p ≠ c) : Dice d c (L2.upd H p o) := by
  obtain ⟨cs, i, q, s, t, h1, h2, r⟩ := D
  exact ⟨cs, i, q, s, t, by rw [upd_ne n.symm]; exact h1, by rw [upd_ne n2.symm]; exact h2, r⟩
theorem mem_cutV {xs : List V} {lo hi : Option Int} {x : V} (h : x ∈ cutV xs lo hi) : x ∈ xs := List.mem_of_mem_drop (List.mem_of_mem_take h)
theorem cutV_int {ns : List Int} {lo hi : Option Int} {i : Nat} {x : V} (h : (cutV (ns.map V.int) lo hi)[i]? = some x) : ∃ z, x = .int z := by
  have := mem_cutV (List.mem_of_getElem? h)
  obtain ⟨z, _, e⟩ := List.mem_map.mp this
  exact ⟨z, e.symm⟩
theorem take_snoc {α : Type} {xs : List α} {i : Nat} {x : α} (h : xs[i]? = some x) : xs.take (i + 1) = xs.take i ++ [x] := by
  rw [List.take_add_one, h]; rfl
/-! ### list comprehensions -/
section
variable {J : It} {n : Nat} {G : Hp → Prop} {Y : Nat → Hp → V → Hp → Prop} {g : TG} {tt : TT} {te : TE} {vs : List Nat} {σ : L2.St} {H1 : Hp} {D : Addr} {Qd : Hp → Prop}
theorem lc_cps (w : Walk J n G Y) (R : Nat → Hp → List V → Prop) (h0 : R 0 (L2.upd H1 D (.lst [])) []) (hG : ∀ i H acc, i ≤ n → R i H acc → H D = some (.lst acc) → G H)
    (hs : ∀ i x H H' acc (C : V → Hp → Prop) (Cn : Hp → Prop), i < n → R i H acc → H D = some (.lst acc) → Y i H x H' →
      (∀ y H4, H4 D = some (.lst acc) → acc.length < sizeLine → R (i + 1) (L2.upd H4 D (.lst (acc ++ [y]))) (acc ++ [y]) → C y H4) → (∀ H3, H3 D = some (.lst acc) → R (i + 1) H3 acc → Cn H3) →
      g x (wipe σ vs) H' fun σ2 H2 => wipe σ2 vs = wipe σ vs ∧ tt σ2 H2 fun b H3 => if b = true then te σ2 H3 C else Cn H3)
    (hd : ∀ H acc, R n H acc → H D = some (.lst acc) → Qd H) :
    ∃ W : Nat → Nat → Hp → Prop, (∃ m, W 0 m (L2.upd H1 D (.lst []))) ∧ ∀ i m H, W i m H →
      (J.stop i H ∧ Qd H) ∨ (J.go i H ∧ ∃ Nx : Hp → Prop, (∀ H', Nx H' → ∃ m', m' < m ∧ W (i + 1) m' H') ∧ ∀ x H', J.yld i H x H' → g x (wipe σ vs) H' fun σ2 H2 => wipe σ2 vs = wipe σ vs ∧ tt σ2 H2 fun b H3 =>
        if b = true then te σ2 H3 fun y H4 => ∃ acc, H4 D = some (.lst acc) ∧ acc.length < sizeLine ∧ Nx (L2.upd H4 D (.lst (acc ++ [y]))) else Nx H3) :=
  lc_it w (fun i H => ∃ acc, H D = some (.lst acc) ∧ R i H acc) ⟨[], upd_same, h0⟩ (fun i H hi ⟨acc, e, r⟩ => hG i H acc hi r e)
    (fun i x H H' hi ⟨acc, e, r⟩ hy => hs i x H H' acc _ _ hi r e hy (fun y H4 e4 l r4 => ⟨acc, e4, l, _, upd_same, r4⟩) (fun H3 e3 r3 => ⟨acc, e3, r3⟩)) (fun H ⟨acc, e, r⟩ => hd H acc r e)
/-- nothing that stood is changed; what is made is told by the turn -/
theorem lc_same {H0 : Hp} (w : Walk J n G Y) (A : Nat → List V) (a0 : A 0 = []) (hl : ∀ i, i ≤ n → (A i).length < sizeLine) (hH : Same H0 H1) (nD : H0 D = none) (nD1 : H1 D = none) (hG : ∀ H, Same H1 H → G H)
    (hs : ∀ i x H H' (C : V → Hp → Prop) (Cn : Hp → Prop), i < n → Same H1 H → Y i H x H' → (∀ y H4, Same H H4 → A (i + 1) = A i ++ [y] → C y H4) → (∀ H3, Same H H3 → A (i + 1) = A i → Cn H3) →
      g x (wipe σ vs) H' fun σ2 H2 => wipe σ2 vs = wipe σ vs ∧ tt σ2 H2 fun b H3 => if b = true then te σ2 H3 C else Cn H3)
    (hd : ∀ H, Same H0 H → H D = some (.lst (A n)) → Qd H) :
    ∃ W : Nat → Nat → Hp → Prop, (∃ m, W 0 m (L2.upd H1 D (.lst []))) ∧ ∀ i m H, W i m H →
      (J.stop i H ∧ Qd H) ∨ (J.go i H ∧ ∃ Nx : Hp → Prop, (∀ H', Nx H' → ∃ m', m' < m ∧ W (i + 1) m' H') ∧ ∀ x H', J.yld i H x H' → g x (wipe σ vs) H' fun σ2 H2 => wipe σ2 vs = wipe σ vs ∧ tt σ2 H2 fun b H3 =>
        if b = true then te σ2 H3 fun y H4 => ∃ acc, H4 D = some (.lst acc) ∧ acc.length < sizeLine ∧ Nx (L2.upd H4 D (.lst (acc ++ [y]))) else Nx H3) := by
  refine lc_cps w (fun i H acc => Same H1 H ∧ acc = A i) ⟨same_new nD1, a0.symm⟩ (fun i H acc hi r e => hG H r.1) (fun i x H H' acc C Cn hi r e hy hC hN => ?_) (fun H acc r e => hd H (hH.trans r.1) (by rw [e, r.2]))
  obtain ⟨r1, rfl⟩ := r
  exact hs i x H H' C Cn hi r1 hy (fun y H4 s4 e4 => hC y H4 (s4 _ _ e) (hl i (by omega)) ⟨Same.put (r1.trans s4) nD1, e4.symm⟩) (fun H3 s3 e3 => hN H3 (s3 _ _ e) ⟨r1.trans s3, e3.symm⟩)
/-- data made at each turn, told by the turn -/
theorem lc_data {K : PySem.W.Frag} (w : Walk J n G Y) (A : Nat → List PyData) (a0 : A 0 = []) (hl : ∀ i, i ≤ n → (A i).length < sizeLine) (hi' : ∀ i, i ≤ n → imAll (A i) = true) (nD1 : H1 D = none) (hG : ∀ H, Same H1 H → G H)
    (hs : ∀ i x H H' (C : V → Hp → Prop) (Cn : Hp → Prop), i < n → Same H1 H → Y i H x H' → (∀ y e H4, Same H H4 → Dp K H4 y e → A (i + 1) = A i ++ [e] → C y H4) → (∀ H3, Same H H3 → A (i + 1) = A i → Cn H3) →
      g x (wipe σ vs) H' fun σ2 H2 => wipe σ2 vs = wipe σ vs ∧ tt σ2 H2 fun b H3 => if b = true then te σ2 H3 C else Cn H3)
    (hd : ∀ H xs, Same H1 H → H D = some (.lst xs) → DpAll K H xs (A n) → Qd H) :
    ∃ W : Nat → Nat → Hp → Prop, (∃ m, W 0 m (L2.upd H1 D (.lst []))) ∧ ∀ i m H, W i m H →
      (J.stop i H ∧ Qd H) ∨ (J.go i H ∧ ∃ Nx : Hp → Prop, (∀ H', Nx H' → ∃ m', m' < m ∧ W (i + 1) m' H') ∧ ∀ x H', J.yld i H x H' → g x (wipe σ vs) H' fun σ2 H2 => wipe σ2 vs = wipe σ vs ∧ tt σ2 H2 fun b H3 =>
        if b = true then te σ2 H3 fun y H4 => ∃ acc, H4 D = some (.lst acc) ∧ acc.length < sizeLine ∧ Nx (L2.upd H4 D (.lst (acc ++ [y]))) else Nx H3) := by
  refine lc_cps w (fun i H acc => Same H1 H ∧ DpAll K H acc (A i)) ⟨same_new nD1, by rw [a0]; exact .nil⟩ (fun i H acc hi r e => hG H r.1) (fun i x H H' acc C Cn hi r e hy hC hN => ?_) (fun H acc r e => hd H acc r.1 e r.2)
  obtain ⟨r1, r2⟩ := r
  refine hs i x H H' C Cn hi r1 hy (fun y ee H4 s4 dy e4 => hC y H4 (s4 _ _ e) (by rw [DpAll.len r2]; exact hl i (by omega)) ⟨Same.put (r1.trans s4) nD1, ?_⟩) (fun H3 s3 e3 => hN H3 (s3 _ _ e) ⟨r1.trans s3, by rw [e3]; exact Dp.sameAll s3 _ _ r2⟩)
  rw [e4]
  have im1 := hi' (i + 1) hi
  rw [e4] at im1
  exact Dp.txAll (Tx.lst (s4 _ _ e)) _ _ im1 (DpAll.snoc (Dp.sameAll s4 _ _ r2) dy)
/-- data drawn at each turn, all of one kind -/
theorem lc_draw {K : PySem.W.Frag} {d c : Addr} (w : Walk J n G Y) (PD : PyData → Prop) (hn : n < sizeLine) (him : ∀ e, PD e → im e = true) (nD1 : H1 D = none) (hD : Dice d c H1) (hG : ∀ H, Fr d H1 H → G H)
    (hs : ∀ i x H H' (C : V → Hp → Prop) (Cn : Hp → Prop), i < n → Fr d H1 H → Dice d c H → Y i H x H' → (∀ y e H4, Fr d H H4 → Dice d c H4 → Dp K H4 y e → PD e → C y H4) →
      g x (wipe σ vs) H' fun σ2 H2 => wipe σ2 vs = wipe σ vs ∧ tt σ2 H2 fun b H3 => if b = true then te σ2 H3 C else Cn H3)
    (hd : ∀ H xs ds, Fr d H1 H → Dice d c H → H D = some (.lst xs) → DpAll K H xs ds → ds.length = n → (∀ e ∈ ds, PD e) → Qd H) :
    ∃ W : Nat → Nat → Hp → Prop, (∃ m, W 0 m (L2.upd H1 D (.lst []))) ∧ ∀ i m H, W i m H →
      (J.stop i H ∧ Qd H) ∨ (J.go i H ∧ ∃ Nx : Hp → Prop, (∀ H', Nx H' → ∃ m', m' < m ∧ W (i + 1) m' H') ∧ ∀ x H', J.yld i H x H' → g x (wipe σ vs) H' fun σ2 H2 => wipe σ2 vs = wipe σ vs ∧ tt σ2 H2 fun b H3 =>
        if b = true then te σ2 H3 fun y H4 => ∃ acc, H4 D = some (.lst acc) ∧ acc.length < sizeLine ∧ Nx (L2.upd H4 D (.lst (acc ++ [y]))) else Nx H3) := by
  refine lc_cps w (fun i H acc => Fr d H1 H ∧ Dice d c H ∧ ∃ ds, DpAll K H acc ds ∧ ds.length = i ∧ ∀ e ∈ ds, PD e) ⟨Fr.new nD1, hD.new nD1, [], .nil, rfl, fun e h => by cases h⟩ (fun i H acc hi r e => hG H r.1) (fun i x H H' acc C Cn hi r e hy hC hN => ?_)
    (fun H acc ⟨r1, r2, ds, r3, r4, r5⟩ e => hd H acc ds r1 r2 e r3 r4 r5)
  obtain ⟨r1, r2, ds, r3, r4, r5⟩ := r
  refine hs i x H H' C Cn hi r1 r2 hy (fun y ee H4 f4 d4 dy pe => ?_)
  have e4 : H4 D = some (.lst acc) := f4 _ _ (hD.nd nD1) e
  refine hC y H4 e4 (by rw [DpAll.len r3]; omega) ⟨Fr.put (r1.trans f4) nD1, d4.put (hD.nd nD1) (hD.nc nD1), ds ++ [ee], ?_, by rw [List.length_append, r4]; rfl, fun e he => ?_⟩
  · have im1 : imAll (ds ++ [ee]) = true := (imAll_iff _).mpr fun z hz => by
      rcases List.mem_append.mp hz with hz | hz
      · exact him z (r5 z hz)
      · rw [List.mem_singleton.mp hz]; exact him _ pe
    have im0 : imAll ds = true := (imAll_iff _).mpr fun z hz => him z (r5 z hz)
    exact Dp.txAll (Tx.lst e4) _ _ im1 (DpAll.snoc (Dp.txAll (r2.tx f4) _ _ im0 r3) dy)
  · rcases List.mem_append.mp he with he | he
    · exact r5 e he
    · rw [List.mem_singleton.mp he]; exact pe
end

/-! ### whole numbers among all things -/
def IntK (K : PySem.W.Frag) (H : Hp) (v : V) (b : Bool) : Prop := ∃ (t : Value) (b1 b2 : Bool), TyX K H v t ∧ PySem.W.kitOne K t (.type "int") = some b1 ∧ PySem.W.kitOne K t (.type "bool") = some b2 ∧ b = (b1 && !b2)
theorem IntK.int {K : PySem.W.Frag} {H : Hp} (i : Int) : IntK K H (.int i) true := ⟨.type "int", true, false, .base (.int i), kit_ty (by decide +kernel), kit_ty (by decide +kernel), rfl⟩
/-- an integer i, or none -/
def Itm (K : PySem.W.Frag) (H : Hp) (v : V) : Option Int → Prop
  | some i => v = .int i
  | none => IntK K H v false
theorem g_isi {K : PySem.W.Frag} {H : Hp} {Q : VK} {x : V} {n : String} {t : Value} {b : Bool} (ty : TyX K H x t) (k : PySem.W.kitOne K t (.type n) = some b) (q : Q (.bl b) H) : rIsi K [x, .ty n] H Q := ⟨x, .ty n, t, .type n, b, rfl, .ty n, ty, k, q⟩
theorem kitAny2 {K : PySem.W.Frag} {t c c2 : Value} {b b2 : Bool} (h : PySem.W.kitOne K t c = some b) (h2 : PySem.W.kitOne K t c2 = some b2) : PySem.W.kitAny K t [c, c2] = some (b || b2) := by
  unfold PySem.W.kitAny
  rw [h]
  cases b with
  | true => rfl
  | false =>
    unfold PySem.W.kitAny
    rw [h2]
    cases b2 <;> rfl

theorem g_slA {K : PySem.W.Frag} {H : Hp} {Q : VK} {p : Addr} {xs : List V} {lo hi : Option Int} (h : SqT K H p xs) (q : ∀ p' H', Same H H' → SqT K H' p' (cutV xs lo hi) → Q (.ref p') H') : rSlA K (.ref p) lo hi H Q := by
  refine ⟨p, xs, rfl, h, fun hw => ?_, fun _ p' n' => q p' _ (same_new n') SqT.new⟩
  refine q p H (Same.refl H) ?_
  unfold cutV
  rw [hw.1, hw.2]
  simpa using h
theorem cutV1 (xs : List V) : cutV xs (some 1) none = xs.drop 1 := by
  unfold cutV
  rw [show HT.sIx xs.length 0 (some 1) = min 1 xs.length from HT.sIx_nat xs.length 0 1, HT.sIx_none]
  cases xs with
  | nil => rfl
  | cons x r =>
    rw [show min 1 (x :: r).length = 1 by
      rw [List.length_cons]
      omega]
    show (List.take ((x :: r).length - 1) r) = r
    rw [List.length_cons, Nat.add_sub_cancel]
    exact List.take_length
/-- rising along -/
def risesB : List Int → Bool
  | x :: y :: r => decide (x ≤ y) && risesB (y :: r)
  | _ => true
def zipUp (ns : List Int) : List Bool := (ns.zip (ns.drop 1)).map fun p => decide (p.1 ≤ p.2)
theorem risesB_zip : ∀ ns : List Int, risesB ns = (zipUp ns).all id
  | [] => rfl
  | [_] => rfl
  | x :: y :: r => by
    unfold risesB
    rw [risesB_zip (y :: r)]
    unfold zipUp
    simp
theorem risesB_of : ∀ {ns : List Int}, ns.Pairwise (· ≤ ·) → risesB ns = true
  | [], _ => rfl
  | [_], _ => rfl
  | x :: y :: r, h => by
    unfold risesB
    rw [List.pairwise_cons] at h
    rw [risesB_of h.2, decide_eq_true (h.1 y (by simp))]
    rfl
theorem zipUp_len (ns : List Int) : (zipUp ns).length = min ns.length (ns.drop 1).length := by
  unfold zipUp
  rw [List.length_map, List.length_zip]
theorem zipUp_at {ns : List Int} {i : Nat} {x y : Int} (h : ns[i]? = some x) (k : (ns.drop 1)[i]? = some y) : (zipUp ns)[i]? = some (decide (x ≤ y)) := by
  unfold zipUp
  rw [List.getElem?_map, (List.getElem?_zip_eq_some (z := (x, y))).mpr ⟨h, k⟩]
  rfl
theorem map_at {α β : Type} {f : α → β} {xs : List α} {i : Nat} {y : β} (h : (xs.map f)[i]? = some y) : ∃ x, xs[i]? = some x ∧ y = f x := by
  rw [List.getElem?_map] at h
  cases hz : xs[i]? with
  | none => rw [hz] at h; cases h
  | some z =>
    rw [hz] at h
    cases h
    exact ⟨z, rfl, rfl⟩

/-! ### the written part by its letter -/
def rLenS (K : PySem.W.Frag) : List V → Hp → VK → Prop := fun xs H Q => ∃ p ys, xs = [.ref p] ∧ (SqL K H p ys ∨ SqT K H p ys) ∧ Q (.int ys.length) H
def rTupOf (K : PySem.W.Frag) : List V → Hp → VK → Prop := fun xs H Q => ∃ p ys, xs = [.ref p] ∧ ((SqL K H p ys ∧ ∀ l, H l = none → Q (.ref l) (L2.upd H l (.tup ys))) ∨ (SqT K H p ys ∧ Q (.ref p) H))
def rLstOf (K : PySem.W.Frag) : List V → Hp → VK → Prop := fun xs H Q => ∃ p ys, xs = [.ref p] ∧ (SqL K H p ys ∨ SqT K H p ys) ∧ ∀ l, H l = none → Q (.ref l) (L2.upd H l (.lst ys))
section
variable {X : Cx} (K : PySem.W.Frag)
theorem kC {f : Value} {r : PySem.W.Frag → List V → Hp → VK → Prop} (h : X.K = K) (c : CallR X f (r X.K)) : CallR X f (r K) := h ▸ c
theorem kM {id : String} {r : PySem.W.Frag → V → List V → Hp → VK → Prop} (h : X.K = K) (c : MtR X id (r X.K)) : MtR X id (r K) := h ▸ c
theorem kO {f : Value → Value → Sem Value} {r : PySem.W.Frag → R2} (h : X.K = K) (c : OpR X f (r X.K)) : OpR X f (r K) := h ▸ c
theorem kI {r : PySem.W.Frag → R2} (h : X.K = K) (c : IxR X (r X.K)) : IxR X (r K) := h ▸ c
theorem kS {r : PySem.W.Frag → V → Option Int → Option Int → Hp → VK → Prop} (h : X.K = K) (c : SlR X (r X.K)) : SlR X (r K) := h ▸ c
theorem kLen (h : X.K = K) : CallR X (.builtin "len") (rLenS K) := kC K (r := rLenS) h call_len_seq
theorem kTupOf (h : X.K = K) : CallR X (.type "tuple") (rTupOf K) := kC K (r := rTupOf) h call_tuple_of
theorem kLstOf (h : X.K = K) : CallR X (.type "list") (rLstOf K) := kC K (r := rLstOf) h call_list_of
theorem kIsi (h : X.K = K) : CallR X (.builtin "isinstance") (rIsi K) := kC K (r := rIsi) h call_isi
theorem kIsiT (h : X.K = K) : CallR X (.builtin "isinstance") (rIsiT K) := kC K (r := rIsiT) h call_isiT
theorem kAll (hc : X.calm = true) (h : X.K = K) : CallR X (.builtin "all") (rAll K) := kC K (r := rAll) h (cr_all hc)
theorem kSorted (h : X.K = K) : CallR X (.builtin "sorted") (rSorted K) := kC K (r := rSorted) h cr_sorted
theorem kIxL (h : X.K = K) : IxR X (rIxL K) := kI K (r := rIxL) h ix_list
theorem kIxT (h : X.K = K) : IxR X (rIxT K) := kI K (r := rIxT) h ix_tup
theorem kSlL (h : X.K = K) : SlR X (rSlL K) := kS K (r := rSlL) h sl_list
theorem kSlA (h : X.K = K) : SlR X (rSlA K) := kS K (r := rSlA) h sl_tupA
theorem kCatA (h : X.K = K) : OpR X (binaryOp .Add) (rCatA K) := kO K (r := rCatA) h op_catA
theorem kEqD (h : X.K = K) (hu : X.A.units + 64 < cLine) : OpR X (compareOp .Eq) (rEqD K) := kO K (r := rEqD) h (op_eqD hu)
theorem kNeD (h : X.K = K) (hu : X.A.units + 64 < cLine) : OpR X (compareOp .NotEq) (rNeD K) := kO K (r := rNeD) h (op_neD hu)
theorem kIn (h : X.K = K) : OpR X (compareOp .In) (rIn K false) := kO K (r := fun K => rIn K false) h op_in_seq
theorem kNotIn (h : X.K = K) : OpR X (compareOp .NotIn) (rIn K true) := kO K (r := fun K => rIn K true) h op_notIn_seq
theorem kiList {tg l : Expr} {tl : TE} (h : X.K = K) (hl : PE X l tl) : PI X tg l (iList K tl) := h ▸ pi_list hl
theorem kiTup {tg l : Expr} {tl : TE} (h : X.K = K) (hl : PE X l tl) : PI X tg l (iTup K tl) := h ▸ pi_tup hl
theorem kpFld {e : Expr} {f : Str} {ta : TE} {pos : Pos} (h : X.K = K) (he : PE X e ta) (hb : attributeBase e f X.env (eval e X.env) = eval e X.env) : PE X (.Attribute e f pos) (tFld K ta f) := h ▸ pe_fld he hb
theorem kiZip {e e2 : Expr} {ta : TA} {p pos tpos : Pos} {elts : List Expr} {kk : Nat} (h : X.K = K) (hg : Gl X "zip") (hm : X.mg "zip" = none) (ha : PA X [e, e2] ta)
    (hs : starEach [e, e2] X.env = (false, eval e X.env) :: starEach [e2] X.env := by rfl) (hpl : (backTo pos (starEach [e2] X.env)).any (·.1) = false := by rfl) :
    PI X (.Tuple elts kk tpos) (.Call (.Name "zip" p) [e, e2] [] pos) (RZ.iZipA K ta) := h ▸ RZ.pi_zipA hg hm ha hs hpl
theorem kiEnum {e : Expr} {ta : TA} {p pos tpos : Pos} {elts : List Expr} {kk : Nat} (h : X.K = K) (hg : Gl X "enumerate") (hm : X.mg "enumerate" = none) (ha : PA X [e] ta) (hs : starEach [e] X.env = [(false, eval e X.env)] := by rfl) :
    PI X (.Tuple elts kk tpos) (.Call (.Name "enumerate" p) [e] [] pos) (iEnum K ta) := h ▸ pi_enum hg hm ha hs
theorem kgTup {es : List Expr} {k : Nat} {t : TGs} {n : Nat} {pos : Pos} (h : X.K = K) (hc : X.calm = true) (ht : PGs X es t)
    (hn : (assignEach es X.env).length = n := by rfl) (hst : (assignEach es X.env).findIdx? (·.1) = none := by rfl) : PG X (.Tuple es k pos) (gTup K n t) := h ▸ pg_tup hc ht hn hst
end
theorem filt1 {α : Type} {p : α → Bool} {z : α} (h : p z = true) : [z].filter p = [z] := by simp [h]
theorem filt0 {α : Type} {p : α → Bool} {z : α} (h : ¬ p z = true) : [z].filter p = [] := by simp [h]
end Pf
namespace Pf
open PySem PySem.Spec PyProof.Rows L2
theorem canLay_ints : ∀ ns : List Int, PyData.canLayAll0 (ns.map PyData.int) = true
  | [] => rfl
  | _ :: r => by
    show (PyData.canLay0 (.int _) && PyData.canLayAll0 (r.map PyData.int)) = true
    rw [canLay_ints r]
    rfl
theorem depth_ints : ∀ ns : List Int, PyData.depthAll (ns.map PyData.int) = 0
  | [] => rfl
  | _ :: r => by
    show max (PyData.depth (.int _)) (PyData.depthAll (r.map PyData.int)) = 0
    rw [depth_ints r]
    rfl
theorem shaped_tupI (ns : List Int) : SeqAt.shaped (tupI ns) = true := by
  unfold SeqAt.shaped
  rw [Bool.and_eq_true]
  refine ⟨canLay_ints ns, decide_eq_true ?_⟩
  show PyData.depthAll (ns.map PyData.int) + 1 ≤ 64
  rw [depth_ints]
  decide
theorem eqv_ints : ∀ ns ms : List Int, PyData.eqvAll (ns.map PyData.int) (ms.map PyData.int) = decide (ns = ms)
  | [], [] => rfl
  | [], _ :: _ => rfl
  | _ :: _, [] => rfl
  | x :: r, y :: q => by
    show ((x == y) && PyData.eqvAll (r.map PyData.int) (q.map PyData.int)) = _
    rw [eqv_ints r q, Bool.eq_iff_iff]
    simp
theorem eqv_tupI (ns ms : List Int) : PyData.eqv (tupI ns) (tupI ms) = decide (ns = ms) := eqv_ints ns ms
theorem atI_snoc {cs : List Int} {z : Int} (h : cs.getLast? = some z) : atI (cs.map V.int) (-1) = some (.int z) := by
  have hl : cs ≠ [] := fun e => by rw [e] at h; cases h
  have e : cs = cs.dropLast ++ [cs.getLast hl] := (List.dropLast_concat_getLast hl).symm
  have ez : cs.getLast hl = z := by
    rw [List.getLast?_eq_getLast hl] at h
    exact Option.some.inj h
  rw [e, ez, List.map_append]
  exact atI_last _ _
theorem g_catA {K : PySem.W.Frag} {H : Hp} {Q : VK} {a b : Addr} {xs ys : List V} (ha : SqT K H a xs) (hb : SqT K H b ys) (hl : xs.length + ys.length ≤ sizeLine) (q : ∀ p H', Same H H' → SqT K H' p (xs ++ ys) → Q (.ref p) H') : rCatA K (.ref a) (.ref b) H Q :=
  ⟨a, b, xs, ys, rfl, rfl, ha, hb, hl, fun e => by subst e; exact q b H (Same.refl H) hb, fun _ e => by subst e; exact q a H (Same.refl H) (by simpa using ha), fun _ _ p np => q p _ (same_new np) SqT.new⟩
theorem dec_ite {c : Prop} [Decidable c] {A B : Prop} {b : Bool} (e : b = decide c) (h1 : c → A) (h2 : ¬ c → B) : if b = true then A else B := by
  subst e
  exact g_ite h1 h2
theorem walk_rng0 {n : Nat} : Walk (Itr 0 n) n (fun _ => True) (fun i H x H' => H' = H ∧ x = .int ((i : Nat) : Int)) :=
  walk_range.mono (fun _ h => h) fun i H x H' _ _ h => ⟨h.1, by rw [h.2]; show V.int (0 + (i : Int)) = _; rw [Int.zero_add]⟩
end Pf
namespace Pf
open PySem PySem.Spec PyProof.Rows L2
theorem ksFld {X : Cx} (K : PySem.W.Frag) {o value : Expr} {f : Str} {ta tv : TE} {pos pos' : Pos} (h : X.K = K) (ha : PE X o ta) (hv : PE X value tv) (hs : swapsWith value (some (.Attribute o f pos')) pos.line X.env = pure false) : PS X (.Assign [.Attribute o f pos'] value pos) (sFld K ta tv f) := h ▸ ps_fld ha hv hs
end Pf

namespace Pf
open PySem PySem.Spec PyProof.Rows L2
theorem g_sfld {K : PySem.W.Frag} {σ : L2.St} {H : Hp} {D : Ends} {ta tv : TE} {f : Str} (q : tv σ H fun y H1 => ta σ H1 fun x H2 => ∃ a C dx fs, x = .ref a ∧ H2 a = some (.ins C dx fs) ∧ Cls K C ∧ NoAttr K C f ∧ fs.length < 1000 ∧ D.nx σ (L2.upd H2 a (.ins C dx (putF f y fs)))) : sFld K ta tv f D σ H := q
theorem g_fld {K : PySem.W.Frag} {σ : L2.St} {H : Hp} {Q : VK} {ta : TE} {f : Str} (q : ta σ H fun x H1 => ∃ a C dx fs v, x = .ref a ∧ H1 a = some (.ins C dx fs) ∧ Cls K C ∧ NoAttr K C f ∧ fs.lookup f = some v ∧ Q v H1) : tFld K ta f σ H Q := q
theorem g_make {C : Addr} {sp : Sp} {dvs : List V} {E : XK} {t : TA} {σ : L2.St} {H : Hp} {Q : VK} (q : t σ H fun vs H1 => ∀ x dx, H1 x = none → H1 dx = none → dx ≠ x →
  sp (.ref x :: (vs ++ dvs)) (L2.upd (L2.upd H1 dx (.own x)) x (.ins C dx [])) (fun v H2 => v = .non ∧ Q (.ref x) H2) E) : tMake C sp dvs E t σ H Q := q
theorem g_lstRg {te : L2.St → Hp → (Int → Int → Hp → Prop) → Prop} {σ : L2.St} {H : Hp} {Q : VK} (q : te σ H fun a b H1 => RgOk a b ∧ ∀ q, H1 q = none → Q (.ref q) (L2.upd H1 q (.lst (rgV a b)))) : tLstRg te σ H Q := q
theorem g_tupRg {te : L2.St → Hp → (Int → Int → Hp → Prop) → Prop} {σ : L2.St} {H : Hp} {Q : VK} (q : te σ H fun a b H1 => RgOk a b ∧ ∀ q, H1 q = none → Q (.ref q) (L2.upd H1 q (.tup (rgV a b)))) : tTupRg te σ H Q := q
theorem g_rg1 {ta : TE} {σ : L2.St} {H : Hp} {Q : Int → Int → Hp → Prop} (q : ta σ H fun x H1 => ∃ n, x = .int n ∧ Q 0 n H1) : tRg1 ta σ H Q := q
end Pf

--BODY
namespace Pf
open PySem PySem.Spec PyProof.Rows L2
/-! ### enumerate of a tuple -/
/-- the iterator's cell of a tuple -/
abbrev tupIt (p : Addr) : Obj := { cls := .type "tuple_iterator", data := .fields #[.ref p, .int 0 0] }
/-- the cell of an enumerate over the iterator at i -/
abbrev enumO (i : Addr) : Obj := { cls := .type "enumerate", data := .fields #[.none, .bool false, .ref i, rawInt 0, .none, .none] }
theorem newEnumT (p : Addr) (xs : Array Value) :
    Meets (Builtin.«enumerate.__new__» ⟨[.type "enumerate", .ref p], []⟩)
      (fun _ R s => s.heap.IsTuple p xs ∧
        R (.ok (.ret (.ref (s.heap.push (tupIt p)).objs.size)))
          { s with heap := (s.heap.push (tupIt p)).push (enumO s.heap.objs.size) }) :=
  .of_wp fun pr wo AA R s0 hh => by
    obtain ⟨hp, gg, dd, tt, oo⟩ := s0
    obtain ⟨ht, hR⟩ := hh
    have hsu := sub_enumerate
    have it1 : ∀ {A' : Around} {E : Value → Shared → Prop} {Q : Value → Shared → Prop},
        Q (.ref hp.objs.size) ⟨hp.push (tupIt p), gg, dd, tt, oo⟩ → wpAny (model pr wo) A' (pyIter (.ref p)) Q E ⟨hp, gg, dd, tt, oo⟩ :=
      fun q => (begins_tuple p xs).iter pr wo _ _ ⟨hp, gg, dd, tt, oo⟩ _ ht q
    wp_walk using it1
    refine wpAny_stack_any fun _ => wpAny_pure ?_
    split
    · rename_i cc _ _ _ _ _
      cases (cc == Value.type "enumerate")
      · wp_walk using it1
        exact ⟨_, rfl, hR⟩
      · wp_walk using it1
        exact ⟨_, rfl, hR⟩
    · wp_walk using it1
      exact ⟨_, rfl, hR⟩
theorem callEnumT {pr : Program} {wo : World} {AA : Around} {E : Value → Shared → Prop} {s : Shared} {p : Addr} {xs : Array Value} {Q : Value → Shared → Prop} (ht : s.heap.IsTuple p xs)
    (h : ∀ h', IsEnum h' (s.heap.objs.size + 1) s.heap.objs.size 0 .none → h'.IsTupleIter s.heap.objs.size p 0 → h'.objs.size = s.heap.objs.size + 2 →
      (∀ b o, s.heap.get? b = some o → h'.get? b = some o) → Q (.ref (s.heap.objs.size + 1)) { s with heap := h' }) :
    wpAny (model pr wo) AA (call (.type "enumerate") [.ref p]) Q E s := by
  refine callType_new F.called_enumerate (by decide) (F.typeCall_enumerate_1 _) (F.newCall_enumerate_1 _)
    (fun ob => F.args_object_init_2 ob _) F.entry_enumerate_new (newEnumT p xs) ⟨ht, ?_⟩
  have hz : (s.heap.push (tupIt p)).objs.size = s.heap.objs.size + 1 := Heap.size_push ..
  show _ ∧ _
  rw [hz]
  have he : IsEnum ((s.heap.push (tupIt p)).push (enumO s.heap.objs.size)) (s.heap.objs.size + 1) s.heap.objs.size 0 .none := by
    have e1 := Heap.get?_push_size (s.heap.push (tupIt p)) (o := enumO s.heap.objs.size) rfl
    rw [hz] at e1
    exact e1
  exact ⟨⟨_, he, rfl⟩, h _ he ⟨_, Heap.get?_push_of_some _ (Heap.get?_push_size _ rfl), rfl, rfl⟩ (by rw [Heap.size_push, hz])
    fun b o z => Heap.get?_push_of_some _ (Heap.get?_push_of_some _ z)⟩
/-- the tuple at p as it stands at each turn, each item in a new pair -/
def IteT (K : PySem.W.Frag) (p : Addr) : It where
  go := fun i H => ∃ (xs : List V) (x : V), SqT K H p xs ∧ xs[i]? = some x
  yld := fun i H v H' => ∃ T x, v = .ref T ∧ H T = none ∧ H' = L2.upd H T (.tup [.int (i : Nat), x]) ∧ ∀ xs, SqT K H p xs → xs[i]? = some x
  stop := fun i H => ∃ xs : List V, SqT K H p xs ∧ xs.length = i
end Pf
namespace Pf
open PySem PySem.Spec PyProof.Rows L2
theorem turnEnumT {P : Program} {w : World} {K : PySem.W.Frag} {es : List Expr} {kk : Nat} {tp : Pos} (p e it : Addr) (hp : p ≠ it) (hpe : p ≠ e) :
    Turn P w K (.Tuple es kk tp) (IteT K p) [e, it] e
      (fun i h => (∃ old, IsEnum h e it ((i : Nat) : Int) old) ∧ h.IsTupleIter it p i ∧ e ≠ it) where
  mem := List.mem_cons_self ..
  obj := fun i h st b hb => by
    obtain ⟨⟨old, e1⟩, ⟨o, e2, _, e3⟩, _⟩ := st
    rcases List.mem_cons.mp hb with rfl | hb
    · exact ⟨_, e1, fun v z => nomatch z⟩
    · rw [List.mem_singleton.mp hb]
      exact ⟨o, e2, fun v z => by rw [e3] at z; cases z⟩
  keep := fun i h h' st k =>
    let ⟨⟨old, e1⟩, e2, n⟩ := st
    ⟨⟨old, k e (List.mem_cons_self ..) _ e1⟩, e2.at fun o z => k it (by simp) o z, n⟩
  item := by
    intro X hP hw hK hc i pins s σ H E I hf st hg
    subst hP hw hK
    obtain ⟨⟨old, e1⟩, e2, ne⟩ := st
    obtain ⟨xs, x, hq, hx⟩ := hg
    obtain ⟨its, rv, pt, _⟩ := I.tuple hq
    obtain ⟨u, hu, ru⟩ := rv.get hx
    have l1 : e < s.heap.objs.size := Heap.lt_size e1
    have l2 : it < s.heap.objs.size := by
      obtain ⟨_, z, _⟩ := e2
      exact Heap.lt_size z
    have hn : e ∉ [it, p] := fun z => by
      rcases List.mem_cons.mp z with z | z
      · exact ne z
      · exact hpe (List.mem_singleton.mp z).symm
    have hu2 : its.toArray[i]? = some u := by simpa using hu
    have li : i < its.toArray.size := (Array.getElem?_eq_some_iff.mp hu2).1
    refine wpAny_pyNext_enum_itemD (Draws.tuple (show X.A.in1.handled = none from I.ok.hd hc) it p hp its.toArray) e1 ⟨e2, pt⟩ li ne hn fun y h' tk hy ho hit' hT hsz hk => ?_
    have ey : y = u := Option.some.inj (hy.symm.trans hu2)
    subst ey
    refine ⟨_, rfl, wpAny_letOwnedTupleGo_enum (s := { s with heap := h', toks := tk + 1 }) ho fun h2 he2 sb => ?_⟩
    have hT2 : h2.get? s.heap.objs.size = some { cls := .type "tuple", data := .seq #[.int i tk, y] } := (sb.2 _ (Nat.ne_of_gt l1)).trans hT
    have nw : ObjOk X.prog X.w (L2.upd H s.heap.objs.size (.tup [.int (i : Nat), x])) h2 s.heap.objs.size (.tup [.int (i : Nat), x]) :=
      ⟨by show 2 ≤ sizeLine; decide, [.int i tk, y], .cons ⟨_, rfl⟩ (.cons ru .nil), ⟨_, hT2, rfl, _, rfl⟩⟩
    have I1 : Inv X pins σ (L2.upd H s.heap.objs.size (.tup [.int (i : Nat), x])) { s with heap := h2, toks := tk + 1 } :=
      I.turnedNew (ch := [e, it]) (fun b o hb z => (sb.2 b (fun q => hb (by simp [q]))).trans (hk b o (fun q => hb (by simp [q])) (fun q => hb (by simp [q])) z)) hf (Nat.le_refl _) nw
    refine ⟨.ref s.heap.objs.size, _, I1, rfl, ⟨_, x, rfl, I.hok.fresh (Nat.le_refl _), rfl, fun ys hy => by rw [I.tuple_inj hy hq]; exact hx⟩,
      ⟨⟨y, ?_⟩, hit'.1.at fun o z => (sb.2 it (Ne.symm ne)).trans z, ne⟩, fun b hb => ?_⟩
    · rw [show ((i + 1 : Nat) : Int) = (i : Int) + 1 by omega]
      exact he2
    · have lb : b < s.heap.objs.size := by
        rcases List.mem_cons.mp hb with rfl | hb
        · exact l1
        · rw [List.mem_singleton.mp hb]; exact l2
      rw [upd_ne (Nat.ne_of_lt lb)]
      exact (hf b hb).1
  done := by
    intro X hP hw hK hc i pins s σ H E I hf st hg
    subst hP hw hK
    obtain ⟨⟨old, e1⟩, e2, ne⟩ := st
    obtain ⟨xs, hq, hx⟩ := hg
    obtain ⟨its, rv, pt, _⟩ := I.tuple hq
    obtain ⟨f0, f1, f2, f3, f4, f5⟩ := hf it (by simp)
    have lr := rv.length
    have hs : its.toArray.size = i := by
      rw [List.size_toArray]
      omega
    subst hs
    exact wpAny_pyNext_enum_endD (Draws.tuple (show X.A.in1.handled = none from I.ok.hd hc) it p hp its.toArray) e1 ⟨e2, pt⟩
      fun h' eb => ⟨rfl, I.turned (t' := s.toks) (fun b o hb z => eb b o hb z) f0 f1 f3 f4 f5⟩
  self := fun A i s Q E st h => let ⟨⟨_, z⟩, _⟩ := st; wpAny_pyIter_enum z h

/-- enumerate of a list or of a tuple -/
def iEnumA (K : PySem.W.Frag) (ta : TA) : TI := fun σ H R => ta σ H fun vs H1 => ∃ p xs, vs = [.ref p] ∧ ((SqL K H1 p xs ∧ R (Ite K p) H1) ∨ (SqT K H1 p xs ∧ R (IteT K p) H1))
theorem pi_enumT {X : Cx} {e : Expr} {ta : TA} {p pos tp : Pos} {es : List Expr} {kk : Nat} (hg : Gl X "enumerate") (hm : X.mg "enumerate" = none) (ha : PA X [e] ta)
    (hs : starEach [e] X.env = [(false, eval e X.env)] := by rfl) :
    PI X (.Tuple es kk tp) (.Call (.Name "enumerate" p) [e] [] pos) (fun σ H R => ta σ H fun vs H1 => ∃ p xs, vs = [.ref p] ∧ SqT X.K H1 p xs ∧ R (IteT X.K p) H1) := by
  refine ⟨fun pins s σ H R I h => Call_ (ld_blt I hg hm boot_enumerate (PyProof.Rows.callWith_type1 (thn (ha.run pos pins s σ H _ I h) fun us s1 ⟨vs, H1, I1, r1, q1⟩ => ?_) hs rfl))⟩
  obtain ⟨q, xs, ex, hq, hR⟩ := q1
  subst ex
  cases r1 with
  | cons r rr =>
    cases rr
    cases r
    obtain ⟨its, rv, pt, _⟩ := I1.tuple hq
    obtain ⟨ot, et, _⟩ := id pt
    have lq : q < s1.heap.objs.size := Heap.lt_size et
    refine callEnumT pt fun h' he hit hsz hk => wpAny_pyIter_enum he ?_
    have I2 : Inv X pins σ H1 { s1 with heap := h' } := I1.kept (t' := s1.toks) hk
    refine ⟨s1.heap.objs.size + 1, [s1.heap.objs.size + 1, s1.heap.objs.size], _, _, H1, rfl, I2,
      turnEnumT q (s1.heap.objs.size + 1) s1.heap.objs.size (Nat.ne_of_lt lq) (Nat.ne_of_lt (Nat.lt_succ_of_lt lq)), ⟨⟨.none, he⟩, hit, Nat.succ_ne_self _⟩, fun b hb => ?_, hR⟩
    have lb : s1.heap.objs.size ≤ b := by
      rcases List.mem_cons.mp hb with rfl | hb
      · omega
      · rw [List.mem_singleton.mp hb]; exact Nat.le_refl _
    exact I1.fpOk lb (I1.hok.fresh lb)
theorem kiEnumT {X : Cx} (K : PySem.W.Frag) {e : Expr} {ta : TA} {p pos tp : Pos} {es : List Expr} {kk : Nat} (h : X.K = K) (hg : Gl X "enumerate") (hm : X.mg "enumerate" = none) (ha : PA X [e] ta)
    (hs : starEach [e] X.env = [(false, eval e X.env)] := by rfl) :
    PI X (.Tuple es kk tp) (.Call (.Name "enumerate" p) [e] [] pos) (fun σ H R => ta σ H fun vs H1 => ∃ p xs, vs = [.ref p] ∧ SqT K H1 p xs ∧ R (IteT K p) H1) := h ▸ pi_enumT hg hm ha hs
theorem walk_enumT {K : PySem.W.Frag} {p : Addr} {xs : List V} : Walk (IteT K p) xs.length (fun H => SqT K H p xs) (YPair (fun i => some (.int (i : Nat))) (fun i => xs[i]?)) where
  goes := fun i H hi q => ⟨xs, xs[i], q, List.getElem?_eq_getElem hi⟩
  stops := fun H q => ⟨xs, q, rfl⟩
  yields := fun i H x H' hi q ⟨T, y, e, nT, e2, f⟩ => ⟨T, .int (i : Nat), y, e, nT, e2, rfl, f xs q⟩
end Pf
namespace Pf
open PySem PySem.Spec PyProof.Rows L2
/-! ### rows, logs, doings as data -/
abbrev Row := Int × Int × Bool
def rowD (r : Row) : PyData := .tuple [.int r.1, .int r.2.1, .bool r.2.2]
def rowsD (rs : List Row) : PyData := .tuple (rs.map rowD)
def flagsD (fs : List Bool) : PyData := .tuple (fs.map PyData.bool)
def GoodRow (n : Int) (r : Row) : Prop := 0 ≤ r.1 ∧ r.1 < n ∧ 0 ≤ r.2.1 ∧ r.2.1 < n ∧ (r.2.1 = r.1 + 1 ∨ r.2.1 = r.1 - 1)
theorem im_rowD (r : Row) : im (rowD r) = true := rfl
theorem imAll_map {α : Type} {f : α → PyData} (h : ∀ x, im (f x) = true) (xs : List α) : imAll (xs.map f) = true := (imAll_iff _).mpr fun e he => by
  obtain ⟨x, _, rfl⟩ := List.mem_map.mp he
  exact h x
theorem im_rowsD (rs : List Row) : im (rowsD rs) = true := imAll_map im_rowD rs
theorem im_flagsD (fs : List Bool) : im (flagsD fs) = true := imAll_map (f := PyData.bool) (fun _ => rfl) fs
theorem of_row {K : PySem.W.Frag} {H : Hp} {v : V} {r : Row} (h : Dp K H v (rowD r)) : ∃ p, v = .ref p ∧ SqT K H p [.int r.1, .int r.2.1, .bl r.2.2] := by
  unfold rowD at h
  cases h with
  | tup q a =>
    cases a with
    | cons a1 a2 =>
      cases a2 with
      | cons a3 a4 =>
        cases a4 with
        | cons a5 a6 =>
          cases a6
          cases a1; cases a3; cases a5
          exact ⟨_, rfl, q⟩
theorem dp_row {K : PySem.W.Frag} {H : Hp} {p : Addr} {r : Row} (h : SqT K H p [.int r.1, .int r.2.1, .bl r.2.2]) : Dp K H (.ref p) (rowD r) := .tup h (.cons (.int _) (.cons (.int _) (.cons (.bl _) .nil)))
theorem of_tup {K : PySem.W.Frag} {H : Hp} {v : V} {ds : List PyData} (h : Dp K H v (.tuple ds)) : ∃ p xs, v = .ref p ∧ SqT K H p xs ∧ DpAll K H xs ds := by
  cases h with
  | tup q a => exact ⟨_, _, rfl, q, a⟩
theorem dpAll_flags {K : PySem.W.Frag} {H : Hp} : ∀ fs : List Bool, DpAll K H (fs.map V.bl) (fs.map PyData.bool)
  | [] => .nil
  | b :: r => .cons (.bl b) (dpAll_flags r)
theorem dpAll_flags_eq {K : PySem.W.Frag} {H : Hp} : ∀ {fs : List Bool} {vs : List V}, DpAll K H vs (fs.map PyData.bool) → vs = fs.map V.bl
  | [], _, .nil => rfl
  | b :: r, _, .cons p q => by
    cases p
    rw [dpAll_flags_eq q]
    rfl
theorem of_flags {K : PySem.W.Frag} {H : Hp} {v : V} {fs : List Bool} (h : Dp K H v (flagsD fs)) : ∃ p, v = .ref p ∧ SqT K H p (fs.map V.bl) := by
  obtain ⟨p, xs, rfl, q, a⟩ := of_tup h
  rw [dpAll_flags_eq a] at q
  exact ⟨p, rfl, q⟩
theorem dp_flags {K : PySem.W.Frag} {H : Hp} {p : Addr} {fs : List Bool} (h : SqT K H p (fs.map V.bl)) : Dp K H (.ref p) (flagsD fs) := .tup h (dpAll_flags fs)
/-- a log of n offices with the rows rs, of the class at C -/
def LogAt (K : PySem.W.Frag) (C : Addr) (H : Hp) (v : V) (n : Int) (rs : List Row) : Prop := ∃ a dx p, v = .ref a ∧ H a = some (.ins C dx [("offices", .int n), ("rows", .ref p)]) ∧ Dp K H (.ref p) (rowsD rs)
theorem LogAt.tx {K : PySem.W.Frag} {C : Addr} {H H' : Hp} {v : V} {n : Int} {rs : List Row} (h : LogAt K C H v n rs) (t : Tx H H') : LogAt K C H' v n rs := by
  obtain ⟨a, dx, p, rfl, e, d⟩ := h
  exact ⟨a, dx, p, rfl, t _ _ e (fun z w => by cases w), Dp.tx t _ _ (im_rowsD rs) d⟩
def GoodLog (n : Int) (rs : List Row) : Prop := 1 ≤ n ∧ n ≤ 12 ∧ rs.length ≤ 60 ∧ ∀ r ∈ rs, GoodRow n r
/-- a log that may have been returned: rows of any number -/
def AnyLog (n : Int) (rs : List Row) : Prop := 1 ≤ n ∧ n ≤ 12 ∧ rs.length ≤ 100000 ∧ ∀ r ∈ rs, GoodRow n r
theorem map_get {α β : Type} {f : α → β} {xs : List α} {i : Nat} {x : α} (h : xs[i]? = some x) : (xs.map f)[i]? = some (f x) := by rw [List.getElem?_map, h]; rfl
end Pf
namespace Pf
open PySem PySem.Spec PyProof.Rows L2
/-! ### sheets led over rows -/
theorem rising_range {f : Nat → Int} {n : Nat} (h : ∀ i j, i ≤ j → j < n → f i ≤ f j) : ((List.range n).map f).Pairwise (· ≤ ·) := by
  rw [List.pairwise_iff_getElem]
  intro i j hi hj hij
  have hj' : j < n := by simpa using hj
  simp only [List.getElem_map, List.getElem_range]
  exact h i j (by omega) hj'
def firstSt (n : Int) : List Int := (List.range n.toNat).map fun (i : Nat) => (i : Int)
def stepR (hs : List Int) (r : Row) (f : Bool) : List Int := if f = true then hs.set r.1.toNat (hs.getD r.2.1.toNat 0) else hs
def stAt (n : Int) (rs : List Row) (fs : List Bool) (i : Nat) : List Int := ((rs.zip fs).take i).foldl (fun h p => stepR h p.1 p.2) (firstSt n)
def allSt (n : Int) (rs : List Row) (fs : List Bool) : List PyData := (List.range (rs.length + 1)).map fun i => tupI (stAt n rs fs i)
theorem st_succ {n : Int} {rs : List Row} {fs : List Bool} {i : Nat} {r : Row} {f : Bool} (h : rs[i]? = some r) (k : fs[i]? = some f) : stAt n rs fs (i + 1) = stepR (stAt n rs fs i) r f := by
  unfold stAt
  rw [take_snoc ((List.getElem?_zip_eq_some (z := (r, f))).mpr ⟨h, k⟩), List.foldl_append]
  rfl
/-- sheets of n offices: they never fall -/
def GoodSt (n : Int) (hs : List Int) : Prop := (hs.length : Int) = n ∧ (∀ x ∈ hs, 0 ≤ x ∧ x < n) ∧ hs.Pairwise (· ≤ ·)
theorem firstSt_len (n : Int) : (firstSt n).length = n.toNat := by unfold firstSt; simp
theorem first_good {n : Int} (h : 0 ≤ n) : GoodSt n (firstSt n) := by
  refine ⟨by rw [firstSt_len]; omega, fun x hx => ?_, ?_⟩
  · obtain ⟨i, hi, rfl⟩ := List.mem_map.mp hx
    have := List.mem_range.mp hi
    omega
  · exact rising_range fun i j hij _ => by omega
theorem getD_of {hs : List Int} {i : Nat} {z : Int} (h : hs[i]? = some z) : hs.getD i 0 = z := by
  rw [List.getD_eq_getElem?_getD, h]; rfl
theorem set_good {n : Int} {hs : List Int} (h : GoodSt n hs) {x y : Nat} (hx : (x : Int) < n) (hy : (y : Int) < n) (hn : y = x + 1 ∨ x = y + 1) : GoodSt n (hs.set x (hs.getD y 0)) := by
  obtain ⟨h1, h2, h3⟩ := h
  have hyl : y < hs.length := by omega
  have e : hs.getD y 0 = hs[y] := getD_of (List.getElem?_eq_getElem hyl)
  rw [e]
  refine ⟨by rw [List.length_set]; exact h1, fun z hz => ?_, ?_⟩
  · rcases List.mem_or_eq_of_mem_set hz with hz | hz
    · exact h2 z hz
    · rw [hz]; exact h2 _ (List.getElem_mem hyl)
  · rw [List.pairwise_iff_getElem] at h3 ⊢
    intro i j hi hj hij
    rw [List.length_set] at hi hj
    rw [List.getElem_set, List.getElem_set]
    split
    · rename_i e1
      subst e1
      rw [if_neg (by omega)]
      by_cases q : y = j
      · subst q; exact Int.le_refl _
      · exact h3 y j hyl hj (by omega)
    · split
      · rename_i e1 e2
        subst e2
        by_cases q : i = y
        · subst q; exact Int.le_refl _
        · exact h3 i y hi hyl (by omega)
      · exact h3 i j hi hj hij
theorem step_good {n : Int} {hs : List Int} (h : GoodSt n hs) {r : Row} (g : GoodRow n r) (f : Bool) : GoodSt n (stepR hs r f) := by
  unfold stepR
  obtain ⟨g1, g2, g3, g4, g5⟩ := g
  split
  · exact set_good h (by omega) (by omega) (by omega)
  · exact h
theorem st_good {n : Int} (hn : 0 ≤ n) {rs : List Row} {fs : List Bool} (hg : ∀ r ∈ rs, GoodRow n r) (hl : fs.length = rs.length) : ∀ i, i ≤ rs.length → GoodSt n (stAt n rs fs i)
  | 0, _ => first_good hn
  | i + 1, h => by
    have hi : i < rs.length := by omega
    have hf : i < fs.length := by omega
    rw [st_succ (List.getElem?_eq_getElem hi) (List.getElem?_eq_getElem hf)]
    exact step_good (st_good hn hg hl i (by omega)) (hg _ (List.getElem_mem hi)) _
theorem rgV_first (n : Int) : rgV 0 n = (firstSt n).map V.int := by
  unfold rgV firstSt
  rw [List.map_map, Int.sub_zero]
  refine List.map_congr_left fun i _ => ?_
  show V.int (0 + (i : Int)) = V.int (i : Int)
  rw [Int.zero_add]
theorem atI_lastG {α : Type} {xs : List α} {v : α} (h : xs[xs.length - 1]? = some v) : atI xs (-1) = some v := by
  have hl : xs ≠ [] := fun e => by rw [e] at h; cases h
  have e : xs = xs.dropLast ++ [xs.getLast hl] := (List.dropLast_concat_getLast hl).symm
  have ez : xs.getLast hl = v := by
    rw [← List.getLast?_eq_getElem?, List.getLast?_eq_getLast hl] at h
    exact Option.some.inj h
  rw [e, ez]
  exact atI_last _ _
/-- an item by a whole number -/
theorem atI_at {α : Type} {xs : List α} {i : Int} {v : α} (h0 : 0 ≤ i) (h : xs[i.toNat]? = some v) : atI xs i = some v := by
  have e : i = ((i.toNat : Nat) : Int) := by omega
  rw [e]
  exact atI_nat h
theorem ixN_at {n : Nat} {i : Int} (h0 : 0 ≤ i) (h : i < n) : ixN n i = some i.toNat := by
  unfold ixN
  rw [if_pos h0, if_pos h]
theorem range1_map {α : Type} {f : Nat → α} {n : Nat} : (List.range (n + 1)).map f = (List.range n).map f ++ [f n] := by
  rw [List.range_succ, List.map_append]
  rfl
theorem imAll_tupI (f : Nat → List Int) (n : Nat) : imAll ((List.range n).map fun i => tupI (f i)) = true := imAll_map (fun i => im_ints _) _
/-- drawn data, each by its place -/
theorem lc_drawI {K : PySem.W.Frag} {J : It} {n : Nat} {G : Hp → Prop} {Y : Nat → Hp → V → Hp → Prop} {g : TG} {tt : TT} {te : TE} {vs : List Nat} {σ : L2.St} {H1 : Hp} {D : Addr} {Qd : Hp → Prop} {d c : Addr} (w : Walk J n G Y) (PD : Nat → PyData → Prop) (hn : n < sizeLine) (him : ∀ i e, PD i e → im e = true) (nD1 : H1 D = none) (hD : Dice d c H1) (hG : ∀ H, Fr d H1 H → G H)
    (hs : ∀ i x H H' (C : V → Hp → Prop) (Cn : Hp → Prop), i < n → Fr d H1 H → Dice d c H → Y i H x H' → (∀ y e H4, Fr d H H4 → Dice d c H4 → Dp K H4 y e → PD i e → C y H4) →
      g x (wipe σ vs) H' fun σ2 H2 => wipe σ2 vs = wipe σ vs ∧ tt σ2 H2 fun b H3 => if b = true then te σ2 H3 C else Cn H3)
    (hd : ∀ H xs ds, Fr d H1 H → Dice d c H → H D = some (.lst xs) → DpAll K H xs ds → ds.length = n → (∀ i e, ds[i]? = some e → PD i e) → Qd H) :
    ∃ W : Nat → Nat → Hp → Prop, (∃ m, W 0 m (L2.upd H1 D (.lst []))) ∧ ∀ i m H, W i m H →
      (J.stop i H ∧ Qd H) ∨ (J.go i H ∧ ∃ Nx : Hp → Prop, (∀ H', Nx H' → ∃ m', m' < m ∧ W (i + 1) m' H') ∧ ∀ x H', J.yld i H x H' → g x (wipe σ vs) H' fun σ2 H2 => wipe σ2 vs = wipe σ vs ∧ tt σ2 H2 fun b H3 =>
        if b = true then te σ2 H3 fun y H4 => ∃ acc, H4 D = some (.lst acc) ∧ acc.length < sizeLine ∧ Nx (L2.upd H4 D (.lst (acc ++ [y]))) else Nx H3) := by
  refine lc_cps w (fun i H acc => Fr d H1 H ∧ Dice d c H ∧ ∃ ds, DpAll K H acc ds ∧ ds.length = i ∧ ∀ i e, ds[i]? = some e → PD i e) ⟨Fr.new nD1, hD.new nD1, [], .nil, rfl, fun i e h => by simp at h⟩ (fun i H acc hi r e => hG H r.1) (fun i x H H' acc C Cn hi r e hy hC hN => ?_)
    (fun H acc ⟨r1, r2, ds, r3, r4, r5⟩ e => hd H acc ds r1 r2 e r3 r4 r5)
  obtain ⟨r1, r2, ds, r3, r4, r5⟩ := r
  refine hs i x H H' C Cn hi r1 r2 hy (fun y ee H4 f4 d4 dy pe => ?_)
  have e4 : H4 D = some (.lst acc) := f4 _ _ (hD.nd nD1) e
  have hall : ∀ j z, (ds ++ [ee])[j]? = some z → PD j z := fun j z hz => by
    by_cases hj : j < ds.length
    · rw [List.getElem?_append_left hj] at hz
      exact r5 j z hz
    · have hj2 : j = ds.length := by
        have := (List.getElem?_eq_some_iff.mp hz).1
        rw [List.length_append, List.length_singleton] at this
        omega
      subst hj2
      rw [List.getElem?_concat_length] at hz
      cases hz
      rw [r4]
      exact pe
  refine hC y H4 e4 (by rw [DpAll.len r3]; omega) ⟨Fr.put (r1.trans f4) nD1, d4.put (hD.nd nD1) (hD.nc nD1), ds ++ [ee], ?_, by rw [List.length_append, r4]; rfl, hall⟩
  have im1 : imAll (ds ++ [ee]) = true := (imAll_iff _).mpr fun z hz => by
    obtain ⟨j, hj⟩ := List.mem_iff_getElem?.mp hz
    exact him j z (hall j z hj)
  have im0 : imAll ds = true := (imAll_iff _).mpr fun z hz => by
    obtain ⟨j, hj⟩ := List.mem_iff_getElem?.mp hz
    exact him j z (r5 j z hj)
  exact Dp.txAll (Tx.lst e4) _ _ im1 (DpAll.snoc (Dp.txAll (r2.tx f4) _ _ im0 r3) dy)
end Pf
namespace Pf
open PySem PySem.Spec PyProof.Rows L2
theorem cutV_take (xs : List V) (i : Nat) : cutV xs none (some (i : Int)) = xs.take i := by
  unfold cutV
  rw [HT.sIx_none, HT.sIx_nat, Nat.sub_zero, List.drop_zero]
  by_cases h : i ≤ xs.length
  · rw [Nat.min_eq_left h]
  · rw [Nat.min_eq_right (by omega), List.take_length, List.take_of_length_le (by omega)]
theorem cutV_drop (xs : List V) (i : Nat) : cutV xs (some (i : Int)) none = xs.drop i := by
  unfold cutV
  rw [HT.sIx_none, HT.sIx_nat]
  by_cases h : i ≤ xs.length
  · rw [Nat.min_eq_left h]
    exact List.take_of_length_le (by rw [List.length_drop]; exact Nat.le_refl _)
  · rw [Nat.min_eq_right (by omega), Nat.sub_self, List.take_zero, List.drop_of_length_le (by omega)]
abbrev lstI (ns : List Int) : PyData := .list (ns.map PyData.int)
theorem shaped_lstI (ns : List Int) : SeqAt.shaped (lstI ns) = true := by
  unfold SeqAt.shaped
  rw [Bool.and_eq_true]
  refine ⟨canLay_ints ns, decide_eq_true ?_⟩
  show PyData.depthAll (ns.map PyData.int) + 1 ≤ 64
  rw [depth_ints]
  decide
theorem eqv_lstI (ns ms : List Int) : PyData.eqv (lstI ns) (lstI ms) = decide (ns = ms) := eqv_ints ns ms
theorem dp_lstI {K : PySem.W.Frag} {H : Hp} {p : Addr} {ns : List Int} (h : SqL K H p (ns.map V.int)) : Dp K H (.ref p) (lstI ns) := .lst h (dpAll_ints ns)
/-- a log as it is made -/
theorem log_made {H H' : Hp} {C x dx : Addr} (nx : H x = none) (nd : H dx = none) (f : Fr x (L2.upd (L2.upd H dx (.own x)) x (.ins C dx [])) H') : Same H H' := fun b o e => by
  have n1 : b ≠ x := ne_of_none e nx
  have n2 : b ≠ dx := ne_of_none e nd
  exact f b o n1 (by rw [upd_ne n1, upd_ne n2]; exact e)
theorem set_cut {hs : List Int} {x : Nat} {z : Int} (h : x < hs.length) : (hs.set x z).map V.int = ((hs.map V.int).take x ++ [V.int z]) ++ (hs.map V.int).drop (x + 1) := by
  rw [List.set_eq_take_append_cons_drop, if_pos h, List.map_append, List.map_cons, List.map_take, List.map_drop, List.append_assoc]
  rfl
/-- drawn whole numbers -/
def IntIn (m : Int) (e : PyData) : Prop := ∃ z, e = .int z ∧ 0 ≤ z ∧ z < m
theorem IntIn.all {K : PySem.W.Frag} {H : Hp} {m : Int} : ∀ {xs : List V} {ds : List PyData}, DpAll K H xs ds → (∀ e ∈ ds, IntIn m e) → ∃ ns : List Int, xs = ns.map V.int ∧ ns.length = ds.length ∧ ∀ x ∈ ns, 0 ≤ x ∧ x < m
  | _, _, .nil, _ => ⟨[], rfl, rfl, fun x hx => by cases hx⟩
  | _, _, .cons p q, h => by
    obtain ⟨ns, e1, e2, e3⟩ := IntIn.all q fun e he => h e (List.mem_cons_of_mem _ he)
    obtain ⟨z, rfl, z0, z1⟩ := h _ (List.mem_cons_self ..)
    cases p
    refine ⟨z :: ns, by rw [e1]; rfl, by rw [List.length_cons, List.length_cons, e2], fun x hx => ?_⟩
    rcases List.mem_cons.mp hx with rfl | hx
    · exact ⟨z0, z1⟩
    · exact e3 x hx
end Pf

--BODY
namespace Pf
open PySem PySem.Spec PyProof.Rows L2
theorem DpAll.take {K : PySem.W.Frag} {H : Hp} : ∀ {xs : List V} {ds : List PyData} (i : Nat), DpAll K H xs ds → DpAll K H (xs.take i) (ds.take i)
  | _, _, 0, _ => by rw [List.take_zero, List.take_zero]; exact .nil
  | _, _, _ + 1, .nil => by rw [List.take_nil, List.take_nil]; exact .nil
  | _, _, i + 1, .cons p q => by rw [List.take_succ_cons, List.take_succ_cons]; exact .cons p (DpAll.take i q)
theorem DpAll.drop {K : PySem.W.Frag} {H : Hp} : ∀ {xs : List V} {ds : List PyData} (i : Nat), DpAll K H xs ds → DpAll K H (xs.drop i) (ds.drop i)
  | _, _, 0, h => by rw [List.drop_zero, List.drop_zero]; exact h
  | _, _, _ + 1, .nil => by rw [List.drop_nil, List.drop_nil]; exact .nil
  | _, _, i + 1, .cons p q => by rw [List.drop_succ_cons, List.drop_succ_cons]; exact DpAll.drop i q
theorem canLay_rows : ∀ rs : List Row, PyData.canLayAll0 (rs.map rowD) = true
  | [] => rfl
  | r :: rs => by
    show (PyData.canLay0 (rowD r) && PyData.canLayAll0 (rs.map rowD)) = true
    rw [canLay_rows rs]
    rfl
theorem depth_rows : ∀ rs : List Row, PyData.depthAll (rs.map rowD) ≤ 1
  | [] => Nat.zero_le _
  | r :: rs => by
    have := depth_rows rs
    show max (PyData.depth (rowD r)) (PyData.depthAll (rs.map rowD)) ≤ 1
    have e : PyData.depth (rowD r) = 1 := rfl
    omega
theorem shaped_rowsD (rs : List Row) : SeqAt.shaped (rowsD rs) = true := by
  unfold SeqAt.shaped
  rw [Bool.and_eq_true]
  refine ⟨canLay_rows rs, decide_eq_true ?_⟩
  have := depth_rows rs
  show PyData.depthAll (rs.map rowD) + 1 ≤ 64
  omega
theorem eqv_self {d : PyData} (h : SeqAt.shaped d = true) : PyData.eqv d d = true := SeqAt.eqv_refl d (SeqAt.canLay_of_shaped h)
/-- two logs alike -/
def LogEq (K : PySem.W.Frag) (C : Addr) (x y : Addr) (H : Hp) : Prop := ∃ n rs, LogAt K C H (.ref x) n rs ∧ LogAt K C H (.ref y) n rs
def loose (rs : List Row) : List Row := rs.map fun r => (r.1, r.2.1, false)
end Pf
namespace Pf
open PySem PySem.Spec PyProof.Rows L2
theorem loose_st (n : Int) (rs : List Row) (fs : List Bool) (i : Nat) : stAt n (loose rs) fs i = stAt n rs fs i := by
  unfold stAt loose
  rw [List.zip_map_left, ← List.map_take, List.foldl_map]
  rfl
theorem loose_len (rs : List Row) : (loose rs).length = rs.length := by unfold loose; simp
theorem loose_good {n : Int} {rs : List Row} (h : AnyLog n rs) : AnyLog n (loose rs) := ⟨h.1, h.2.1, by rw [loose_len]; exact h.2.2.1, fun r hr => by
  obtain ⟨q, hq, rfl⟩ := List.mem_map.mp hr
  exact h.2.2.2 q hq⟩
theorem put_out {rs : List Row} {r : Row} {k : Nat} (h : k ≤ rs.length) : (rs.take k ++ r :: rs.drop k).take k ++ (rs.take k ++ r :: rs.drop k).drop (k + 1) = rs := by
  have e : (rs.take k).length = k := by rw [List.length_take]; omega
  rw [List.take_append_of_le_length (by omega), List.take_of_length_le (by omega), List.drop_append, e, List.drop_of_length_le (by omega), show k + 1 - k = 1 by omega]
  show rs.take k ++ ([] ++ rs.drop k) = rs
  rw [List.nil_append, List.take_append_drop]
theorem dp_cut {K : PySem.W.Frag} {H : Hp} {p : Addr} {xs : List V} {rs : List Row} {i j : Nat} (h : SqT K H p (xs.take i ++ xs.drop j)) (ha : DpAll K H xs (rs.map rowD)) : Dp K H (.ref p) (rowsD (rs.take i ++ rs.drop j)) := .tup h (by
  rw [List.map_append, List.map_take, List.map_drop]
  exact DpAll.app (DpAll.take _ ha) (DpAll.drop _ ha))
theorem dp_put {K : PySem.W.Frag} {H : Hp} {p : Addr} {xs : List V} {rs : List Row} {i j : Nat} {v : V} {r : Row} (h : SqT K H p ((xs.take i ++ [v]) ++ xs.drop j)) (ha : DpAll K H xs (rs.map rowD)) (hv : Dp K H v (rowD r)) : Dp K H (.ref p) (rowsD (rs.take i ++ r :: rs.drop j)) := .tup h (by
  rw [List.map_append, List.map_cons, List.map_take, List.map_drop, show rowD r :: List.drop j (List.map rowD rs) = [rowD r] ++ List.drop j (List.map rowD rs) from rfl, ← List.append_assoc]
  exact DpAll.app (DpAll.app (DpAll.take _ ha) (.cons hv .nil)) (DpAll.drop _ ha))
end Pf
namespace Pf
open PySem PySem.Spec PyProof.Rows L2
theorem units65 {k : Nat} {A : Around} (hr : Room k A) : A.units + 65 < cLine := by
  have := hr.un
  omega
def idleP (n : Int) (rs : List Row) (fs : List Bool) (i : Nat) : Bool := fs.getD i false && decide (stAt n rs fs i = stAt n rs fs (i + 1))
def idleTo (n : Int) (rs : List Row) (fs : List Bool) (m : Nat) : List Int := ((List.range m).filter (idleP n rs fs)).map fun (i : Nat) => (i : Int)
theorem idle_succ (n : Int) (rs : List Row) (fs : List Bool) (m : Nat) : idleTo n rs fs (m + 1) = idleTo n rs fs m ++ (if idleP n rs fs m = true then [(m : Int)] else []) := by
  unfold idleTo
  rw [List.range_succ, List.filter_append, List.map_append]
  by_cases h : idleP n rs fs m = true
  · rw [filt1 h, if_pos h]; rfl
  · rw [filt0 h, if_neg h]; rfl
theorem idle_len (n : Int) (rs : List Row) (fs : List Bool) (m : Nat) : (idleTo n rs fs m).length ≤ m := by
  unfold idleTo
  rw [List.length_map]
  have := List.length_filter_le (idleP n rs fs) (List.range m)
  rw [List.length_range] at this
  exact this
theorem allSt_at {n : Int} {rs : List Row} {fs : List Bool} {j : Nat} (h : j ≤ rs.length) : (allSt n rs fs)[j]? = some (tupI (stAt n rs fs j)) := by
  unfold allSt
  rw [List.getElem?_map, List.getElem?_range (by omega)]
  rfl
theorem allSt_len (n : Int) (rs : List Row) (fs : List Bool) : (allSt n rs fs).length = rs.length + 1 := by unfold allSt; simp
theorem imAll_allSt (n : Int) (rs : List Row) (fs : List Bool) : imAll (allSt n rs fs) = true := imAll_tupI _ _
/-- an item of such a list -/
theorem st_item {K : PySem.W.Frag} {H : Hp} {xs : List V} {n : Int} {rs : List Row} {fs : List Bool} {j : Nat} (h : DpAll K H xs (allSt n rs fs)) (hj : j ≤ rs.length) : ∃ v, xs[j]? = some v ∧ Dp K H v (tupI (stAt n rs fs j)) := by
  have hl : j < xs.length := by rw [DpAll.len h, allSt_len]; omega
  exact ⟨_, List.getElem?_eq_getElem hl, DpAll.at h (List.getElem?_eq_getElem hl) (allSt_at hj)⟩
/-- all doings of rows -/
def dStep (r : Row) (d : List Bool) : List (List Bool) := if r.2.2 = true then [d ++ [true]] else [d ++ [false], d ++ [true]]
def dTo : List Row → List (List Bool) → List (List Bool)
  | [], ds => ds
  | r :: rs, ds => dTo rs (ds.flatMap (dStep r))
def dAt (rs : List Row) (i : Nat) : List (List Bool) := dTo (rs.take i) [[]]
theorem dTo_snoc : ∀ (rs : List Row) (r : Row) (ds : List (List Bool)), dTo (rs ++ [r]) ds = (dTo rs ds).flatMap (dStep r)
  | [], _, _ => rfl
  | q :: rs, r, ds => dTo_snoc rs r (ds.flatMap (dStep q))
theorem dAt_succ {rs : List Row} {i : Nat} {r : Row} (h : rs[i]? = some r) : dAt rs (i + 1) = (dAt rs i).flatMap (dStep r) := by
  unfold dAt
  rw [take_snoc h, dTo_snoc]
theorem dStep_len (r : Row) (d : List Bool) : (dStep r d).length ≤ 2 := by
  unfold dStep
  split
  · exact Nat.le_succ 1
  · exact Nat.le_refl 2
theorem flatMap_len {α β : Type} (f : α → List β) (h : ∀ x, (f x).length ≤ 2) : ∀ xs : List α, (xs.flatMap f).length ≤ 2 * xs.length
  | [] => Nat.zero_le _
  | x :: xs => by
    rw [List.flatMap_cons, List.length_append, List.length_cons]
    have := h x
    have := flatMap_len f h xs
    omega
theorem dAt_len {rs : List Row} : ∀ i, i ≤ rs.length → (dAt rs i).length ≤ 2 ^ i
  | 0, _ => Nat.le_refl 1
  | i + 1, h => by
    rw [dAt_succ (List.getElem?_eq_getElem (show i < rs.length by omega))]
    have h1 := flatMap_len _ (dStep_len rs[i]) (dAt rs i)
    have h2 := dAt_len i (show i ≤ rs.length by omega)
    rw [Nat.pow_succ]
    omega
theorem canLay_flags : ∀ fs : List Bool, PyData.canLayAll0 (fs.map PyData.bool) = true
  | [] => rfl
  | _ :: r => by
    show (PyData.canLay0 (.bool _) && PyData.canLayAll0 (r.map PyData.bool)) = true
    rw [canLay_flags r]
    rfl
theorem depth_flags : ∀ fs : List Bool, PyData.depthAll (fs.map PyData.bool) = 0
  | [] => rfl
  | _ :: r => by
    show max (PyData.depth (.bool _)) (PyData.depthAll (r.map PyData.bool)) = 0
    rw [depth_flags r]
    rfl
theorem depth_flagsD (fs : List Bool) : PyData.depth (flagsD fs) = 1 := by
  show PyData.depthAll (fs.map PyData.bool) + 1 = 1
  rw [depth_flags]
theorem shaped_flagsD (fs : List Bool) : SeqAt.shaped (flagsD fs) = true := by
  unfold SeqAt.shaped
  rw [Bool.and_eq_true]
  exact ⟨canLay_flags fs, decide_eq_true (by rw [depth_flagsD]; decide)⟩
theorem canLay_fl : ∀ ds : List (List Bool), PyData.canLayAll0 (ds.map flagsD) = true
  | [] => rfl
  | d :: r => by
    show (PyData.canLay0 (flagsD d) && PyData.canLayAll0 (r.map flagsD)) = true
    rw [canLay_fl r, show PyData.canLay0 (flagsD d) = true from canLay_flags d]
    rfl
theorem depth_fl : ∀ ds : List (List Bool), PyData.depthAll (ds.map flagsD) ≤ 1
  | [] => Nat.zero_le _
  | d :: r => by
    have := depth_fl r
    show max (PyData.depth (flagsD d)) (PyData.depthAll (r.map flagsD)) ≤ 1
    rw [depth_flagsD]
    omega
theorem shaped_fl (ds : List (List Bool)) : SeqAt.shaped (.list (ds.map flagsD)) = true := by
  unfold SeqAt.shaped
  rw [Bool.and_eq_true]
  refine ⟨canLay_fl ds, decide_eq_true ?_⟩
  have := depth_fl ds
  show PyData.depthAll (ds.map flagsD) + 1 ≤ 64
  omega
theorem eqv_flags : ∀ fs gs : List Bool, PyData.eqvAll (fs.map PyData.bool) (gs.map PyData.bool) = decide (fs = gs)
  | [], [] => rfl
  | [], _ :: _ => rfl
  | _ :: _, [] => rfl
  | x :: r, y :: q => by
    show ((x == y) && PyData.eqvAll (r.map PyData.bool) (q.map PyData.bool)) = _
    rw [eqv_flags r q, Bool.eq_iff_iff]
    simp
theorem any_fl (ds : List (List Bool)) (fs : List Bool) : ((ds.map flagsD).any fun z => PyData.eqv z (flagsD fs)) = decide (fs ∈ ds) := by
  rw [Bool.eq_iff_iff, List.any_eq_true, decide_eq_true_iff]
  constructor
  · rintro ⟨z, hz, e⟩
    obtain ⟨g, hg, rfl⟩ := List.mem_map.mp hz
    have e2 : PyData.eqvAll (g.map PyData.bool) (fs.map PyData.bool) = true := e
    rw [eqv_flags] at e2
    rw [← of_decide_eq_true e2]
    exact hg
  · intro h
    exact ⟨flagsD fs, List.mem_map.mpr ⟨fs, h, rfl⟩, eqv_self (shaped_flagsD fs)⟩
end Pf
namespace Pf
open PySem PySem.Spec PyProof.Rows L2
theorem kit_self {K : PySem.W.Frag} {C : Addr} : PySem.W.kitOne K (.ref C) (.ref C) = some true := by
  unfold PySem.W.kitOne
  exact if_pos (by first | exact beq_self_eq_true _ | simp | rfl)
end Pf
namespace Pf
open PySem PySem.Spec PyProof.Rows L2
theorem range_map_ofX {n : Int} {rs : List Row} {fs : List Bool} {i : Nat} {e : PyData} (h : (allSt n rs fs)[i]? = some e) : ∃ j, j ≤ rs.length ∧ e = tupI (stAt n rs fs j) := by
  have hl : i < rs.length + 1 := by
    have := (List.getElem?_eq_some_iff.mp h).1
    rwa [allSt_len] at this
  rw [allSt_at (by omega)] at h
  exact ⟨i, by omega, (Option.some.inj h).symm⟩
end Pf
namespace Pf
open PySem PySem.Spec PyProof.Rows L2
theorem kInD {X : Cx} (K : PySem.W.Frag) (h : X.K = K) (hu : X.A.units + 65 < cLine) : OpR X (compareOp .In) (rInD K) := kO K (r := rInD) h (op_inD hu)
end Pf
namespace Pf
open PySem PySem.Spec PyProof.Rows L2
theorem kRepT {X : Cx} (K : PySem.W.Frag) (h : X.K = K) : OpR X (binaryOp .Mult) (rRepT K) := kO K (r := rRepT) h op_repT
/-! ### orders -/
def swapAt (o : List Int) (p : Nat) : List Int := if o.getD p 0 < o.getD (p + 1) 0 then (o.set p (o.getD (p + 1) 0)).set (p + 1) (o.getD p 0) else o
def isL (r : Row) : Bool := decide (r.1 < r.2.1)
def placeR (r : Row) : Int := (if r.2.1 > r.1 then r.2.1 else r.1) - 1
def sideR (rs : List Row) (b : Bool) : List Row := rs.filter fun r => isL r == b
def ordF (o : List Int) (rs : List Row) : List Int := rs.foldl (fun o r => swapAt o (placeR r).toNat) o
def ordOf (n : Int) (rs : List Row) (b : Bool) : List Int := ordF (firstSt n) (sideR rs b)
theorem swap_len (o : List Int) (p : Nat) : (swapAt o p).length = o.length := by
  unfold swapAt
  split
  · rw [List.length_set, List.length_set]
  · rfl
theorem ordF_len : ∀ (rs : List Row) (o : List Int), (ordF o rs).length = o.length
  | [], _ => rfl
  | r :: rs, o => by
    show (ordF (swapAt o (placeR r).toNat) rs).length = o.length
    rw [ordF_len rs, swap_len]
theorem ordF_snoc (o : List Int) (rs : List Row) (r : Row) : ordF o (rs ++ [r]) = swapAt (ordF o rs) (placeR r).toNat := by
  unfold ordF
  rw [List.foldl_append]
  rfl
theorem side_snoc (rs : List Row) (r : Row) (b : Bool) : sideR (rs ++ [r]) b = sideR rs b ++ (if (isL r == b) = true then [r] else []) := by
  unfold sideR
  rw [List.filter_append]
  by_cases h : (isL r == b) = true
  · rw [filt1 (p := fun r => isL r == b) h, if_pos h]
  · rw [filt0 (p := fun r => isL r == b) h, if_neg h]
theorem ordOf_snoc (n : Int) (rs : List Row) (r : Row) (b : Bool) : ordOf n (rs ++ [r]) b = if (isL r == b) = true then swapAt (ordOf n rs b) (placeR r).toNat else ordOf n rs b := by
  unfold ordOf
  rw [side_snoc]
  split
  · rw [ordF_snoc]
  · rw [List.append_nil]
theorem ordOf_len (n : Int) (rs : List Row) (b : Bool) : (ordOf n rs b).length = n.toNat := by
  unfold ordOf
  rw [ordF_len, firstSt_len]
theorem place_of {n : Int} {r : Row} (g : GoodRow n r) : 0 ≤ placeR r ∧ placeR r + 1 < n := by
  obtain ⟨g1, g2, g3, g4, g5⟩ := g
  unfold placeR
  split <;> omega
theorem getD_set_eq {o : List Int} {p : Nat} {z : Int} (h : p < o.length) : (o.set p z).getD p 0 = z := by
  rw [List.getD_eq_getElem?_getD, List.getElem?_set_self h]
  rfl
theorem getD_set_ne {o : List Int} {p q : Nat} {z : Int} (h : p ≠ q) : (o.set p z).getD q 0 = o.getD q 0 := by
  rw [List.getD_eq_getElem?_getD, List.getElem?_set_ne h, List.getD_eq_getElem?_getD]
theorem swap_swap {o : List Int} {p : Nat} (h : p + 1 < o.length) : swapAt (swapAt o p) p = swapAt o p := by
  by_cases c : o.getD p 0 < o.getD (p + 1) 0
  · have e : swapAt o p = (o.set p (o.getD (p + 1) 0)).set (p + 1) (o.getD p 0) := if_pos c
    rw [e]
    unfold swapAt
    rw [if_neg]
    rw [getD_set_eq (by rw [List.length_set]; exact h), getD_set_ne (by omega), getD_set_eq (by omega)]
    omega
  · have e : swapAt o p = o := if_neg c
    rw [e, e]
/-- the last row once more -/
theorem ord_again {n : Int} {rs : List Row} {r : Row} (hr : rs.getLast? = some r) (g : GoodRow n r) (b : Bool) : ordOf n (rs ++ [r]) b = ordOf n rs b := by
  obtain ⟨ps, rfl⟩ := List.getLast?_eq_some_iff.mp hr
  rw [ordOf_snoc, ordOf_snoc]
  split
  · have hp := place_of g
    exact swap_swap (by rw [ordOf_len]; omega)
  · rfl
theorem ord_loose (n : Int) (rs : List Row) (b : Bool) : ordOf n (loose rs) b = ordOf n rs b := by
  unfold ordOf sideR loose ordF
  rw [List.filter_map, List.foldl_map]
  rfl
theorem ord_lefts (n : Int) (rs : List Row) : ordOf n (rs.filter isL) true = ordOf n rs true ∧ ordOf n (rs.filter isL) false = firstSt n := by
  have e1 : (fun r : Row => isL r == true) = isL := by
    funext r
    cases isL r <;> rfl
  constructor
  · unfold ordOf sideR
    rw [List.filter_filter, e1]
    congr 2
    funext r
    cases isL r <;> rfl
  · unfold ordOf sideR
    rw [List.filter_filter, List.filter_eq_nil_iff.mpr (fun r _ => by cases isL r <;> decide)]
    rfl
def pairD (n : Int) (rs : List Row) : PyData := .tuple [tupI (ordOf n rs true), tupI (ordOf n rs false)]
theorem im_pairD (n : Int) (rs : List Row) : im (pairD n rs) = true := by
  show (im (tupI (ordOf n rs true)) && (im (tupI (ordOf n rs false)) && true)) = true
  rw [im_ints, im_ints]
  rfl
theorem shaped_pair (x y : List Int) : SeqAt.shaped (.tuple [tupI x, tupI y]) = true := by
  unfold SeqAt.shaped
  rw [Bool.and_eq_true]
  refine ⟨?_, decide_eq_true ?_⟩
  · show (PyData.canLay0 (tupI x) && (PyData.canLay0 (tupI y) && true)) = true
    rw [show PyData.canLay0 (tupI x) = true from canLay_ints x, show PyData.canLay0 (tupI y) = true from canLay_ints y]
    rfl
  · show max (PyData.depthAll (x.map PyData.int) + 1) (max (PyData.depthAll (y.map PyData.int) + 1) 0) + 1 ≤ 64
    rw [depth_ints, depth_ints]
    decide
theorem dpAll_rep {K : PySem.W.Frag} {H : Hp} {xs : List V} {rs : List Row} (h : DpAll K H xs (rs.map rowD)) : ∀ k : Nat, DpAll K H (List.replicate k xs).flatten ((List.replicate k rs).flatten.map rowD)
  | 0 => .nil
  | k + 1 => by
    rw [List.replicate_succ, List.replicate_succ, List.flatten_cons, List.flatten_cons, List.map_append]
    exact DpAll.app h (dpAll_rep h k)
theorem rep_mem {rs : List Row} {r : Row} {k : Nat} (h : r ∈ (List.replicate k rs).flatten) : r ∈ rs := by
  obtain ⟨l, hl, hr⟩ := List.mem_flatten.mp h
  rw [(List.mem_replicate.mp hl).2] at hr
  exact hr
theorem rep_len (rs : List Row) (k : Nat) : (List.replicate k rs).flatten.length = k * rs.length := by
  rw [List.length_flatten, List.map_replicate, List.sum_replicate_nat]
theorem getD_at {o : List Int} {p : Nat} (h : p < o.length) : o[p]? = some (o.getD p 0) := by
  rw [List.getElem?_eq_getElem h, getD_of (List.getElem?_eq_getElem h)]
theorem cutV_last {xs : List V} {v : V} (h : xs.getLast? = some v) : cutV xs (some (-1)) none = [v] := by
  obtain ⟨ys, rfl⟩ := List.getLast?_eq_some_iff.mp h
  have e1 : HT.sIx (ys ++ [v]).length 0 (some (-1)) = ys.length := by
    show (if (-1 : Int) < 0 then ((-1 : Int) + ((ys ++ [v]).length : Int)).toNat else min (-1 : Int).toNat (ys ++ [v]).length) = ys.length
    rw [if_pos (by decide), List.length_append, List.length_singleton]
    omega
  unfold cutV
  rw [e1, HT.sIx_none, List.drop_left, List.length_append, List.length_singleton, Nat.add_sub_cancel_left]
  rfl
end Pf

namespace Pf
open PySem PySem.Spec PyProof.Rows L2
local macro_rules | `(tactic| walk_at "one") => `(tactic| first
  | refine g_var rfl ?_ | refine g_c ?_ | refine g_op ?_ | refine g_rI0 ?_ | refine g_eqI ?_ | refine g_neI ?_ | refine g_eqB ?_ | refine g_neB ?_ | refine g_test ?_ | refine g_tB ?_ | refine g_bl ?_
  | refine g_and ?_ | refine g_or ?_ | refine g_not ?_ | refine g_andV ?_ | refine g_orV ?_ | refine g_notV ?_ | refine g_if ?_ | refine g_un ?_ | refine g_rU ?_ | refine g_chain ?_
  | refine g_ifS ?_ | refine g_next ?_ | refine g_asg ?_ | refine g_name ?_ | refine g_sub ?_ | refine g_ret ?_ | refine g_drop ?_ | refine g_cons ?_ | refine g_nil ?_ | refine g_cb ?_
  | refine g_tup ?_ | refine g_lst ?_ | refine g_sl ?_ | refine g_nopart ?_ | refine g_part ?_ | refine g_part2 ?_ | refine g_call ?_ | (show (∃ k, [V.int _] = [V.int k] ∧ _) ∨ _; refine .inl ⟨_, rfl, ?_⟩) | refine g_yes ?_ | refine g_oFF ?_ | refine g_oTx ?_ | refine g_oFT ?_ | refine g_noTx ?_ | refine g_noFT ?_ | refine g_noFF ?_ | refine g_nT ?_ | refine g_nF ?_ | refine g_sfld ?_ | refine g_fld ?_ | refine g_make ?_ | refine g_lstRg ?_ | refine g_tupRg ?_ | refine g_rg1 ?_ | refine g_lc ?_ | refine g_for ?_ | refine g_iL ?_ | refine g_iT ?_ | refine g_iR1 ?_ | refine g_iR2 ?_ | refine g_iZA ?_ | refine g_bm ?_ | refine iteT ?_ | refine iteF ?_)
local macro_rules | `(tactic| walk_at "go") => `(tactic| repeat (with_reducible first | walk_at "one" | refine g_seq ?_))
local macro_rules | `(tactic| walk_at "gs") => `(tactic| ((repeat (with_reducible walk_at "one")); try dsimp only))
def topS (i : Nat) : Stmt := PySem.Challenge.pw_takenover_k20_whole_prices_by_all_posts.main.body.getD i (.Pass ⟨0, 0, 0, 0⟩)
abbrev s_is_integer : Stmt := topS 6
theorem sc_is_integer : FnScope ["thing"] ["thing"] (defScope s_is_integer) := ⟨rfl, rfl, rfl, by decide +kernel, rfl, by decide +kernel, by decide +kernel⟩
abbrev s_is_between : Stmt := topS 7
theorem sc_is_between : FnScope ["thing", "least", "most"] ["thing", "least", "most"] (defScope s_is_between) := ⟨rfl, rfl, rfl, by decide +kernel, rfl, by decide +kernel, by decide +kernel⟩
abbrev s_is_number : Stmt := topS 8
theorem sc_is_number : FnScope ["thing", "many"] ["thing", "many"] (defScope s_is_number) := ⟨rfl, rfl, rfl, by decide +kernel, rfl, by decide +kernel, by decide +kernel⟩
abbrev s_is_word : Stmt := topS 9
theorem sc_is_word : FnScope ["thing", "word"] ["thing", "word"] (defScope s_is_word) := ⟨rfl, rfl, rfl, by decide +kernel, rfl, by decide +kernel, by decide +kernel⟩
abbrev s_is_tuple_of : Stmt := topS 10
theorem sc_is_tuple_of : FnScope ["thing", "many"] ["thing", "many"] (defScope s_is_tuple_of) := ⟨rfl, rfl, rfl, by decide +kernel, rfl, by decide +kernel, by decide +kernel⟩
abbrev s_is_side : Stmt := topS 11
theorem sc_is_side : FnScope ["thing"] ["thing"] (defScope s_is_side) := ⟨rfl, rfl, rfl, by decide +kernel, rfl, by decide +kernel, by decide +kernel⟩
abbrev s_is_copying : Stmt := topS 18
theorem sc_is_copying : FnScope ["offices", "thing", "x", "y", "sure"] ["offices", "thing"] (defScope s_is_copying) := ⟨rfl, rfl, rfl, by decide +kernel, rfl, by decide +kernel, by decide +kernel⟩
abbrev s_is_row : Stmt := topS 19
theorem sc_is_row : FnScope ["offices", "thing"] ["offices", "thing"] (defScope s_is_row) := ⟨rfl, rfl, rfl, by decide +kernel, rfl, by decide +kernel, by decide +kernel⟩
abbrev s_wrong_part : Stmt := topS 20
theorem sc_wrong_part : FnScope ["offices", "rows", "is_right", "number", "row"] ["offices", "rows", "is_right"] (defScope s_wrong_part) := ⟨rfl, rfl, rfl, by decide +kernel, rfl, by decide +kernel, by decide +kernel⟩
abbrev s_is_left : Stmt := topS 21
theorem sc_is_left : FnScope ["row"] ["row"] (defScope s_is_left) := ⟨rfl, rfl, rfl, by decide +kernel, rfl, by decide +kernel, by decide +kernel⟩
abbrev s_cut_between : Stmt := topS 22
theorem sc_cut_between : FnScope ["row"] ["row"] (defScope s_cut_between) := ⟨rfl, rfl, rfl, by decide +kernel, rfl, by decide +kernel, by decide +kernel⟩
abbrev s_Log_init : Stmt := inClass (topS 30) 0
theorem sc_Log_init : FnScope ["self", "offices", "rows", "part"] ["self", "offices", "rows"] (defScope s_Log_init) := ⟨rfl, rfl, rfl, by decide +kernel, rfl, by decide +kernel, by decide +kernel⟩
abbrev s_check_side : Stmt := topS 13
theorem sc_check_side : FnScope ["side"] ["side"] (defScope s_check_side) := ⟨rfl, rfl, rfl, by decide +kernel, rfl, by decide +kernel, by decide +kernel⟩
abbrev s_check_cut : Stmt := topS 14
theorem sc_check_cut : FnScope ["offices", "cut"] ["offices", "cut"] (defScope s_check_cut) := ⟨rfl, rfl, rfl, by decide +kernel, rfl, by decide +kernel, by decide +kernel⟩
abbrev s_barred_cut : Stmt := topS 24
theorem sc_barred_cut : FnScope ["side", "row"] ["side", "row"] (defScope s_barred_cut) := ⟨rfl, rfl, rfl, by decide +kernel, rfl, by decide +kernel, by decide +kernel⟩
abbrev s_walk_price : Stmt := topS 25
theorem sc_walk_price : FnScope ["side", "start", "end"] ["side", "start", "end"] (defScope s_walk_price) := ⟨rfl, rfl, rfl, by decide +kernel, rfl, by decide +kernel, by decide +kernel⟩
abbrev s_cheapest_walks : Stmt := topS 26
theorem sc_cheapest_walks : FnScope ["log", "side", "first", "free_way", "cut", "least", "passing", "row", "stood", "free", "paid"] ["log", "side", "first"] (defScope s_cheapest_walks) := ⟨rfl, rfl, rfl, by decide +kernel, rfl, by decide +kernel, by decide +kernel⟩
abbrev s_check_ends : Stmt := topS 27
theorem sc_check_ends : FnScope ["log", "side", "first", "last"] ["log", "side", "first", "last"] (defScope s_check_ends) := ⟨rfl, rfl, rfl, by decide +kernel, rfl, by decide +kernel, by decide +kernel⟩
abbrev s_price : Stmt := topS 28
theorem sc_price : FnScope ["log", "side", "first", "last", "least", "_"] ["log", "side", "first", "last"] (defScope s_price) := ⟨rfl, rfl, rfl, by decide +kernel, rfl, by decide +kernel, by decide +kernel⟩
abbrev s_law_hand : Stmt := topS 32
theorem sc_law_hand : FnScope ["_law_script", "_law_cells", "_law_cell"] ["_law_script"] (defScope s_law_hand) := ⟨rfl, rfl, rfl, by decide +kernel, rfl, by decide +kernel, by decide +kernel⟩
abbrev s_law_draw : Stmt := topS 33
theorem sc_law_draw : FnScope ["_law_hand_here", "_law_many", "_law_cell", "_law_digit", "_law_number"] ["_law_hand_here", "_law_many"] (defScope s_law_draw) := ⟨rfl, rfl, rfl, by decide +kernel, rfl, by decide +kernel, by decide +kernel⟩
abbrev s_law_is : Stmt := topS 34
theorem sc_law_is : FnScope ["_law_told", "_law_due", "_law_one", "_law_two"] ["_law_told", "_law_due"] (defScope s_law_is) := ⟨rfl, rfl, rfl, by decide +kernel, rfl, by decide +kernel, by decide +kernel⟩
abbrev s_law_row : Stmt := topS 35
theorem sc_law_row : FnScope ["_law_hand_here", "_law_offices", "_law_share", "_law_one", "_law_other"] ["_law_hand_here", "_law_offices", "_law_share"] (defScope s_law_row) := ⟨rfl, rfl, rfl, by decide +kernel, rfl, by decide +kernel, by decide +kernel⟩
abbrev s_law_rows : Stmt := topS 36
theorem sc_law_rows : FnScope ["_law_hand_here", "_law_offices", "_law_many", "_law_share", "_law_turn"] ["_law_hand_here", "_law_offices", "_law_many", "_law_share"] (defScope s_law_rows) := ⟨rfl, rfl, rfl, by decide +kernel, rfl, by decide +kernel, by decide +kernel⟩
abbrev s_law_bars : Stmt := topS 37
theorem sc_law_bars : FnScope ["_law_side", "_law_row_here"] ["_law_side", "_law_row_here"] (defScope s_law_bars) := ⟨rfl, rfl, rfl, by decide +kernel, rfl, by decide +kernel, by decide +kernel⟩
abbrev s_law_step : Stmt := topS 38
theorem sc_law_step : FnScope ["_law_side", "_law_one", "_law_other"] ["_law_side", "_law_one", "_law_other"] (defScope s_law_step) := ⟨rfl, rfl, rfl, by decide +kernel, rfl, by decide +kernel, by decide +kernel⟩
abbrev s_law_cost : Stmt := topS 39
theorem sc_law_cost : FnScope ["_law_side", "_law_thing", "_law_here", "_law_found", "_law_cut"] ["_law_side", "_law_thing"] (defScope s_law_cost) := ⟨rfl, rfl, rfl, by decide +kernel, rfl, by decide +kernel, by decide +kernel⟩
abbrev s_law_all_stands : Stmt := topS 40
theorem sc_law_all_stands : FnScope ["_law_offices", "_law_rows_here", "_law_side", "_law_found", "_law_row_here", "_law_later", "_law_stands", "_law_cut"] ["_law_offices", "_law_rows_here", "_law_side"] (defScope s_law_all_stands) := ⟨rfl, rfl, rfl, by decide +kernel, rfl, by decide +kernel, by decide +kernel⟩
abbrev s_law_least : Stmt := topS 41
theorem sc_law_least : FnScope ["_law_offices", "_law_rows_here", "_law_side", "_law_first", "_law_found", "_law_stands", "_law_last"] ["_law_offices", "_law_rows_here", "_law_side", "_law_first"] (defScope s_law_least) := ⟨rfl, rfl, rfl, by decide +kernel, rfl, by decide +kernel, by decide +kernel⟩
abbrev s_law : Stmt := topS 42
theorem sc_law : FnScope ["_law_script", "_law_hand_here", "_law_turn", "_law_offices", "_law_rows_here", "_law_log", "_law_side", "_law_first", "_law_due", "_law_last"] ["_law_script"] (defScope s_law) := ⟨rfl, rfl, rfl, by decide +kernel, rfl, by decide +kernel, by decide +kernel⟩
/-- where the defs stand behind the top -/
structure Ad where
  f_is_integer : Addr
  d_is_integer : FuncData
  f_is_between : Addr
  d_is_between : FuncData
  f_is_number : Addr
  d_is_number : FuncData
  f_is_word : Addr
  d_is_word : FuncData
  f_is_tuple_of : Addr
  d_is_tuple_of : FuncData
  f_is_side : Addr
  d_is_side : FuncData
  f_is_copying : Addr
  d_is_copying : FuncData
  f_is_row : Addr
  d_is_row : FuncData
  f_wrong_part : Addr
  d_wrong_part : FuncData
  f_is_left : Addr
  d_is_left : FuncData
  f_cut_between : Addr
  d_cut_between : FuncData
  f_Log_init : Addr
  d_Log_init : FuncData
  f_check_side : Addr
  d_check_side : FuncData
  f_check_cut : Addr
  d_check_cut : FuncData
  f_barred_cut : Addr
  d_barred_cut : FuncData
  f_walk_price : Addr
  d_walk_price : FuncData
  f_cheapest_walks : Addr
  d_cheapest_walks : FuncData
  f_check_ends : Addr
  d_check_ends : FuncData
  f_price : Addr
  d_price : FuncData
  f_law_hand : Addr
  d_law_hand : FuncData
  f_law_draw : Addr
  d_law_draw : FuncData
  f_law_is : Addr
  d_law_is : FuncData
  f_law_row : Addr
  d_law_row : FuncData
  f_law_rows : Addr
  d_law_rows : FuncData
  f_law_bars : Addr
  d_law_bars : FuncData
  f_law_step : Addr
  d_law_step : FuncData
  f_law_cost : Addr
  d_law_cost : FuncData
  f_law_all_stands : Addr
  d_law_all_stands : FuncData
  f_law_least : Addr
  d_law_least : FuncData
  f_law : Addr
  d_law : FuncData
  c_Log : Addr
/-- what the top has left -/
structure Txt (K : PySem.W.Frag) (mg : Str → Option Value) (a : Ad) : Prop where
  F_is_integer : Fun K "is_integer" "is_integer" s_is_integer a.f_is_integer a.d_is_integer
  g_is_integer : mg "is_integer" = some (.ref a.f_is_integer)
  b_is_integer : Binds K a.d_is_integer ["thing"] []
  F_is_between : Fun K "is_between" "is_between" s_is_between a.f_is_between a.d_is_between
  g_is_between : mg "is_between" = some (.ref a.f_is_between)
  b_is_between : Binds K a.d_is_between ["thing", "least", "most"] []
  F_is_number : Fun K "is_number" "is_number" s_is_number a.f_is_number a.d_is_number
  g_is_number : mg "is_number" = some (.ref a.f_is_number)
  b_is_number : Binds K a.d_is_number ["thing", "many"] []
  F_is_word : Fun K "is_word" "is_word" s_is_word a.f_is_word a.d_is_word
  g_is_word : mg "is_word" = some (.ref a.f_is_word)
  b_is_word : Binds K a.d_is_word ["thing", "word"] []
  F_is_tuple_of : Fun K "is_tuple_of" "is_tuple_of" s_is_tuple_of a.f_is_tuple_of a.d_is_tuple_of
  g_is_tuple_of : mg "is_tuple_of" = some (.ref a.f_is_tuple_of)
  b_is_tuple_of : Binds K a.d_is_tuple_of ["thing", "many"] []
  F_is_side : Fun K "is_side" "is_side" s_is_side a.f_is_side a.d_is_side
  g_is_side : mg "is_side" = some (.ref a.f_is_side)
  b_is_side : Binds K a.d_is_side ["thing"] []
  F_is_copying : Fun K "is_copying" "is_copying" s_is_copying a.f_is_copying a.d_is_copying
  g_is_copying : mg "is_copying" = some (.ref a.f_is_copying)
  b_is_copying : Binds K a.d_is_copying ["offices", "thing"] []
  F_is_row : Fun K "is_row" "is_row" s_is_row a.f_is_row a.d_is_row
  g_is_row : mg "is_row" = some (.ref a.f_is_row)
  b_is_row : Binds K a.d_is_row ["offices", "thing"] []
  F_wrong_part : Fun K "wrong_part" "wrong_part" s_wrong_part a.f_wrong_part a.d_wrong_part
  g_wrong_part : mg "wrong_part" = some (.ref a.f_wrong_part)
  b_wrong_part : Binds K a.d_wrong_part ["offices", "rows", "is_right"] []
  F_is_left : Fun K "is_left" "is_left" s_is_left a.f_is_left a.d_is_left
  g_is_left : mg "is_left" = some (.ref a.f_is_left)
  b_is_left : Binds K a.d_is_left ["row"] []
  F_cut_between : Fun K "cut_between" "cut_between" s_cut_between a.f_cut_between a.d_cut_between
  g_cut_between : mg "cut_between" = some (.ref a.f_cut_between)
  b_cut_between : Binds K a.d_cut_between ["row"] []
  F_Log_init : Fun K "__init__" "Log.__init__" s_Log_init a.f_Log_init a.d_Log_init
  b_Log_init : Binds K a.d_Log_init ["self", "offices", "rows"] []
  F_check_side : Fun K "check_side" "check_side" s_check_side a.f_check_side a.d_check_side
  g_check_side : mg "check_side" = some (.ref a.f_check_side)
  b_check_side : Binds K a.d_check_side ["side"] []
  F_check_cut : Fun K "check_cut" "check_cut" s_check_cut a.f_check_cut a.d_check_cut
  g_check_cut : mg "check_cut" = some (.ref a.f_check_cut)
  b_check_cut : Binds K a.d_check_cut ["offices", "cut"] []
  F_barred_cut : Fun K "barred_cut" "barred_cut" s_barred_cut a.f_barred_cut a.d_barred_cut
  g_barred_cut : mg "barred_cut" = some (.ref a.f_barred_cut)
  b_barred_cut : Binds K a.d_barred_cut ["side", "row"] []
  F_walk_price : Fun K "walk_price" "walk_price" s_walk_price a.f_walk_price a.d_walk_price
  g_walk_price : mg "walk_price" = some (.ref a.f_walk_price)
  b_walk_price : Binds K a.d_walk_price ["side", "start", "end"] []
  F_cheapest_walks : Fun K "cheapest_walks" "cheapest_walks" s_cheapest_walks a.f_cheapest_walks a.d_cheapest_walks
  g_cheapest_walks : mg "cheapest_walks" = some (.ref a.f_cheapest_walks)
  b_cheapest_walks : Binds K a.d_cheapest_walks ["log", "side", "first"] []
  F_check_ends : Fun K "check_ends" "check_ends" s_check_ends a.f_check_ends a.d_check_ends
  g_check_ends : mg "check_ends" = some (.ref a.f_check_ends)
  b_check_ends : Binds K a.d_check_ends ["log", "side", "first", "last"] []
  F_price : Fun K "price" "price" s_price a.f_price a.d_price
  g_price : mg "price" = some (.ref a.f_price)
  b_price : Binds K a.d_price ["log", "side", "first", "last"] []
  F_law_hand : Fun K "_law_hand" "_law_hand" s_law_hand a.f_law_hand a.d_law_hand
  g_law_hand : mg "_law_hand" = some (.ref a.f_law_hand)
  b_law_hand : Binds K a.d_law_hand ["_law_script"] []
  F_law_draw : Fun K "_law_draw" "_law_draw" s_law_draw a.f_law_draw a.d_law_draw
  g_law_draw : mg "_law_draw" = some (.ref a.f_law_draw)
  b_law_draw : Binds K a.d_law_draw ["_law_hand_here", "_law_many"] []
  F_law_is : Fun K "_law_is" "_law_is" s_law_is a.f_law_is a.d_law_is
  g_law_is : mg "_law_is" = some (.ref a.f_law_is)
  b_law_is : Binds K a.d_law_is ["_law_told", "_law_due"] []
  F_law_row : Fun K "_law_row" "_law_row" s_law_row a.f_law_row a.d_law_row
  g_law_row : mg "_law_row" = some (.ref a.f_law_row)
  b_law_row : Binds K a.d_law_row ["_law_hand_here", "_law_offices", "_law_share"] []
  F_law_rows : Fun K "_law_rows" "_law_rows" s_law_rows a.f_law_rows a.d_law_rows
  g_law_rows : mg "_law_rows" = some (.ref a.f_law_rows)
  b_law_rows : Binds K a.d_law_rows ["_law_hand_here", "_law_offices", "_law_many", "_law_share"] []
  F_law_bars : Fun K "_law_bars" "_law_bars" s_law_bars a.f_law_bars a.d_law_bars
  g_law_bars : mg "_law_bars" = some (.ref a.f_law_bars)
  b_law_bars : Binds K a.d_law_bars ["_law_side", "_law_row_here"] []
  F_law_step : Fun K "_law_step" "_law_step" s_law_step a.f_law_step a.d_law_step
  g_law_step : mg "_law_step" = some (.ref a.f_law_step)
  b_law_step : Binds K a.d_law_step ["_law_side", "_law_one", "_law_other"] []
  F_law_cost : Fun K "_law_cost" "_law_cost" s_law_cost a.f_law_cost a.d_law_cost
  g_law_cost : mg "_law_cost" = some (.ref a.f_law_cost)
  b_law_cost : Binds K a.d_law_cost ["_law_side", "_law_thing"] []
  F_law_all_stands : Fun K "_law_all_stands" "_law_all_stands" s_law_all_stands a.f_law_all_stands a.d_law_all_stands
  g_law_all_stands : mg "_law_all_stands" = some (.ref a.f_law_all_stands)
  b_law_all_stands : Binds K a.d_law_all_stands ["_law_offices", "_law_rows_here", "_law_side"] []
  F_law_least : Fun K "_law_least" "_law_least" s_law_least a.f_law_least a.d_law_least
  g_law_least : mg "_law_least" = some (.ref a.f_law_least)
  b_law_least : Binds K a.d_law_least ["_law_offices", "_law_rows_here", "_law_side", "_law_first"] []
  F_law : Fun K "law" "law" s_law a.f_law a.d_law
  g_law : mg "law" = some (.ref a.f_law)
  b_law : Binds K a.d_law ["_law_script"] []
  gc_Log : mg "Log" = some (.ref a.c_Log)
  cl_Log : Cls K a.c_Log
  n_Log_offices : NoAttr K a.c_Log "offices"
  n_Log_rows : NoAttr K a.c_Log "rows"
  mk_Log : Mk K a.c_Log a.f_Log_init
  g_MOST_OFFICES : ∃ t, mg "MOST_OFFICES" = some (.int 12 t)
  g_MOST_ROWS : ∃ t, mg "MOST_ROWS" = some (.int 60 t)
  z_isinstance : mg "isinstance" = none
  z_int : mg "int" = none
  z_bool : mg "bool" = none
  z_tuple : mg "tuple" = none
  z_list : mg "list" = none
  z_len : mg "len" = none
  z_abs : mg "abs" = none
  z_all : mg "all" = none
  z_zip : mg "zip" = none
  z_range : mg "range" = none
  z_enumerate : mg "enumerate" = none
  z_max : mg "max" = none
  z_min : mg "min" = none
  z_str : mg "str" = none
section
variable {P : Program} {w : World} {K : PySem.W.Frag} {mg : Str → Option Value} {base : Heap} {a : Ad}
/-! ### the drawn numbers, the other way -/
def sp_law_hand (K : PySem.W.Frag) : Sp := fun vs H Q _ => ∃ (s : Addr) (ns : List Int), vs = [.ref s] ∧ SqL K H s (ns.map V.int) ∧ ns.length ≤ 63 ∧ ∀ H' d c, Same H H' → H d = none → Dice d c H' → Q (.ref d) H'
theorem ok_law_hand (T : Txt K mg a) : FnOk P w K mg base CX0 1 a.f_law_hand a.d_law_hand ["_law_script"] (sp_law_hand K) := by
  refine T.F_law_hand.ok sc_law_hand (fun vs H Q E h => ?_) (fun cdv A outer s H vs Q E hr h => ?_)
  · obtain ⟨s, ns, rfl, _⟩ := h
    rfl
  · obtain ⟨s0, ns, rfl, hS, hlen, q⟩ := h
    refine ⟨_, (pss_cons (ps_setLc (i := 1) (own := [("_law_cell", 2)]) (g := (gName 2)) rfl sc_law_hand.nd rfl rfl (sw_true rfl rfl rfl (by decide +kernel)) (kiList K rfl (pe_slice (kSlL K rfl) (pv 0) po_none (po_some pe_int))) (blkOk_by (own := [("_law_cell", 2)]) (N := ["_law_script", "_law_cells", "_law_cell"]) (sc := defScope s_law_hand) (by decide +kernel)) (fun _ _ _ _ _ => (pg_name (i := 2) sc_law_hand.nd rfl (.inl rfl))) (fun _ _ _ _ _ => pts_nil) (fun _ _ _ _ _ => (pe_callB call_abs (by rfl) T.z_abs (by decide +kernel) (pa_cons (pe_callTy call_int1 (by rfl) T.z_int (by decide +kernel) (pa_cons (pv 2) pa_nil)) pa_nil))))
  (pss_one (ps_ret (pe_lst (pa_cons (pv 1) (pa_cons pe_int (pa_cons pe_int (pa_cons (pe_op op_add pe_int (pe_callB (kLen K rfl) (by rfl) T.z_len (by decide +kernel) (pa_cons (pv 1) pa_nil))) (pa_cons pe_int pa_nil))))))))), ?_⟩
    walk_at "go"
    refine ⟨s0, ns.map V.int, rfl, hS, fun p np => ?_⟩
    walk_at "go"
    refine ⟨p, rfl, ⟨_, SqL.new⟩, fun D nD => ?_⟩
    have npD : p ≠ D := fun e => by
      rw [← e, upd_same] at nD
      cases nD
    have nD0 : H D = none := by
      rw [upd_ne npD.symm] at nD
      exact nD
    have hcl : (cutV (ns.map V.int) none (some 63)).length ≤ 63 := by
      have := cutV_length (ns.map V.int) none (some 63)
      rw [List.length_map] at this
      omega
    refine lc_it (walk_list (K := K) (a := p) (xs := cutV (ns.map V.int) none (some 63))) (fun i H' => Same H H' ∧ H' p = some (.lst (cutV (ns.map V.int) none (some 63))) ∧ ∃ cs : List Int, H' D = some (.lst (cs.map V.int)) ∧ cs.length = i ∧ ∀ x ∈ cs, 0 ≤ x)
      ⟨Same.put (same_new np) nD0, ?_, [], upd_same, rfl, fun x hx => by cases hx⟩ (fun i H' _ h => SqL.at h.2.1) (fun i x H1 H2 hi h hy => ?_) (fun H' h => ?_)
    · rw [upd_ne npD, upd_same]
    · obtain ⟨sm, hp, cs, hD, hl, h0⟩ := h
      obtain ⟨rfl, hx⟩ := hy
      obtain ⟨z, rfl⟩ := cutV_int hx
      refine ⟨rfl, g_yes (iteT ?_)⟩
      refine ⟨.int z, rfl, .inl ⟨z, rfl, z, rfl, cs.map V.int, hD, ?_, Same.put sm nD0, ?_, cs ++ [if z < 0 then -z else z], ?_, ?_, ?_⟩⟩
      · rw [List.length_map, hl]
        exact small1000 (by omega)
      · rw [upd_ne npD]
        exact hp
      · rw [upd_same, List.map_append]
        rfl
      · rw [List.length_append, hl]
        rfl
      · intro x hx
        rcases List.mem_append.mp hx with hx | hx
        · exact h0 x hx
        · rw [List.mem_singleton.mp hx]
          split <;> omega
    · obtain ⟨sm, hp, cs, hD, hl, h0⟩ := h
      walk_at "go"
      refine ⟨_, _, rfl, .inl (SqL.at hD), ?_⟩
      walk_at "go"
      refine ⟨by show 5 ≤ sizeLine; decide, fun d nd => ?_⟩
      refine q _ d D (sm.trans (same_new nd)) ?_ ⟨cs, 0, 0, 1 + (cs.map V.int).length, 0, upd_same, ?_, ?_, h0, by decide, by decide, by omega, by rw [List.length_map]; omega, by decide⟩
      · exact sm.free nd
      · rw [upd_ne (ne_of_none hD nd)]
        exact hD
      · exact ne_of_none hD nd
def sp_law_draw : Sp := fun vs H Q _ => ∃ (d c : Addr) (n : Int), vs = [.ref d, .int n] ∧ Dice d c H ∧ 0 < n ∧ n ≤ 1000000000000 ∧ ∀ H' r, Fr d H H' → Dice d c H' → 0 ≤ r → r < n → Q (.int r) H'
theorem ok_law_draw (T : Txt K mg a) : FnOk P w K mg base CX0 1 a.f_law_draw a.d_law_draw ["_law_hand_here", "_law_many"] sp_law_draw := by
  refine T.F_law_draw.ok sc_law_draw (fun vs H Q E h => ?_) (fun cdv A outer s H vs Q E hr h => ?_)
  · obtain ⟨d, c, n, rfl, _⟩ := h
    rfl
  · obtain ⟨d, c, n, rfl, hD, n0, n1, q⟩ := h
    refine ⟨_, (pss_cons (ps_if (PW.pt (pw_and (pt_cmpR op_eq (pe_ix (kIxL K rfl) (pv 0) pe_int (fun _ _ => rfl)) pe_int (nomark _)) (pw_and1 (pt_cmpR op_lt (pe_ix (kIxL K rfl) (pv 0) pe_int (fun _ _ => rfl)) (pe_callB (kLen K rfl) (by rfl) T.z_len (by decide +kernel) (pa_cons (pe_ix (kIxL K rfl) (pv 0) pe_int (fun _ _ => rfl)) pa_nil)) (nomark _)))))
  (pss_cons (ps_set (i := 2) sc_law_draw.nd rfl (.inl rfl) (pe_ix (kIxL K rfl) (pe_ix (kIxL K rfl) (pv 0) pe_int (fun _ _ => rfl)) (pe_ix (kIxL K rfl) (pv 0) pe_int (fun _ _ => rfl)) (fun _ _ => rfl)))
  (pss_cons (ps_asg (pe_op op_add (pe_ix (kIxL K rfl) (pv 0) pe_int (fun _ _ => rfl)) pe_int) (pg_sub (pv 0) pe_int set_list))
  (pss_cons (ps_asg (pe_op op_mod (pe_callTy call_int1 (by rfl) T.z_int (by decide +kernel) (pa_cons (pe_op op_add (pe_op op_add (pe_op op_mul (pe_ix (kIxL K rfl) (pv 0) pe_int (fun _ _ => rfl)) pe_int) (pv 2)) pe_int) pa_nil)) pe_int) (pg_sub (pv 0) pe_int set_list))
  (pss_one (ps_if (pt_cmpR op_ge (pv 2) (pe_op op_pow pe_int pe_int) (nomark _))
  (pss_one (ps_asg (pv 2) (pg_sub (pv 0) pe_int set_list)))
  pss_nil)))))
  pss_nil)
  (pss_cons (ps_if (pt_cmpR op_gt (pe_ix (kIxL K rfl) (pv 0) pe_int (fun _ _ => rfl)) pe_int (nomark _))
  (pss_cons (ps_set (i := 3) sc_law_draw.nd rfl (.inl rfl) (pe_op op_mod (pe_callTy call_int1 (by rfl) T.z_int (by decide +kernel) (pa_cons (pe_ix (kIxL K rfl) (pv 0) pe_int (fun _ _ => rfl)) pa_nil)) (pv 1)))
  (pss_cons (ps_asg (pe_op op_fdivW (pe_ix (kIxL K rfl) (pv 0) pe_int (fun _ _ => rfl)) (pv 1)) (pg_sub (pv 0) pe_int set_list))
  (pss_one (ps_ret (pv 3)))))
  pss_nil)
  (pss_cons (ps_asg (pe_op op_add (pe_ix (kIxL K rfl) (pv 0) pe_int (fun _ _ => rfl)) pe_int) (pg_sub (pv 0) pe_int set_list))
  (pss_cons (ps_set (i := 4) sc_law_draw.nd rfl (.inl rfl) (pe_op op_mod (pe_callTy call_int1 (by rfl) T.z_int (by decide +kernel) (pa_cons (pe_op op_mul (pe_callTy call_int1 (by rfl) T.z_int (by decide +kernel) (pa_cons (pe_op op_add (pe_ix (kIxL K rfl) (pv 0) pe_int (fun _ _ => rfl)) (pe_op op_mul pe_int (pe_ix (kIxL K rfl) (pv 0) pe_int (fun _ _ => rfl)))) pa_nil)) pe_int) pa_nil)) pe_int))
  (pss_cons (ps_set (i := 4) sc_law_draw.nd rfl (.inl rfl) (pe_op op_mod (pe_callTy call_int1 (by rfl) T.z_int (by decide +kernel) (pa_cons (pe_op op_mul (pv 4) (pe_op op_add (pe_op op_fdiv (pv 4) pe_int) pe_int)) pa_nil)) pe_int))
  (pss_cons (ps_set (i := 4) sc_law_draw.nd rfl (.inl rfl) (pe_op op_mod (pe_callTy call_int1 (by rfl) T.z_int (by decide +kernel) (pa_cons (pe_op op_mul (pv 4) (pe_op op_add (pe_op op_fdiv (pv 4) pe_int) pe_int)) pa_nil)) pe_int))
  (pss_one (ps_ret (pe_op op_mod (pe_callTy call_int1 (by rfl) T.z_int (by decide +kernel) (pa_cons (pe_op op_fdiv (pv 4) pe_int) pa_nil)) (pv 1)))))))))), ?_⟩
    obtain ⟨cs, i, qq, s1, t, h1, h2, ncd, h0, hi, hq, hs, hs2, ht⟩ := hD
    refine seq_cut (fun σ' H' => ∃ y2 i' q' s', σ' = [some (.ref d), some (.int n), y2, none, none] ∧ H' d = some (.lst [.ref c, .int i', .int q', .int s', .int t]) ∧ H' c = some (.lst (cs.map V.int)) ∧ Fr d H H' ∧ 0 ≤ i' ∧ 0 ≤ q' ∧ 0 ≤ s' ∧ s' < 2147483648) ?rest ?first
    case first =>
      intro N hN
      walk_at "go"
      refine g_ixL (SqL.at h1) rfl ?_
      walk_at "go"
      refine g_ite (fun e0 => ?_) (fun e0 => ?_)
      · walk_at "go"
        refine g_ixL (SqL.at h1) rfl ?_
        walk_at "go"
        refine g_ixL (SqL.at h1) rfl ?_
        walk_at "go"
        refine ⟨_, _, rfl, .inl (SqL.at h2), ?_⟩
        walk_at "go"
        refine g_ite (fun e1 => ?_) (fun e1 => ?_)
        · obtain ⟨z, hz, _, ez⟩ := atI_int hi e1
          have z0 := h0 z hz
          walk_at "go"
          refine g_ixL (SqL.at h1) rfl ?_
          walk_at "go"
          refine g_ixL (SqL.at h1) rfl ?_
          walk_at "go"
          refine g_ixL (SqL.at h2) ez ?_
          walk_at "go"
          refine g_ixL (SqL.at h1) rfl ?_
          walk_at "go"
          refine g_setL h1 rfl ?_
          have h1' : upd H d (.lst [.ref c, .int (i + 1), .int qq, .int s1, .int t]) d = some (.lst [.ref c, .int (i + 1), .int qq, .int s1, .int t]) := upd_same
          have h2' : upd H d (.lst [.ref c, .int (i + 1), .int qq, .int s1, .int t]) c = some (.lst (cs.map V.int)) := by rw [upd_ne ncd]; exact h2
          walk_at "go"
          refine g_ixL (SqL.at h1') rfl ?_
          walk_at "go"
          refine g_rI (.inl ⟨by omega, by omega⟩) ?_
          walk_at "go"
          refine g_rI (by decide) ?_
          walk_at "go"
          refine g_setL h1' rfl ?_
          generalize hw : (s1 * 69621 + z + 11) % 2147483629 = w1
          have w0 : 0 ≤ w1 := by rw [← hw]; exact Int.emod_nonneg _ (by decide)
          have w2 : w1 < 2147483629 := by rw [← hw]; exact Int.emod_lt_of_pos _ (by decide)
          have h1'' : upd (upd H d (.lst [.ref c, .int (i + 1), .int qq, .int s1, .int t])) d (.lst [.ref c, .int (i + 1), .int qq, .int w1, .int t]) d = some (.lst [.ref c, .int (i + 1), .int qq, .int w1, .int t]) := upd_same
          have h2'' : upd (upd H d (.lst [.ref c, .int (i + 1), .int qq, .int s1, .int t])) d (.lst [.ref c, .int (i + 1), .int qq, .int w1, .int t]) c = some (.lst (cs.map V.int)) := by rw [upd_ne ncd]; exact h2'
          walk_at "go"
          refine g_rI ⟨by decide, by decide, by decide⟩ ?_
          walk_at "go"
          refine g_ite (fun e2 => ?_) (fun e2 => ?_)
          · walk_at "go"
            refine g_setL h1'' rfl ?_
            refine hN _ _ ⟨_, i + 1, z, w1, rfl, upd_same, by rw [upd_ne ncd]; exact h2'', (Fr.upd.trans Fr.upd).trans Fr.upd, by omega, z0, w0, by omega⟩
          · walk_at "go"
            exact hN _ _ ⟨_, i + 1, qq, w1, rfl, h1'', h2'', Fr.upd.trans Fr.upd, by omega, hq, w0, by omega⟩
        · walk_at "go"
          exact hN _ _ ⟨_, i, qq, s1, rfl, h1, h2, Fr.refl d H, hi, hq, hs, hs2⟩
      · walk_at "go"
        exact hN _ _ ⟨_, i, qq, s1, rfl, h1, h2, Fr.refl d H, hi, hq, hs, hs2⟩
    case rest =>
      rintro σ' H1 ⟨y2, i, qq, s1, rfl, h1, h2, fr, hi, hq, hs, hs2⟩
      walk_at "go"
      refine g_ixL (SqL.at h1) rfl ?_
      walk_at "go"
      refine g_ite (fun e0 => ?_) (fun e0 => ?_)
      · walk_at "go"
        refine g_ixL (SqL.at h1) rfl ?_
        walk_at "go"
        refine g_rI n0 ?_
        walk_at "go"
        refine g_ixL (SqL.at h1) rfl ?_
        walk_at "go"
        refine g_rI (wide_div n0 (b := 60) (by omega) (by decide) (by decide)) ?_
        walk_at "go"
        refine g_setL h1 rfl ?_
        walk_at "go"
        exact q _ _ (fr.trans Fr.upd) ⟨cs, i, _, s1, t, upd_same, by rw [upd_ne ncd]; exact h2, ncd, h0, hi, Int.ediv_nonneg hq (by omega), hs, hs2, ht⟩ (Int.emod_nonneg _ (by omega)) (Int.emod_lt_of_pos _ n0)
      · walk_at "go"
        refine g_ixL (SqL.at h1) rfl ?_
        walk_at "go"
        refine g_setL h1 rfl ?_
        have h1' : upd H1 d (.lst [.ref c, .int i, .int qq, .int s1, .int (t + 1)]) d = some (.lst [.ref c, .int i, .int qq, .int s1, .int (t + 1)]) := upd_same
        walk_at "go"
        refine g_ixL (SqL.at h1') rfl ?_
        walk_at "go"
        refine g_ixL (SqL.at h1') rfl ?_
        walk_at "go"
        refine g_rI (.inl ⟨by decide, by decide⟩) ?_
        walk_at "go"
        refine g_rI (.inr ⟨by decide, by decide⟩) ?_
        walk_at "go"
        refine g_rI (by decide) ?_
        generalize hw : ((s1 + 7919 * (t + 1)) * 48271) % 2147483647 = w1
        have w0 : 0 ≤ w1 := by rw [← hw]; exact Int.emod_nonneg _ (by decide)
        have w2 : w1 < 2147483647 := by rw [← hw]; exact Int.emod_lt_of_pos _ (by decide)
        walk_at "go"
        refine g_rI ⟨by decide, by decide⟩ ?_
        walk_at "go"
        refine g_rI (.inl ⟨by omega, by omega⟩) ?_
        walk_at "go"
        refine g_rI (by decide) ?_
        generalize hm : (w1 * (w1 / 1009 + 69621)) % 2147483647 = m1
        have m0 : 0 ≤ m1 := by rw [← hm]; exact Int.emod_nonneg _ (by decide)
        have m2 : m1 < 2147483647 := by rw [← hm]; exact Int.emod_lt_of_pos _ (by decide)
        walk_at "go"
        refine g_rI ⟨by decide, by decide⟩ ?_
        walk_at "go"
        refine g_rI (.inl ⟨by omega, by omega⟩) ?_
        walk_at "go"
        refine g_rI (by decide) ?_
        walk_at "go"
        refine g_rI ⟨by decide, by decide⟩ ?_
        walk_at "go"
        refine g_rI n0 ?_
        exact q _ _ (fr.trans Fr.upd) ⟨cs, i, qq, s1, t + 1, upd_same, by rw [upd_ne ncd]; exact h2, ncd, h0, hi, hq, hs, hs2, by omega⟩ (Int.emod_nonneg _ (by omega)) (Int.emod_lt_of_pos _ n0)

end

section
variable {P : Program} {w : World} {K : PySem.W.Frag} {mg : Str → Option Value} {base : Heap} {a : Ad}
/-! ### kinds -/
def sp_is_integer (K : PySem.W.Frag) : Sp := fun vs H Q _ => ∃ v b, vs = [v] ∧ IntK K H v b ∧ Q (.bl b) H
theorem ok_is_integer (T : Txt K mg a) : FnOk P w K mg base CX0 1 a.f_is_integer a.d_is_integer ["thing"] (sp_is_integer K) := by
  refine T.F_is_integer.ok sc_is_integer (fun vs H Q E h => ?_) (fun cdv A outer s H vs Q E hr h => ?_)
  · obtain ⟨v, b, rfl, _⟩ := h
    rfl
  · obtain ⟨v, b, rfl, ⟨t, b1, b2, ty, k1, k2, rfl⟩, q⟩ := h
    refine ⟨_, (pss_one (ps_ret (pe_and (pe_callB (kIsi K rfl) (by rfl) T.z_isinstance (by decide +kernel) (pa_cons (pv 0) (pa_cons (pe_bltn (v := .ty "int") (by rfl) T.z_int (by decide +kernel) rfl) pa_nil))) (pe_one (pe_not (pe_callB (kIsi K rfl) (by rfl) T.z_isinstance (by decide +kernel) (pa_cons (pv 0) (pa_cons (pe_bltn (v := .ty "bool") (by rfl) T.z_bool (by decide +kernel) rfl) pa_nil)))))))), ?_⟩
    walk_at "go"
    refine g_isi ty k1 ?_
    walk_at "go"
    cases b1 with
    | true =>
      walk_at "go"
      refine g_isi ty k2 ?_
      walk_at "go"
      exact q
    | false =>
      walk_at "go"
      exact q
def sp_is_between (K : PySem.W.Frag) : Sp := fun vs H Q _ => ∃ v lo hi, vs = [v, .int lo, .int hi] ∧ ((∃ i, v = .int i ∧ Q (.bl (decide (lo ≤ i ∧ i ≤ hi))) H) ∨ (IntK K H v false ∧ Q (.bl false) H))
theorem ok_is_between (T : Txt K mg a) : FnOk P w K mg base CX0 2 a.f_is_between a.d_is_between ["thing", "least", "most"] (sp_is_between K) := by
  refine T.F_is_between.ok sc_is_between (fun vs H Q E h => ?_) (fun cdv A outer s H vs Q E hr h => ?_)
  · obtain ⟨v, lo, hi, rfl, _⟩ := h
    rfl
  · obtain ⟨v, lo, hi, rfl, h⟩ := h
    refine ⟨_, (pss_one (ps_ret (pe_and (pe_call (ok_is_integer T) (hr.mono (by first | decide | omega)) (by rfl) T.g_is_integer T.F_is_integer.kp (T.b_is_integer) .nil pass0 (pa_cons (pv 0) pa_nil)) (pe_one (pe_chain op_le op_le (pv 1) (pv 0) (pv 2)))))), ?_⟩
    rcases h with ⟨i, rfl, q⟩ | ⟨k, q⟩
    · walk_at "go"
      refine ⟨_, _, rfl, IntK.int i, ?_⟩
      walk_at "go"
      refine g_ite (fun e1 => ?_) (fun e1 => ?_)
      · walk_at "go"
        rw [show decide (i ≤ hi) = decide (lo ≤ i ∧ i ≤ hi) from by simp [e1]]
        exact q
      · walk_at "go"
        rw [show false = decide (lo ≤ i ∧ i ≤ hi) from by simp [e1]]
        exact q
    · walk_at "go"
      refine ⟨_, _, rfl, k, ?_⟩
      walk_at "go"
      exact q
def sp_is_number (K : PySem.W.Frag) : Sp := fun vs H Q _ => ∃ v n, vs = [v, .int n] ∧ ((∃ i, v = .int i ∧ Q (.bl (decide (0 ≤ i ∧ i < n))) H) ∨ (IntK K H v false ∧ Q (.bl false) H))
theorem ok_is_number (T : Txt K mg a) : FnOk P w K mg base CX0 3 a.f_is_number a.d_is_number ["thing", "many"] (sp_is_number K) := by
  refine T.F_is_number.ok sc_is_number (fun vs H Q E h => ?_) (fun cdv A outer s H vs Q E hr h => ?_)
  · obtain ⟨v, n, rfl, _⟩ := h
    rfl
  · obtain ⟨v, n, rfl, h⟩ := h
    refine ⟨_, (pss_one (ps_ret (pe_call (ok_is_between T) (hr.mono (by first | decide | omega)) (by rfl) T.g_is_between T.F_is_between.kp (T.b_is_between) .nil pass0 (pa_cons (pv 0) (pa_cons pe_int (pa_cons (pe_op op_sub (pv 1) pe_int) pa_nil)))))), ?_⟩
    rcases h with ⟨i, rfl, q⟩ | ⟨k, q⟩
    · walk_at "go"
      refine ⟨_, _, _, rfl, .inl ⟨i, rfl, ?_⟩⟩
      rw [show decide (0 ≤ i ∧ i ≤ n - 1) = decide (0 ≤ i ∧ i < n) from by
        rw [Bool.eq_iff_iff, decide_eq_true_iff, decide_eq_true_iff]; omega]
      exact q
    · walk_at "go"
      exact ⟨_, _, _, rfl, .inr ⟨k, q⟩⟩

end

section
variable {P : Program} {w : World} {K : PySem.W.Frag} {mg : Str → Option Value} {base : Heap} {a : Ad}
/-! ### alike -/
mutual
def dep : PyData → Nat
  | .tuple ds => depAll ds + 1
  | .list ds => depAll ds + 1
  | _ => 0
def depAll : List PyData → Nat
  | [] => 0
  | d :: ds => max (dep d) (depAll ds)
end
mutual
def sm : PyData → Bool
  | .tuple ds => decide (ds.length ≤ 1000000) && smAll ds
  | .list ds => decide (ds.length ≤ 1000000) && smAll ds
  | _ => true
def smAll : List PyData → Bool
  | [] => true
  | d :: ds => sm d && smAll ds
end
theorem dep_at : ∀ {ds : List PyData} {i : Nat} {d : PyData}, ds[i]? = some d → dep d ≤ depAll ds
  | [], _, _, h => by simp at h
  | e :: ds, 0, _, h => by
    cases h
    unfold depAll
    omega
  | e :: ds, i + 1, _, h => by
    have := dep_at (ds := ds) (i := i) (by simpa using h)
    unfold depAll
    omega
theorem sm_at : ∀ {ds : List PyData} {i : Nat} {d : PyData}, smAll ds = true → ds[i]? = some d → sm d = true
  | [], _, _, _, h => by simp at h
  | e :: ds, 0, _, s, h => by
    cases h
    unfold smAll at s
    rw [Bool.and_eq_true] at s
    exact s.1
  | e :: ds, i + 1, _, s, h => by
    unfold smAll at s
    rw [Bool.and_eq_true] at s
    exact sm_at (ds := ds) (i := i) s.2 (by simpa using h)
theorem DpAll.get {K : PySem.W.Frag} {H : Hp} {vs : List V} {ds : List PyData} {i : Nat} {v : V} (h : DpAll K H vs ds) (e : vs[i]? = some v) : ∃ d, ds[i]? = some d ∧ Dp K H v d := by
  have hl : i < ds.length := by rw [← DpAll.len h]; exact (List.getElem?_eq_some_iff.mp e).1
  exact ⟨_, List.getElem?_eq_getElem hl, DpAll.at h e (List.getElem?_eq_getElem hl)⟩
theorem g_isiT {K : PySem.W.Frag} {H : Hp} {Q : VK} {x : V} {p : Addr} {n m : String} {t : Value} {b b2 : Bool} (hp : H p = some (.tup [.ty n, .ty m])) (ty : TyX K H x t) (k : PySem.W.kitOne K t (.type n) = some b) (k2 : PySem.W.kitOne K t (.type m) = some b2) (q : Q (.bl (b || b2)) H) : rIsiT K [x, .ref p] H Q :=
  ⟨x, p, _, t, [.type n, .type m], _, rfl, hp, .cons (.ty n) (.cons (.ty m) .nil), ty, kitAny2 k k2, q⟩
/-- what tells that data are no tuple and no list -/
def leafD : PyData → Bool
  | .tuple _ => false
  | .list _ => false
  | .dict _ => false
  | _ => true
theorem leaf_kit {K : PySem.W.Frag} {d : PyData} (h : leafD d = true) : PySem.W.kitOne K (.type (tyD d)) (.type "tuple") = some false ∧ PySem.W.kitOne K (.type (tyD d)) (.type "list") = some false ∧ ∃ b, PySem.W.kitOne K (.type (tyD d)) (.type "bool") = some b := by
  cases d with
  | none => exact ⟨kit_ty (a := "NoneType") (by decide +kernel), kit_ty (a := "NoneType") (by decide +kernel), false, kit_ty (a := "NoneType") (by decide +kernel)⟩
  | bool z => exact ⟨kit_ty (a := "bool") (by decide +kernel), kit_ty (a := "bool") (by decide +kernel), true, kit_ty (a := "bool") (by decide +kernel)⟩
  | int z => exact ⟨kit_ty (a := "int") (by decide +kernel), kit_ty (a := "int") (by decide +kernel), false, kit_ty (a := "int") (by decide +kernel)⟩
  | str z => exact ⟨kit_ty (a := "str") (by decide +kernel), kit_ty (a := "str") (by decide +kernel), false, kit_ty (a := "str") (by decide +kernel)⟩
  | tuple z => cases h
  | list z => cases h
  | dict z => cases h
theorem all_rep (n : Nat) : (List.replicate n true).all id = true := by
  rw [List.all_eq_true]
  intro x hx
  exact (List.mem_replicate.mp hx).2
def sp_law_is (K : PySem.W.Frag) (n : Nat) : Sp := fun vs H Q _ => ∃ x y d, vs = [x, y] ∧ Dp K H x d ∧ Dp K H y d ∧ dep d ≤ n ∧ sm d = true ∧ ∀ H', Same H H' → Q (.bl true) H'
theorem ok_law_is0 (T : Txt K mg a) {k : Nat} : FnOk P w K mg base CX0 (k + 1) a.f_law_is a.d_law_is ["_law_told", "_law_due"] (fun vs H Q _ => ∃ x y d, vs = [x, y] ∧ Dp K H x d ∧ Dp K H y d ∧ leafD d = true ∧ ∀ H', Same H H' → Q (.bl true) H') := by
  refine T.F_law_is.ok sc_law_is (fun vs H Q E h => ?_) (fun cdv A outer s H vs Q E hr h => ?_)
  · obtain ⟨x, y, d, rfl, _⟩ := h
    rfl
  · obtain ⟨x, y, d, rfl, hx, hy, lf, q⟩ := h
    refine ⟨_, (pss_cons (ps_if (pt_val (pe_callB (kIsiT K rfl) (by rfl) T.z_isinstance (by decide +kernel) (pa_cons (pv 1) (pa_cons (pe_tup (pa_cons (pe_bltn (v := .ty "tuple") (by rfl) T.z_tuple (by decide +kernel) rfl) (pa_cons (pe_bltn (v := .ty "list") (by rfl) T.z_list (by decide +kernel) rfl) pa_nil))) pa_nil)))) pss_never pss_nil)
  (pss_one (ps_ret (pe_and (pe_cmpR op_eq (pe_callB (kIsi K rfl) (by rfl) T.z_isinstance (by decide +kernel) (pa_cons (pv 0) (pa_cons (pe_bltn (v := .ty "bool") (by rfl) T.z_bool (by decide +kernel) rfl) pa_nil))) (pe_callB (kIsi K rfl) (by rfl) T.z_isinstance (by decide +kernel) (pa_cons (pv 1) (pa_cons (pe_bltn (v := .ty "bool") (by rfl) T.z_bool (by decide +kernel) rfl) pa_nil))) (nomark _)) (pe_one (pe_cmpR op_eq (pv 0) (pv 1) (nomark _))))))), ?_⟩
    walk_at "go"
    refine ⟨by show 2 ≤ sizeLine; decide, fun p np => ?_⟩
    walk_at "go"
    have s1 : Same H (upd H p (.tup [.ty "tuple", .ty "list"])) := same_new np
    have hy1 := Dp.same s1 _ _ hy
    have hx1 := Dp.same s1 _ _ hx
    obtain ⟨k1, k2, b, kb⟩ := leaf_kit (K := K) lf
    refine g_isiT upd_same (Dp.ty hy1) k1 k2 ?_
    · walk_at "go"
      refine g_isi (Dp.ty hx1) kb ?_
      walk_at "go"
      refine g_isi (Dp.ty hy1) kb ?_
      walk_at "go"
      rw [show (b == b) = true from by cases b <;> rfl]
      walk_at "go"
      have : x = y ∧ scal x y = true := by
        cases hx <;> cases hy <;> first | exact ⟨rfl, rfl⟩ | cases lf
      obtain ⟨rfl, sc⟩ := this
      refine ⟨sc, ?_⟩
      rw [decide_eq_true rfl]
      exact q _ s1
theorem ok_law_is_tuple (T : Txt K mg a) {n : Nat} (G : FnOk P w K mg base CX0 (n + 1) a.f_law_is a.d_law_is ["_law_told", "_law_due"] (sp_law_is K n)) : FnOk P w K mg base CX0 (n + 2) a.f_law_is a.d_law_is ["_law_told", "_law_due"] (fun vs H Q _ => ∃ x y ds, vs = [x, y] ∧ Dp K H x (.tuple ds) ∧ Dp K H y (.tuple ds) ∧ dep (.tuple ds) ≤ n + 1 ∧ sm (.tuple ds) = true ∧ ∀ H', Same H H' → Q (.bl true) H') := by
  refine T.F_law_is.ok sc_law_is (fun vs H Q E h => ?_) (fun cdv A outer s H vs Q E hr h => ?_)
  · obtain ⟨x, y, d, rfl, _⟩ := h
    rfl
  · obtain ⟨x, y, ds, rfl, hx, hy, hd, hsm, q⟩ := h
    refine ⟨_, (pss_cons (ps_if (pt_val (pe_callB (kIsiT K rfl) (by rfl) T.z_isinstance (by decide +kernel) (pa_cons (pv 1) (pa_cons (pe_tup (pa_cons (pe_bltn (v := .ty "tuple") (by rfl) T.z_tuple (by decide +kernel) rfl) (pa_cons (pe_bltn (v := .ty "list") (by rfl) T.z_list (by decide +kernel) rfl) pa_nil))) pa_nil))))
  (pss_cons (ps_if (PW.pt (pw_or (pt_cmpR op_ne (pe_callB (kIsi K rfl) (by rfl) T.z_isinstance (by decide +kernel) (pa_cons (pv 0) (pa_cons (pe_bltn (v := .ty "tuple") (by rfl) T.z_tuple (by decide +kernel) rfl) pa_nil))) (pe_callB (kIsi K rfl) (by rfl) T.z_isinstance (by decide +kernel) (pa_cons (pv 1) (pa_cons (pe_bltn (v := .ty "tuple") (by rfl) T.z_tuple (by decide +kernel) rfl) pa_nil))) (nomark _)) (pw_or1 (pt_not (pt_val (pe_callB (kIsiT K rfl) (by rfl) T.z_isinstance (by decide +kernel) (pa_cons (pv 0) (pa_cons (pe_tup (pa_cons (pe_bltn (v := .ty "tuple") (by rfl) T.z_tuple (by decide +kernel) rfl) (pa_cons (pe_bltn (v := .ty "list") (by rfl) T.z_list (by decide +kernel) rfl) pa_nil))) pa_nil))))))))
  (pss_one (ps_ret pe_bl))
  pss_nil)
  (pss_one (ps_ret (pe_and (pe_cmpR op_eq (pe_callB (kLen K rfl) (by rfl) T.z_len (by decide +kernel) (pa_cons (pv 0) pa_nil)) (pe_callB (kLen K rfl) (by rfl) T.z_len (by decide +kernel) (pa_cons (pv 1) pa_nil)) (nomark _)) (pe_one (pe_callB (kAll K rfl rfl) (by rfl) T.z_all (by decide +kernel) (pa_cons (pe_lc (own := [("_law_one", 2), ("_law_two", 3)]) (g := (gTup K 2 (gCons (gName 2) (gCons (gName 3) gNil)))) rfl sc_law_is.nd (kiZip K rfl (by rfl) T.z_zip (pa_cons (pv 0) (pa_cons (pv 1) pa_nil))) (blkOk_by (own := [("_law_one", 2), ("_law_two", 3)]) (N := ["_law_told", "_law_due", "_law_one", "_law_two"]) (sc := defScope s_law_is) (by decide +kernel)) (fun _ _ _ _ _ => (kgTup K rfl rfl (pgs_cons (pg_name (i := 2) sc_law_is.nd rfl (.inl rfl)) (pgs_cons (pg_name (i := 3) sc_law_is.nd rfl (.inl rfl)) pgs_nil)))) (fun _ _ _ _ _ => pts_nil) (fun _ _ _ _ _ => (pe_call G (hr.mono (by first | decide | omega)) (by rfl) T.g_law_is T.F_law_is.kp (T.b_law_is) .nil pass0 (pa_cons (pv 2) (pa_cons (pv 3) pa_nil))))) pa_nil)))))))
  pss_nil)
  (pss_one (ps_ret (pe_and (pe_cmpR op_eq (pe_callB (kIsi K rfl) (by rfl) T.z_isinstance (by decide +kernel) (pa_cons (pv 0) (pa_cons (pe_bltn (v := .ty "bool") (by rfl) T.z_bool (by decide +kernel) rfl) pa_nil))) (pe_callB (kIsi K rfl) (by rfl) T.z_isinstance (by decide +kernel) (pa_cons (pv 1) (pa_cons (pe_bltn (v := .ty "bool") (by rfl) T.z_bool (by decide +kernel) rfl) pa_nil))) (nomark _)) (pe_one (pe_cmpR op_eq (pv 0) (pv 1) (nomark _))))))), ?_⟩
    walk_at "go"
    refine ⟨by show 2 ≤ sizeLine; decide, fun p np => ?_⟩
    walk_at "go"
    have s1 : Same H (upd H p (.tup [.ty "tuple", .ty "list"])) := same_new np
    have hy1 := Dp.same s1 _ _ hy
    have hx1 := Dp.same s1 _ _ hx
    refine g_isiT (b := true) (b2 := false) upd_same (Dp.ty hy1) (kit_ty (a := "tuple") (by decide +kernel)) (kit_ty (a := "tuple") (by decide +kernel)) ?_
    walk_at "go"
    refine g_isi (b := true) (Dp.ty hx1) (kit_ty (a := "tuple") (b := "tuple") (by decide +kernel)) ?_
    walk_at "go"
    refine g_isi (b := true) (Dp.ty hy1) (kit_ty (a := "tuple") (b := "tuple") (by decide +kernel)) ?_
    walk_at "go"
    rw [show (true == true) = true from rfl]
    walk_at "go"
    refine ⟨by show 2 ≤ sizeLine; decide, fun p2 np2 => ?_⟩
    walk_at "go"
    have s2 := s1.trans (same_new (o := .tup [.ty "tuple", .ty "list"]) np2)
    have hy2 := Dp.same s2 _ _ hy
    have hx2 := Dp.same s2 _ _ hx
    refine g_isiT (b := true) (b2 := false) upd_same (Dp.ty hx2) (kit_ty (a := "tuple") (by decide +kernel)) (kit_ty (a := "tuple") (by decide +kernel)) ?_
    walk_at "go"
    cases hx2 with
    | tup qx rx =>
    cases hy2 with
    | tup qy ry =>
      refine ⟨_, _, rfl, .inr qx, ?_⟩
      walk_at "go"
      refine ⟨_, _, rfl, .inr qy, ?_⟩
      walk_at "go"
      rw [DpAll.len rx, DpAll.len ry, decide_eq_true rfl]
      walk_at "go"
      refine ⟨_, _, _, _, rfl, .inr ⟨qx, qy, fun D nD => ?_⟩⟩
      have hlen : ds.length ≤ 1000000 := by
        unfold sm at hsm
        rw [Bool.and_eq_true] at hsm
        exact of_decide_eq_true hsm.1
      have hall : smAll ds = true := by
        unfold sm at hsm
        rw [Bool.and_eq_true] at hsm
        exact hsm.2
      have hda : depAll ds ≤ n := by
        unfold dep at hd
        omega
      refine lc_same (H0 := upd (upd H p (.tup [.ty "tuple", .ty "list"])) p2 (.tup [.ty "tuple", .ty "list"])) (walk_zipT (K := K) (n := ds.length) (by rw [DpAll.len rx, DpAll.len ry, Nat.min_self])) (fun i => (List.replicate i true).map V.bl) rfl (fun i hi => ?_) (Same.refl _) nD nD (fun H' s' => ⟨(Tx.of s').seq qx, (Tx.of s').seq qy⟩) (fun i x' H2 H3 C Cn hi s3 hy' hC hN => ?_) (fun H' s3 hD => ?_)
      · rw [List.length_map, List.length_replicate]
        exact Nat.lt_of_le_of_lt (show i ≤ 1000000 by omega) (by decide)
      · obtain ⟨Tp, x1, y1, rfl, nT, rfl, e1, e2⟩ := hy'
        obtain ⟨d1, g1, r1⟩ := DpAll.get rx e1
        obtain ⟨d2, g2, r2⟩ := DpAll.get ry e2
        have ed : d2 = d1 := Option.some.inj (g2.symm.trans g1)
        subst ed
        have sT : Same _ (upd H2 Tp (.tup [x1, y1])) := s3.trans (same_new nT)
        refine ⟨Tp, _, rfl, SqT.new, rfl, _, _, rfl, _, _, rfl, rfl, rfl, ?_⟩
        walk_at "go"
        refine ⟨x1, y1, d2, rfl, Dp.same sT _ _ r1, Dp.same sT _ _ r2, Nat.le_trans (dep_at g1) hda, sm_at hall g1, fun H4 s4 => hC _ _ ((same_new nT).trans s4) ?_⟩
        rw [List.replicate_succ', List.map_append]
        rfl
      · walk_at "go"
        refine ⟨D, _, rfl, SqL.at hD, ?_⟩
        rw [all_rep]
        exact q _ (s2.trans s3)
theorem ok_law_is_list (T : Txt K mg a) {n : Nat} (G : FnOk P w K mg base CX0 (n + 1) a.f_law_is a.d_law_is ["_law_told", "_law_due"] (sp_law_is K n)) : FnOk P w K mg base CX0 (n + 2) a.f_law_is a.d_law_is ["_law_told", "_law_due"] (fun vs H Q _ => ∃ x y ds, vs = [x, y] ∧ Dp K H x (.list ds) ∧ Dp K H y (.list ds) ∧ dep (.list ds) ≤ n + 1 ∧ sm (.list ds) = true ∧ ∀ H', Same H H' → Q (.bl true) H') := by
  refine T.F_law_is.ok sc_law_is (fun vs H Q E h => ?_) (fun cdv A outer s H vs Q E hr h => ?_)
  · obtain ⟨x, y, d, rfl, _⟩ := h
    rfl
  · obtain ⟨x, y, ds, rfl, hx, hy, hd, hsm, q⟩ := h
    refine ⟨_, (pss_cons (ps_if (pt_val (pe_callB (kIsiT K rfl) (by rfl) T.z_isinstance (by decide +kernel) (pa_cons (pv 1) (pa_cons (pe_tup (pa_cons (pe_bltn (v := .ty "tuple") (by rfl) T.z_tuple (by decide +kernel) rfl) (pa_cons (pe_bltn (v := .ty "list") (by rfl) T.z_list (by decide +kernel) rfl) pa_nil))) pa_nil))))
  (pss_cons (ps_if (PW.pt (pw_or (pt_cmpR op_ne (pe_callB (kIsi K rfl) (by rfl) T.z_isinstance (by decide +kernel) (pa_cons (pv 0) (pa_cons (pe_bltn (v := .ty "tuple") (by rfl) T.z_tuple (by decide +kernel) rfl) pa_nil))) (pe_callB (kIsi K rfl) (by rfl) T.z_isinstance (by decide +kernel) (pa_cons (pv 1) (pa_cons (pe_bltn (v := .ty "tuple") (by rfl) T.z_tuple (by decide +kernel) rfl) pa_nil))) (nomark _)) (pw_or1 (pt_not (pt_val (pe_callB (kIsiT K rfl) (by rfl) T.z_isinstance (by decide +kernel) (pa_cons (pv 0) (pa_cons (pe_tup (pa_cons (pe_bltn (v := .ty "tuple") (by rfl) T.z_tuple (by decide +kernel) rfl) (pa_cons (pe_bltn (v := .ty "list") (by rfl) T.z_list (by decide +kernel) rfl) pa_nil))) pa_nil))))))))
  (pss_one (ps_ret pe_bl))
  pss_nil)
  (pss_one (ps_ret (pe_and (pe_cmpR op_eq (pe_callB (kLen K rfl) (by rfl) T.z_len (by decide +kernel) (pa_cons (pv 0) pa_nil)) (pe_callB (kLen K rfl) (by rfl) T.z_len (by decide +kernel) (pa_cons (pv 1) pa_nil)) (nomark _)) (pe_one (pe_callB (kAll K rfl rfl) (by rfl) T.z_all (by decide +kernel) (pa_cons (pe_lc (own := [("_law_one", 2), ("_law_two", 3)]) (g := (gTup K 2 (gCons (gName 2) (gCons (gName 3) gNil)))) rfl sc_law_is.nd (kiZip K rfl (by rfl) T.z_zip (pa_cons (pv 0) (pa_cons (pv 1) pa_nil))) (blkOk_by (own := [("_law_one", 2), ("_law_two", 3)]) (N := ["_law_told", "_law_due", "_law_one", "_law_two"]) (sc := defScope s_law_is) (by decide +kernel)) (fun _ _ _ _ _ => (kgTup K rfl rfl (pgs_cons (pg_name (i := 2) sc_law_is.nd rfl (.inl rfl)) (pgs_cons (pg_name (i := 3) sc_law_is.nd rfl (.inl rfl)) pgs_nil)))) (fun _ _ _ _ _ => pts_nil) (fun _ _ _ _ _ => (pe_call G (hr.mono (by first | decide | omega)) (by rfl) T.g_law_is T.F_law_is.kp (T.b_law_is) .nil pass0 (pa_cons (pv 2) (pa_cons (pv 3) pa_nil))))) pa_nil)))))))
  pss_nil)
  (pss_one (ps_ret (pe_and (pe_cmpR op_eq (pe_callB (kIsi K rfl) (by rfl) T.z_isinstance (by decide +kernel) (pa_cons (pv 0) (pa_cons (pe_bltn (v := .ty "bool") (by rfl) T.z_bool (by decide +kernel) rfl) pa_nil))) (pe_callB (kIsi K rfl) (by rfl) T.z_isinstance (by decide +kernel) (pa_cons (pv 1) (pa_cons (pe_bltn (v := .ty "bool") (by rfl) T.z_bool (by decide +kernel) rfl) pa_nil))) (nomark _)) (pe_one (pe_cmpR op_eq (pv 0) (pv 1) (nomark _))))))), ?_⟩
    walk_at "go"
    refine ⟨by show 2 ≤ sizeLine; decide, fun p np => ?_⟩
    walk_at "go"
    have s1 : Same H (upd H p (.tup [.ty "tuple", .ty "list"])) := same_new np
    have hy1 := Dp.same s1 _ _ hy
    have hx1 := Dp.same s1 _ _ hx
    refine g_isiT (b := false) (b2 := true) upd_same (Dp.ty hy1) (kit_ty (a := "list") (by decide +kernel)) (kit_ty (a := "list") (by decide +kernel)) ?_
    walk_at "go"
    refine g_isi (b := false) (Dp.ty hx1) (kit_ty (a := "list") (b := "tuple") (by decide +kernel)) ?_
    walk_at "go"
    refine g_isi (b := false) (Dp.ty hy1) (kit_ty (a := "list") (b := "tuple") (by decide +kernel)) ?_
    walk_at "go"
    rw [show (false == false) = true from rfl]
    walk_at "go"
    refine ⟨by show 2 ≤ sizeLine; decide, fun p2 np2 => ?_⟩
    walk_at "go"
    have s2 := s1.trans (same_new (o := .tup [.ty "tuple", .ty "list"]) np2)
    have hy2 := Dp.same s2 _ _ hy
    have hx2 := Dp.same s2 _ _ hx
    refine g_isiT (b := false) (b2 := true) upd_same (Dp.ty hx2) (kit_ty (a := "list") (by decide +kernel)) (kit_ty (a := "list") (by decide +kernel)) ?_
    walk_at "go"
    cases hx2 with
    | lst qx rx =>
    cases hy2 with
    | lst qy ry =>
      refine ⟨_, _, rfl, .inl qx, ?_⟩
      walk_at "go"
      refine ⟨_, _, rfl, .inl qy, ?_⟩
      walk_at "go"
      rw [DpAll.len rx, DpAll.len ry, decide_eq_true rfl]
      walk_at "go"
      refine ⟨_, _, _, _, rfl, .inl ⟨qx, qy, fun D nD => ?_⟩⟩
      have hlen : ds.length ≤ 1000000 := by
        unfold sm at hsm
        rw [Bool.and_eq_true] at hsm
        exact of_decide_eq_true hsm.1
      have hall : smAll ds = true := by
        unfold sm at hsm
        rw [Bool.and_eq_true] at hsm
        exact hsm.2
      have hda : depAll ds ≤ n := by
        unfold dep at hd
        omega
      refine lc_same (H0 := upd (upd H p (.tup [.ty "tuple", .ty "list"])) p2 (.tup [.ty "tuple", .ty "list"])) (walk_zip (K := K) (n := ds.length) (by rw [DpAll.len rx, DpAll.len ry, Nat.min_self])) (fun i => (List.replicate i true).map V.bl) rfl (fun i hi => ?_) (Same.refl _) nD nD (fun H' s' => ⟨s'.seq qx, s'.seq qy⟩) (fun i x' H2 H3 C Cn hi s3 hy' hC hN => ?_) (fun H' s3 hD => ?_)
      · rw [List.length_map, List.length_replicate]
        exact Nat.lt_of_le_of_lt (show i ≤ 1000000 by omega) (by decide)
      · obtain ⟨Tp, x1, y1, rfl, nT, rfl, e1, e2⟩ := hy'
        obtain ⟨d1, g1, r1⟩ := DpAll.get rx e1
        obtain ⟨d2, g2, r2⟩ := DpAll.get ry e2
        have ed : d2 = d1 := Option.some.inj (g2.symm.trans g1)
        subst ed
        have sT : Same _ (upd H2 Tp (.tup [x1, y1])) := s3.trans (same_new nT)
        refine ⟨Tp, _, rfl, SqT.new, rfl, _, _, rfl, _, _, rfl, rfl, rfl, ?_⟩
        walk_at "go"
        refine ⟨x1, y1, d2, rfl, Dp.same sT _ _ r1, Dp.same sT _ _ r2, Nat.le_trans (dep_at g1) hda, sm_at hall g1, fun H4 s4 => hC _ _ ((same_new nT).trans s4) ?_⟩
        rw [List.replicate_succ', List.map_append]
        rfl
      · walk_at "go"
        refine ⟨D, _, rfl, SqL.at hD, ?_⟩
        rw [all_rep]
        exact q _ (s2.trans s3)
theorem FnOk.cases3 {k : Nat} {f : Addr} {fd : FuncData} {ps : List Str} {sp sp1 sp2 sp3 : Sp} (F1 : FnOk P w K mg base CX0 k f fd ps sp1) (F2 : FnOk P w K mg base CX0 k f fd ps sp2) (F3 : FnOk P w K mg base CX0 k f fd ps sp3) (h : ∀ vs H Q E, sp vs H Q E → sp1 vs H Q E ∨ sp2 vs H Q E ∨ sp3 vs H Q E) : FnOk P w K mg base CX0 k f fd ps sp where
  len := fun vs H Q E q => by
    rcases h vs H Q E q with q | q | q
    · exact F1.len vs H Q E q
    · exact F2.len vs H Q E q
    · exact F3.len vs H Q E q
  run := fun A outer s H args us vs Q E hr e b r q => by
    rcases h vs H Q E q with q | q | q
    · exact F1.run A outer s H args us vs Q E hr e b r q
    · exact F2.run A outer s H args us vs Q E hr e b r q
    · exact F3.run A outer s H args us vs Q E hr e b r q
theorem ok_law_is (T : Txt K mg a) : ∀ n : Nat, FnOk P w K mg base CX0 (n + 1) a.f_law_is a.d_law_is ["_law_told", "_law_due"] (sp_law_is K n)
  | 0 => FnOk.imp (ok_law_is0 T) fun vs H Q E ⟨x, y, d, e, hx, hy, hd, hs, q⟩ => ⟨x, y, d, e, hx, hy, by
      cases hx <;> first | rfl | (unfold dep at hd; omega), q⟩
  | n + 1 => FnOk.cases3 (ok_law_is0 T) (ok_law_is_tuple T (ok_law_is T n)) (ok_law_is_list T (ok_law_is T n)) fun vs H Q E ⟨x, y, d, e, hx, hy, hd, hs, q⟩ => by
      cases hx with
      | non => exact .inl ⟨_, y, _, e, .non, hy, rfl, q⟩
      | bl b => exact .inl ⟨_, y, _, e, .bl b, hy, rfl, q⟩
      | int b => exact .inl ⟨_, y, _, e, .int b, hy, rfl, q⟩
      | str b => exact .inl ⟨_, y, _, e, .str b, hy, rfl, q⟩
      | tup a b => exact .inr (.inl ⟨_, y, _, e, .tup a b, hy, hd, hs, q⟩)
      | lst a b => exact .inr (.inr ⟨_, y, _, e, .lst a b, hy, hd, hs, q⟩)

end

section
variable {P : Program} {w : World} {K : PySem.W.Frag} {mg : Str → Option Value} {base : Heap} {a : Ad}
theorem dep_ints : ∀ ns : List Int, depAll (ns.map PyData.int) = 0
  | [] => rfl
  | _ :: r => by
    show max (dep (.int _)) (depAll (r.map PyData.int)) = 0
    rw [dep_ints r]
    rfl
theorem sm_ints : ∀ ns : List Int, smAll (ns.map PyData.int) = true
  | [] => rfl
  | _ :: r => by
    show (sm (.int _) && smAll (r.map PyData.int)) = true
    rw [sm_ints r]
    rfl
theorem dep_tupI (ns : List Int) : dep (tupI ns) ≤ 1 := by
  show depAll (ns.map PyData.int) + 1 ≤ 1
  rw [dep_ints]
  omega
theorem sm_tupI {ns : List Int} (h : ns.length ≤ 1000000) : sm (tupI ns) = true := by
  show (decide ((ns.map PyData.int).length ≤ 1000000) && smAll (ns.map PyData.int)) = true
  rw [sm_ints, List.length_map, decide_eq_true h]
  rfl

end

section
variable {P : Program} {w : World} {K : PySem.W.Frag} {mg : Str → Option Value} {base : Heap} {a : Ad}
/-! ### rows, logs -/
def sp_is_tuple_of (K : PySem.W.Frag) : Sp := fun vs H Q _ => ∃ v n, vs = [v, .int n] ∧ ((∃ p xs, v = .ref p ∧ SqT K H p xs ∧ Q (.bl (decide ((xs.length : Int) = n))) H) ∨ (∃ t, TyX K H v t ∧ PySem.W.kitOne K t (.type "tuple") = some false ∧ Q (.bl false) H))
theorem TyX.tup {K : PySem.W.Frag} {H : Hp} {p : Addr} {xs : List V} (h : SqT K H p xs) : TyX K H (.ref p) (.type "tuple") := by
  rcases h with (q | ⟨o, q⟩) | ⟨o, its, n, e, c, _⟩
  · exact .base (.tup q)
  · exact .fTuple q
  · exact .kTuple e c
theorem ok_is_tuple_of (T : Txt K mg a) : FnOk P w K mg base CX0 1 a.f_is_tuple_of a.d_is_tuple_of ["thing", "many"] (sp_is_tuple_of K) := by
  refine T.F_is_tuple_of.ok sc_is_tuple_of (fun vs H Q E h => ?_) (fun cdv A outer s H vs Q E hr h => ?_)
  · obtain ⟨v, n, rfl, _⟩ := h
    rfl
  · obtain ⟨v, n, rfl, h⟩ := h
    refine ⟨_, (pss_one (ps_ret (pe_and (pe_callB (kIsi K rfl) (by rfl) T.z_isinstance (by decide +kernel) (pa_cons (pv 0) (pa_cons (pe_bltn (v := .ty "tuple") (by rfl) T.z_tuple (by decide +kernel) rfl) pa_nil))) (pe_one (pe_cmpR op_eq (pe_callB (kLen K rfl) (by rfl) T.z_len (by decide +kernel) (pa_cons (pv 0) pa_nil)) (pv 1) (nomark _)))))), ?_⟩
    rcases h with ⟨p, xs, rfl, hp, q⟩ | ⟨t, ty, k, q⟩
    · walk_at "go"
      refine g_isi (TyX.tup hp) (b := true) (kit_ty (a := "tuple") (by decide +kernel)) ?_
      walk_at "go"
      refine ⟨_, _, rfl, .inr hp, ?_⟩
      walk_at "go"
      exact q
    · walk_at "go"
      refine g_isi ty k ?_
      walk_at "go"
      exact q
/-- a good row -/
def sp_is_row (K : PySem.W.Frag) : Sp := fun vs H Q _ => ∃ v n r, vs = [.int n, v] ∧ Dp K H v (rowD r) ∧ GoodRow n r ∧ Q (.bl true) H
theorem ok_is_copying (T : Txt K mg a) : FnOk P w K mg base CX0 4 a.f_is_copying a.d_is_copying ["offices", "thing"] (sp_is_row K) := by
  refine T.F_is_copying.ok sc_is_copying (fun vs H Q E h => ?_) (fun cdv A outer s H vs Q E hr h => ?_)
  · obtain ⟨v, n, r, rfl, _⟩ := h
    rfl
  · obtain ⟨v, n, r, rfl, hv, ⟨g1, g2, g3, g4, g5⟩, q⟩ := h
    obtain ⟨p, rfl, hp⟩ := of_row hv
    refine ⟨_, (pss_cons (ps_if (pt_not (pt_val (pe_call (ok_is_tuple_of T) (hr.mono (by first | decide | omega)) (by rfl) T.g_is_tuple_of T.F_is_tuple_of.kp (T.b_is_tuple_of) .nil pass0 (pa_cons (pv 1) (pa_cons pe_int pa_nil)))))
  (pss_one (ps_ret pe_bl))
  pss_nil)
  (pss_cons (ps_asg (pv 1) (kgTup K rfl rfl (pgs_cons (pg_name (i := 2) sc_is_copying.nd rfl (.inl rfl)) (pgs_cons (pg_name (i := 3) sc_is_copying.nd rfl (.inl rfl)) (pgs_cons (pg_name (i := 4) sc_is_copying.nd rfl (.inl rfl)) pgs_nil)))))
  (pss_cons (ps_if (PW.pt (pw_or (pt_not (pt_val (pe_call (ok_is_number T) (hr.mono (by first | decide | omega)) (by rfl) T.g_is_number T.F_is_number.kp (T.b_is_number) .nil pass0 (pa_cons (pv 2) (pa_cons (pv 0) pa_nil))))) (pw_or1 (pt_not (pt_val (pe_call (ok_is_number T) (hr.mono (by first | decide | omega)) (by rfl) T.g_is_number T.F_is_number.kp (T.b_is_number) .nil pass0 (pa_cons (pv 3) (pa_cons (pv 0) pa_nil))))))))
  (pss_one (ps_ret pe_bl))
  pss_nil)
  (pss_one (ps_ret (pe_and (pe_cmpR op_ne (pv 2) (pv 3) (nomark _)) (pe_one (pe_callB (kIsi K rfl) (by rfl) T.z_isinstance (by decide +kernel) (pa_cons (pv 4) (pa_cons (pe_bltn (v := .ty "bool") (by rfl) T.z_bool (by decide +kernel) rfl) pa_nil)))))))))), ?_⟩
    walk_at "go"
    refine ⟨_, _, rfl, .inl ⟨p, _, rfl, hp, ?_⟩⟩
    rw [decide_eq_true (show (([V.int r.1, V.int r.2.1, V.bl r.2.2].length : Nat) : Int) = 3 from rfl)]
    walk_at "go"
    refine ⟨p, _, rfl, hp, rfl, _, _, rfl, _, _, rfl, _, _, rfl, rfl, ?_⟩
    walk_at "go"
    refine ⟨_, _, rfl, .inl ⟨_, rfl, ?_⟩⟩
    rw [decide_eq_true (show 0 ≤ r.1 ∧ r.1 < n from ⟨g1, g2⟩)]
    walk_at "go"
    refine ⟨_, _, rfl, .inl ⟨_, rfl, ?_⟩⟩
    rw [decide_eq_true (show 0 ≤ r.2.1 ∧ r.2.1 < n from ⟨g3, g4⟩)]
    walk_at "go"
    rw [decide_eq_false (show ¬ r.1 = r.2.1 by omega)]
    walk_at "go"
    refine g_isi (b := true) (.base (.bl _)) (kit_ty (a := "bool") (by decide +kernel)) ?_
    exact q
theorem ok_is_row (T : Txt K mg a) : FnOk P w K mg base CX0 5 a.f_is_row a.d_is_row ["offices", "thing"] (sp_is_row K) := by
  refine T.F_is_row.ok sc_is_row (fun vs H Q E h => ?_) (fun cdv A outer s H vs Q E hr h => ?_)
  · obtain ⟨v, n, r, rfl, _⟩ := h
    rfl
  · obtain ⟨v, n, r, rfl, hv, hg, q⟩ := h
    obtain ⟨g1, g2, g3, g4, g5⟩ := id hg
    obtain ⟨p, rfl, hp⟩ := of_row hv
    refine ⟨_, (pss_one (ps_ret (pe_and (pe_call (ok_is_copying T) (hr.mono (by first | decide | omega)) (by rfl) T.g_is_copying T.F_is_copying.kp (T.b_is_copying) .nil pass0 (pa_cons (pv 0) (pa_cons (pv 1) pa_nil))) (pe_one (pe_cmpR op_eq (pe_callB call_abs (by rfl) T.z_abs (by decide +kernel) (pa_cons (pe_op op_sub (pe_ix (kIxT K rfl) (pv 1) pe_int (fun _ _ => rfl)) (pe_ix (kIxT K rfl) (pv 1) pe_int (fun _ _ => rfl))) pa_nil)) pe_int (nomark _)))))), ?_⟩
    walk_at "go"
    refine ⟨_, n, r, rfl, hv, hg, ?_⟩
    walk_at "go"
    refine g_ixT hp (v := .int r.1) rfl ?_
    walk_at "go"
    refine g_ixT hp (v := .int r.2.1) rfl ?_
    walk_at "go"
    refine ⟨_, rfl, ?_⟩
    walk_at "go"
    rw [decide_eq_true (show (if r.1 - r.2.1 < 0 then -(r.1 - r.2.1) else r.1 - r.2.1) = 1 from by split <;> omega)]
    exact q
theorem g_enT {K : PySem.W.Frag} {σ : L2.St} {H : Hp} {R : It → Hp → Prop} {ta : TA} (q : ta σ H fun vs H1 => ∃ p xs, vs = [.ref p] ∧ SqT K H1 p xs ∧ R (IteT K p) H1) : (fun σ H R => ta σ H fun vs H1 => ∃ p xs, vs = [.ref p] ∧ SqT K H1 p xs ∧ R (IteT K p) H1 : TI) σ H R := q
def sp_wrong_part (K : PySem.W.Frag) (f : Addr) : Sp := fun vs H Q _ => ∃ n p rs, vs = [.int n, .ref p, .ref f] ∧ Dp K H (.ref p) (rowsD rs) ∧ GoodLog n rs ∧ ∀ H', Same H H' → Q .non H'
theorem ok_wrong_part (T : Txt K mg a) : FnOk P w K mg base CX0 6 a.f_wrong_part a.d_wrong_part ["offices", "rows", "is_right"] (sp_wrong_part K a.f_is_row) := by
  refine T.F_wrong_part.ok sc_wrong_part (fun vs H Q E h => ?_) (fun cdv A outer s H vs Q E hr h => ?_)
  · obtain ⟨n, p, rs, rfl, _⟩ := h
    rfl
  · obtain ⟨n, p, rs, rfl, hrs, ⟨n1, n2, l60, hgood⟩, q⟩ := h
    obtain ⟨p', xs, e, hp, ha⟩ := of_tup hrs
    cases e
    have hl := DpAll.len ha
    rw [List.length_map] at hl
    refine ⟨_, (pss_cons (ps_if (pt_not (pt_val (pe_call (ok_is_between T) (hr.mono (by first | decide | omega)) (by rfl) T.g_is_between T.F_is_between.kp (T.b_is_between) .nil pass0 (pa_cons (pv 0) (pa_cons pe_int (pa_cons (pe_glob (v := .int 12) rfl T.g_MOST_OFFICES.choose_spec ⟨_, rfl⟩) pa_nil))))))
  (pss_one (ps_ret pe_str))
  pss_nil)
  (pss_cons (ps_if (PW.pt (pw_or (pt_not (pt_val (pe_callB (kIsi K rfl) (by rfl) T.z_isinstance (by decide +kernel) (pa_cons (pv 1) (pa_cons (pe_bltn (v := .ty "tuple") (by rfl) T.z_tuple (by decide +kernel) rfl) pa_nil))))) (pw_or1 (pt_cmpR op_gt (pe_callB (kLen K rfl) (by rfl) T.z_len (by decide +kernel) (pa_cons (pv 1) pa_nil)) (pe_glob (v := .int 60) rfl T.g_MOST_ROWS.choose_spec ⟨_, rfl⟩) (nomark _)))))
  (pss_one (ps_ret pe_str))
  pss_nil)
  (pss_cons (ps_for PassesOwn.never rfl (kiEnumT K rfl (by rfl) T.z_enumerate (pa_cons (pv 1) pa_nil)) (kgTup K rfl rfl (pgs_cons (pg_name (i := 3) sc_wrong_part.nd rfl (.inl rfl)) (pgs_cons (pg_name (i := 4) sc_wrong_part.nd rfl (.inl rfl)) pgs_nil)))
  (pss_one (ps_if (pt_not (pt_val (pe_callL (i := 2) (ok_is_row T) (hr.mono (by first | decide | omega)) (by rfl) (by first | exact Or.inl rfl | exact Or.inr (Or.inl rfl) | exact Or.inr (Or.inr rfl)) T.F_is_row.kp (T.b_is_row) .nil pass0 (pa_cons (pv 0) (pa_cons (pv 4) pa_nil)))))
  (pss_one (ps_ret (pv 3)))
  pss_nil)))
  (pss_one (ps_ret pe_non))))), ?_⟩
    walk_at "go"
    refine ⟨_, _, _, rfl, .inl ⟨_, rfl, ?_⟩⟩
    rw [decide_eq_true (show 1 ≤ n ∧ n ≤ 12 from ⟨n1, n2⟩)]
    walk_at "go"
    refine g_isi (TyX.tup hp) (b := true) (kit_ty (a := "tuple") (by decide +kernel)) ?_
    walk_at "go"
    refine ⟨_, _, rfl, .inr hp, ?_⟩
    walk_at "go"
    rw [decide_eq_false (show ¬ (60 : Int) < (xs.length : Nat) by omega)]
    walk_at "go"
    refine ⟨p, xs, rfl, hp, ?_⟩
    refine for_it (walk_enumT (K := K) (p := p) (xs := xs)) (fun i σ H' => ∃ y3 y4, σ = [some (.int n), some (.ref p), some (.ref a.f_is_row), y3, y4] ∧ Same H H') ⟨_, _, rfl, Same.refl _⟩ (fun i σ H' _ hP => ?_) (fun i z σ H1 H1' hi hP hy => ?_) (fun σ H' hP => ?_)
    · obtain ⟨y3, y4, _, s1⟩ := hP
      exact (Tx.of s1).seq hp
    · obtain ⟨y3, y4, rfl, s1⟩ := hP
      obtain ⟨Tp, x1, y1, rfl, nT, rfl, e1, e2⟩ := hy
      obtain ⟨d, gd, rd⟩ := DpAll.get ha e2
      obtain ⟨r, gr, rfl⟩ := map_at gd
      refine ⟨Tp, _, rfl, SqT.new, rfl, _, _, rfl, _, _, rfl, rfl, ?_⟩
      walk_at "go"
      refine ⟨rfl, ?_⟩
      walk_at "go"
      refine ⟨y1, n, r, rfl, Dp.same (s1.trans (same_new nT)) _ _ rd, hgood r (List.mem_of_getElem? gr), ?_⟩
      walk_at "go"
      exact ⟨_, _, rfl, s1.trans (same_new nT)⟩
    · obtain ⟨y3, y4, rfl, s1⟩ := hP
      walk_at "go"
      exact q _ s1
def sp_Log_init (K : PySem.W.Frag) (C : Addr) : Sp := fun vs H Q _ => ∃ x dx n p rs, vs = [.ref x, .int n, .ref p] ∧ H x = some (.ins C dx []) ∧ Dp K H (.ref p) (rowsD rs) ∧ GoodLog n rs ∧ ∀ H', Fr x H H' → H' x = some (.ins C dx [("offices", .int n), ("rows", .ref p)]) → Q .non H'
theorem ok_Log_init (T : Txt K mg a) : FnOk P w K mg base CX0 7 a.f_Log_init a.d_Log_init ["self", "offices", "rows"] (sp_Log_init K a.c_Log) := by
  refine T.F_Log_init.ok sc_Log_init (fun vs H Q E h => ?_) (fun cdv A outer s H vs Q E hr h => ?_)
  · obtain ⟨x, dx, n, p, rs, rfl, _⟩ := h
    rfl
  · obtain ⟨x, dx, n, p, rs, rfl, hx, hrs, ⟨n1, n2, l60, hgood⟩, q⟩ := h
    obtain ⟨p', xs, e, hp, ha⟩ := of_tup hrs
    cases e
    have hl := DpAll.len ha
    rw [List.length_map] at hl
    refine ⟨_, (pss_cons (ps_set (i := 3) sc_Log_init.nd rfl (.inl rfl) (pe_call (ok_wrong_part T) (hr.mono (by first | decide | omega)) (by rfl) T.g_wrong_part T.F_wrong_part.kp (T.b_wrong_part) .nil pass0 (pa_cons (pv 1) (pa_cons (pv 2) (pa_cons (pe_glob (v := .ref a.f_is_row) rfl T.g_is_row rfl) pa_nil)))))
  (pss_cons (ps_if (pt_cmpR op_notN (pv 3) pe_non (nomark _))
  (pss_one ps_never)
  pss_nil)
  (pss_cons (ksFld K rfl (pv 0) (pv 1) rfl)
  (pss_one (ksFld K rfl (pv 0) (pv 2) rfl))))), ?_⟩
    walk_at "go"
    refine ⟨n, p, rs, rfl, hrs, ⟨n1, n2, l60, hgood⟩, fun H1 s1 => ?_⟩
    walk_at "go"
    refine ⟨rfl, ?_⟩
    walk_at "go"
    rw [decide_eq_true (show V.non = V.non from rfl)]
    walk_at "go"
    refine ⟨x, _, dx, [], rfl, s1 _ _ hx, T.cl_Log, T.n_Log_offices, by decide, ?_⟩
    walk_at "go"
    refine ⟨x, _, dx, _, rfl, upd_same, T.cl_Log, T.n_Log_rows, by show (1 : Nat) < 1000; decide, ?_⟩
    exact q _ (fun b o nb e => by rw [upd_ne nb, upd_ne nb]; exact s1 b o e) upd_same

end

section
variable {P : Program} {w : World} {K : PySem.W.Frag} {mg : Str → Option Value} {base : Heap} {a : Ad}
/-! ### drawn rows, the other way -/
def sp_law_row (K : PySem.W.Frag) : Sp := fun vs H Q _ => ∃ (d c : Addr) (n sh : Int), vs = [.ref d, .int n, .int sh] ∧ Dice d c H ∧ 2 ≤ n ∧ n ≤ 12 ∧ ∀ H' v r, Fr d H H' → Dice d c H' → Dp K H' v (rowD r) → GoodRow n r → Q v H'
theorem ok_law_row (T : Txt K mg a) : FnOk P w K mg base CX0 2 a.f_law_row a.d_law_row ["_law_hand_here", "_law_offices", "_law_share"] (sp_law_row K) := by
  refine T.F_law_row.ok sc_law_row (fun vs H Q E h => ?_) (fun cdv A outer s H vs Q E hr h => ?_)
  · obtain ⟨d, c, n, sh, rfl, _⟩ := h
    rfl
  · obtain ⟨d, c, n, sh, rfl, hD, n2, n12, q⟩ := h
    refine ⟨_, (pss_cons (ps_set (i := 3) sc_law_row.nd rfl (.inl rfl) (pe_call (ok_law_draw T) (hr.mono (by first | decide | omega)) (by rfl) T.g_law_draw T.F_law_draw.kp (T.b_law_draw) .nil pass0 (pa_cons (pv 0) (pa_cons (pv 1) pa_nil))))
  (pss_cons (ps_set (i := 4) sc_law_row.nd rfl (.inl rfl) (pe_op op_sub (pe_op op_add (pv 3) pe_int) (pe_op op_mul pe_int (pe_call (ok_law_draw T) (hr.mono (by first | decide | omega)) (by rfl) T.g_law_draw T.F_law_draw.kp (T.b_law_draw) .nil pass0 (pa_cons (pv 0) (pa_cons pe_int pa_nil))))))
  (pss_cons (ps_if (PW.pt (pw_or (pt_cmpR op_lt (pv 4) pe_int (nomark _)) (pw_or1 (pt_cmpR op_eq (pv 4) (pv 1) (nomark _)))))
  (pss_one (ps_set (i := 4) sc_law_row.nd rfl (.inl rfl) (pe_op op_sub (pe_op op_mul pe_int (pv 3)) (pv 4))))
  pss_nil)
  (pss_one (ps_ret (pe_tup (pa_cons (pv 3) (pa_cons (pv 4) (pa_cons (pe_cmpR op_lt (pe_call (ok_law_draw T) (hr.mono (by first | decide | omega)) (by rfl) T.g_law_draw T.F_law_draw.kp (T.b_law_draw) .nil pass0 (pa_cons (pv 0) (pa_cons pe_int pa_nil))) (pv 2) (nomark _)) pa_nil))))))))), ?_⟩
    walk_at "go"
    refine ⟨d, c, n, rfl, hD, by omega, by omega, fun H1 x f1 hD1 x0 x1 => ?_⟩
    walk_at "go"
    refine ⟨d, c, 2, rfl, hD1, by decide, by decide, fun H2 z f2 hD2 z0 z1 => ?_⟩
    walk_at "gs"
    refine g_rI (.inl ⟨by decide, by decide⟩) ?_
    walk_at "gs"
    refine seq_cut (fun σ' H' => ∃ y, σ' = [some (.ref d), some (.int n), some (.int sh), some (.int x), some (.int y)] ∧ Fr d H H' ∧ Dice d c H' ∧ GoodRow n (x, y, true)) ?_ ?_
    · rintro σ' H2 ⟨y, rfl, f2, hD2, g⟩
      walk_at "go"
      refine ⟨d, c, 12, rfl, hD2, by decide, by decide, fun H3 z f3 hD3 _ _ => ?_⟩
      walk_at "go"
      refine ⟨by show 3 ≤ sizeLine; decide, fun p np => ?_⟩
      exact q _ _ (x, y, decide (z < sh)) ((f2.trans f3).trans (Fr.new np)) (hD3.new np) (dp_row SqT.new) g
    · intro N hN
      walk_at "go"
      have fin : ∀ y : Int, 0 ≤ y → y < n → (x - y = 1 ∨ y - x = 1) → N [some (.ref d), some (.int n), some (.int sh), some (.int x), some (.int y)] H2 := fun y y0 y1 e => hN _ _ ⟨y, rfl, f1.trans f2, hD2, x0, x1, y0, y1, by show y = x + 1 ∨ y = x - 1; omega⟩
      refine g_ite (fun e0 => ?_) (fun e0 => ?_)
      · walk_at "go"
        refine g_rI (.inl ⟨by decide, by decide⟩) ?_
        walk_at "go"
        exact fin _ (by omega) (by omega) (by omega)
      · walk_at "go"
        refine g_ite (fun e1 => ?_) (fun e1 => ?_)
        · walk_at "go"
          refine g_rI (.inl ⟨by decide, by decide⟩) ?_
          walk_at "go"
          exact fin _ (by omega) (by omega) (by omega)
        · walk_at "go"
          exact fin _ (by omega) (by omega) (by omega)
theorem rows_of {n : Int} : ∀ {ds : List PyData}, (∀ e ∈ ds, ∃ r, e = rowD r ∧ GoodRow n r) → ∃ rs : List Row, ds = rs.map rowD ∧ ∀ r ∈ rs, GoodRow n r
  | [], _ => ⟨[], rfl, fun r h => by cases h⟩
  | e :: ds, h => by
    obtain ⟨rs, e1, e2⟩ := rows_of fun z hz => h z (List.mem_cons_of_mem _ hz)
    obtain ⟨r, rfl, g⟩ := h e (List.mem_cons_self ..)
    refine ⟨r :: rs, by rw [e1]; rfl, fun z hz => ?_⟩
    rcases List.mem_cons.mp hz with rfl | hz
    · exact g
    · exact e2 z hz
def sp_law_rows (K : PySem.W.Frag) : Sp := fun vs H Q _ => ∃ (d c : Addr) (n m sh : Int), vs = [.ref d, .int n, .int m, .int sh] ∧ Dice d c H ∧ 1 ≤ n ∧ n ≤ 12 ∧ 0 ≤ m ∧ m ≤ 60 ∧ ∀ H' v rs, Fr d H H' → Dice d c H' → Dp K H' v (rowsD rs) → (∀ r ∈ rs, GoodRow n r) → (rs.length : Int) ≤ m → (2 ≤ n → (rs.length : Int) = m) → Q v H'
theorem ok_law_rows (T : Txt K mg a) : FnOk P w K mg base CX0 3 a.f_law_rows a.d_law_rows ["_law_hand_here", "_law_offices", "_law_many", "_law_share"] (sp_law_rows K) := by
  refine T.F_law_rows.ok sc_law_rows (fun vs H Q E h => ?_) (fun cdv A outer s H vs Q E hr h => ?_)
  · obtain ⟨d, c, n, m, sh, rfl, _⟩ := h
    rfl
  · obtain ⟨d, c, n, m, sh, rfl, hD, n1, n12, m0, m60, q⟩ := h
    refine ⟨_, (pss_cons (ps_if (pt_cmpR op_eq (pv 1) pe_int (nomark _))
  (pss_one (ps_ret (pe_tup pa_nil)))
  pss_nil)
  (pss_one (ps_ret (pe_callTy (kTupOf K rfl) (by rfl) T.z_tuple (by decide +kernel) (pa_cons (pe_lc (own := [("_law_turn", 4)]) (g := (gName 4)) rfl sc_law_rows.nd (pi_range1 rfl T.z_range (pa_cons (pv 2) pa_nil)) (blkOk_by (own := [("_law_turn", 4)]) (N := ["_law_hand_here", "_law_offices", "_law_many", "_law_share", "_law_turn"]) (sc := defScope s_law_rows) (by decide +kernel)) (fun _ _ _ _ _ => (pg_name (i := 4) sc_law_rows.nd rfl (.inl rfl))) (fun _ _ _ _ _ => pts_nil) (fun _ _ _ _ _ => (pe_call (ok_law_row T) (hr.mono (by first | decide | omega)) (by rfl) T.g_law_row T.F_law_row.kp (T.b_law_row) .nil pass0 (pa_cons (pv 0) (pa_cons (pv 1) (pa_cons (pv 3) pa_nil)))))) pa_nil))))), ?_⟩
    walk_at "go"
    refine g_ite (fun e0 => ?_) (fun e0 => ?_)
    · walk_at "go"
      refine ⟨by show 0 ≤ sizeLine; decide, fun p np => ?_⟩
      exact q _ _ [] (Fr.new np) (hD.new np) (.tup SqT.new .nil) (fun r h => by cases h) m0 (fun h => by omega)
    · walk_at "go"
      refine ⟨_, rfl, by omega, by omega, fun D nDD => ?_⟩
      refine lc_draw (K := K) (d := d) (c := c) walk_rng0 (fun e => ∃ r, e = rowD r ∧ GoodRow n r) (small1000 (by omega)) (fun e ⟨z, h, _⟩ => by rw [h]; rfl) nDD hD (fun _ _ => trivial) (fun j x H9 H9' C Cn hj f9 hD9 hy hC => ?_) (fun H' ys ds f9 hD9 hDl hys hn hall => ?_)
      · obtain ⟨rfl, rfl⟩ := hy
        refine ⟨rfl, ?_⟩
        walk_at "go"
        exact ⟨d, c, n, sh, rfl, hD9, by omega, n12, fun H10 v r f10 hD10 hv g => hC _ _ _ f10 hD10 hv ⟨r, rfl, g⟩⟩
      · obtain ⟨rs, rfl, hgood⟩ := rows_of hall
        rw [List.length_map] at hn
        walk_at "go"
        refine ⟨D, ys, rfl, .inl ⟨SqL.at hDl, fun p np => ?_⟩⟩
        exact q _ _ rs (f9.trans (Fr.new np)) (hD9.new np) (.tup SqT.new (Dp.sameAll (same_new np) _ _ hys)) hgood (by omega) (fun _ => by omega)

end

section
variable {P : Program} {w : World} {K : PySem.W.Frag} {mg : Str → Option Value} {base : Heap} {a : Ad}
/-! ### left rows, cuts -/
def sp_is_left (K : PySem.W.Frag) : Sp := fun vs H Q _ => ∃ v r, vs = [v] ∧ Dp K H v (rowD r) ∧ Q (.bl (isL r)) H
theorem ok_is_left (T : Txt K mg a) : FnOk P w K mg base CX0 1 a.f_is_left a.d_is_left ["row"] (sp_is_left K) := by
  refine T.F_is_left.ok sc_is_left (fun vs H Q E h => ?_) (fun cdv A outer s H vs Q E hr h => ?_)
  · obtain ⟨v, r, rfl, _⟩ := h
    rfl
  · obtain ⟨v, r, rfl, hv, q⟩ := h
    obtain ⟨p, rfl, hp⟩ := of_row hv
    refine ⟨_, (pss_one (ps_ret (pe_cmpR op_gt (pe_ix (kIxT K rfl) (pv 0) pe_int (fun _ _ => rfl)) (pe_ix (kIxT K rfl) (pv 0) pe_int (fun _ _ => rfl)) (nomark _)))), ?_⟩
    walk_at "go"
    refine g_ixT hp (v := .int r.2.1) rfl ?_
    walk_at "go"
    refine g_ixT hp (v := .int r.1) rfl ?_
    walk_at "go"
    exact q
def sp_cut_between (K : PySem.W.Frag) : Sp := fun vs H Q _ => ∃ v r, vs = [v] ∧ Dp K H v (rowD r) ∧ Q (.int (placeR r + 1)) H
theorem ok_cut_between (T : Txt K mg a) : FnOk P w K mg base CX0 1 a.f_cut_between a.d_cut_between ["row"] (sp_cut_between K) := by
  refine T.F_cut_between.ok sc_cut_between (fun vs H Q E h => ?_) (fun cdv A outer s H vs Q E hr h => ?_)
  · obtain ⟨v, r, rfl, _⟩ := h
    rfl
  · obtain ⟨v, r, rfl, hv, q⟩ := h
    obtain ⟨p, rfl, hp⟩ := of_row hv
    refine ⟨_, (pss_one (ps_ret (pe_callB (call_max2 rfl) (by rfl) T.z_max (by decide +kernel) (pa_cons (pe_ix (kIxT K rfl) (pv 0) pe_int (fun _ _ => rfl)) (pa_cons (pe_ix (kIxT K rfl) (pv 0) pe_int (fun _ _ => rfl)) pa_nil))))), ?_⟩
    walk_at "go"
    refine g_ixT hp (v := .int r.1) rfl ?_
    walk_at "go"
    refine g_ixT hp (v := .int r.2.1) rfl ?_
    walk_at "go"
    refine ⟨_, _, rfl, ?_⟩
    rw [show (if r.2.1 > r.1 then r.2.1 else r.1) = placeR r + 1 from by unfold placeR; omega]
    exact q
/-! ### sides, posts -/
def sideS (b : Bool) : Str := if b = true then Str.ofString "left" else Str.ofString "right"
theorem sideS_left (b : Bool) : decide (V.str (sideS b) = V.str (Str.ofString "left")) = b := by cases b <;> decide
theorem sideS_right (b : Bool) : decide (V.str (sideS b) = V.str (Str.ofString "right")) = !b := by cases b <;> decide
def sp_is_word (K : PySem.W.Frag) : Sp := fun vs H Q _ => ∃ s t, vs = [.str s, .str t] ∧ Q (.bl (decide (V.str s = V.str t))) H
theorem ok_is_word (T : Txt K mg a) : FnOk P w K mg base CX0 1 a.f_is_word a.d_is_word ["thing", "word"] (sp_is_word K) := by
  refine T.F_is_word.ok sc_is_word (fun vs H Q E h => ?_) (fun cdv A outer s H vs Q E hr h => ?_)
  · obtain ⟨s, t, rfl, _⟩ := h
    rfl
  · obtain ⟨s, t, rfl, q⟩ := h
    refine ⟨_, (pss_one (ps_ret (pe_and (pe_callB (kIsi K rfl) (by rfl) T.z_isinstance (by decide +kernel) (pa_cons (pv 0) (pa_cons (pe_bltn (v := .ty "str") (by rfl) T.z_str (by decide +kernel) rfl) pa_nil))) (pe_one (pe_cmpR op_eq (pv 0) (pv 1) (nomark _)))))), ?_⟩
    walk_at "go"
    refine g_isi (b := true) (.base (.str _)) (kit_ty (a := "str") (by decide +kernel)) ?_
    walk_at "go"
    exact ⟨rfl, q⟩
def sp_is_side (K : PySem.W.Frag) : Sp := fun vs H Q _ => ∃ b, vs = [.str (sideS b)] ∧ Q (.bl true) H
theorem ok_is_side (T : Txt K mg a) : FnOk P w K mg base CX0 2 a.f_is_side a.d_is_side ["thing"] (sp_is_side K) := by
  refine T.F_is_side.ok sc_is_side (fun vs H Q E h => ?_) (fun cdv A outer s H vs Q E hr h => ?_)
  · obtain ⟨b, rfl, _⟩ := h
    rfl
  · obtain ⟨b, rfl, q⟩ := h
    refine ⟨_, (pss_one (ps_ret (pe_or (pe_call (ok_is_word T) (hr.mono (by first | decide | omega)) (by rfl) T.g_is_word T.F_is_word.kp (T.b_is_word) .nil pass0 (pa_cons (pv 0) (pa_cons pe_str pa_nil))) (pe_one (pe_call (ok_is_word T) (hr.mono (by first | decide | omega)) (by rfl) T.g_is_word T.F_is_word.kp (T.b_is_word) .nil pass0 (pa_cons (pv 0) (pa_cons pe_str pa_nil))))))), ?_⟩
    walk_at "go"
    refine ⟨_, _, rfl, ?_⟩
    rw [sideS_left]
    walk_at "go"
    cases b with
    | true =>
      walk_at "go"
      exact q
    | false =>
      walk_at "go"
      refine ⟨_, _, rfl, ?_⟩
      rw [sideS_right]
      exact q
def sp_check_side (K : PySem.W.Frag) : Sp := fun vs H Q _ => ∃ b, vs = [.str (sideS b)] ∧ Q .non H
theorem ok_check_side (T : Txt K mg a) : FnOk P w K mg base CX0 3 a.f_check_side a.d_check_side ["side"] (sp_check_side K) := by
  refine T.F_check_side.ok sc_check_side (fun vs H Q E h => ?_) (fun cdv A outer s H vs Q E hr h => ?_)
  · obtain ⟨b, rfl, _⟩ := h
    rfl
  · obtain ⟨b, rfl, q⟩ := h
    refine ⟨_, (pss_one (ps_if (pt_not (pt_val (pe_call (ok_is_side T) (hr.mono (by first | decide | omega)) (by rfl) T.g_is_side T.F_is_side.kp (T.b_is_side) .nil pass0 (pa_cons (pv 0) pa_nil))))
  (pss_one ps_never)
  pss_nil)), ?_⟩
    walk_at "go"
    refine ⟨b, rfl, ?_⟩
    walk_at "go"
    exact q
/-- the cut barred at a row -/
def barO (b : Bool) (r : Row) : Option Int := if isL r = b then some (placeR r + 1) else none
def optV : Option Int → V
  | some i => .int i
  | none => .non
def sp_barred_cut (K : PySem.W.Frag) : Sp := fun vs H Q _ => ∃ b v r, vs = [.str (sideS b), v] ∧ Dp K H v (rowD r) ∧ Q (optV (barO b r)) H
theorem ok_barred_cut (T : Txt K mg a) : FnOk P w K mg base CX0 2 a.f_barred_cut a.d_barred_cut ["side", "row"] (sp_barred_cut K) := by
  refine T.F_barred_cut.ok sc_barred_cut (fun vs H Q E h => ?_) (fun cdv A outer s H vs Q E hr h => ?_)
  · obtain ⟨b, v, r, rfl, _⟩ := h
    rfl
  · obtain ⟨b, v, r, rfl, hv, q⟩ := h
    refine ⟨_, (pss_one (ps_ret (pe_ifExp (pt_cmpR op_eq (pe_call (ok_is_left T) (hr.mono (by first | decide | omega)) (by rfl) T.g_is_left T.F_is_left.kp (T.b_is_left) .nil pass0 (pa_cons (pv 1) pa_nil)) (pe_cmpR op_eq (pv 0) pe_str (nomark _)) (nomark _)) (pe_call (ok_cut_between T) (hr.mono (by first | decide | omega)) (by rfl) T.g_cut_between T.F_cut_between.kp (T.b_cut_between) .nil pass0 (pa_cons (pv 1) pa_nil)) pe_non))), ?_⟩
    walk_at "go"
    refine ⟨v, r, rfl, hv, ?_⟩
    walk_at "go"
    refine ⟨rfl, ?_⟩
    rw [sideS_left]
    walk_at "go"
    unfold barO at q
    by_cases c : isL r = b
    · rw [if_pos c] at q
      rw [c, beq_self_eq_true]
      walk_at "go"
      exact ⟨v, r, rfl, hv, q⟩
    · rw [if_neg c] at q
      rw [beq_eq_false_iff_ne.mpr c]
      walk_at "go"
      exact q
/-- what a step costs -/
def stepP (b : Bool) (x y : Int) : Int := if b = true then (if y - x > 0 then y - x else 0) else (if x - y > 0 then x - y else 0)
def sp_walk_price : Sp := fun vs H Q _ => ∃ b x y, vs = [.str (sideS b), .int x, .int y] ∧ Q (.int (stepP b x y)) H
theorem ok_walk_price (T : Txt K mg a) : FnOk P w K mg base CX0 1 a.f_walk_price a.d_walk_price ["side", "start", "end"] sp_walk_price := by
  refine T.F_walk_price.ok sc_walk_price (fun vs H Q E h => ?_) (fun cdv A outer s H vs Q E hr h => ?_)
  · obtain ⟨b, x, y, rfl, _⟩ := h
    rfl
  · obtain ⟨b, x, y, rfl, q⟩ := h
    refine ⟨_, (pss_one (ps_ret (pe_ifExp (pt_cmpR op_eq (pv 0) pe_str (nomark _)) (pe_callB (call_max2 rfl) (by rfl) T.z_max (by decide +kernel) (pa_cons pe_int (pa_cons (pe_op op_sub (pv 2) (pv 1)) pa_nil))) (pe_callB (call_max2 rfl) (by rfl) T.z_max (by decide +kernel) (pa_cons pe_int (pa_cons (pe_op op_sub (pv 1) (pv 2)) pa_nil)))))), ?_⟩
    walk_at "go"
    refine ⟨rfl, ?_⟩
    rw [sideS_left]
    walk_at "go"
    cases b with
    | true =>
      walk_at "go"
      exact ⟨_, _, rfl, q⟩
    | false =>
      walk_at "go"
      exact ⟨_, _, rfl, q⟩
/-- a walk whose parts are cuts -/
def postD (f : Int) (st : List Int) (l : Int) : PyData := .tuple [.int f, tupI st, .int l]
def WfPost (n : Int) (rs : List Row) (f : Int) (st : List Int) (l : Int) : Prop := 0 ≤ f ∧ f ≤ n ∧ 0 ≤ l ∧ l ≤ n ∧ st.length = rs.length ∧ ∀ c ∈ st, 0 ≤ c ∧ c ≤ n
def freeB (b : Bool) (c : Int) (r : Row) : Bool := !decide (V.int c = optV (barO b r))
def stands (b : Bool) (rs : List Row) (st : List Int) : List Bool := (st.zip rs).map fun p => freeB b p.1 p.2
theorem stands_at {b : Bool} {rs : List Row} {st : List Int} {i : Nat} {r : Row} {c : Int} (h : st[i]? = some c) (k : rs[i]? = some r) : (stands b rs st)[i]? = some (freeB b c r) := by
  unfold stands
  rw [List.getElem?_map, (List.getElem?_zip_eq_some (z := (c, r))).mpr ⟨h, k⟩]
  rfl
theorem stands_len (b : Bool) (rs : List Row) (st : List Int) : (stands b rs st).length = min st.length rs.length := by
  unfold stands
  rw [List.length_map, List.length_zip]
theorem of_post {K : PySem.W.Frag} {H : Hp} {v : V} {f l : Int} {st : List Int} (h : Dp K H v (postD f st l)) : ∃ p t, v = .ref p ∧ SqT K H p [.int f, .ref t, .int l] ∧ SqT K H t (st.map V.int) := by
  unfold postD at h
  cases h with
  | tup q a =>
    cases a with
    | cons a1 a2 =>
      cases a2 with
      | cons a3 a4 =>
        cases a4 with
        | cons a5 a6 =>
          cases a6
          cases a1; cases a5
          obtain ⟨t, rfl, ht⟩ := of_ints a3
          exact ⟨_, t, rfl, q, ht⟩

end

section
variable {P : Program} {w : World} {K : PySem.W.Frag} {mg : Str → Option Value} {base : Heap} {a : Ad}
/-! ### what a walk costs -/
def costP (b : Bool) : Int → List Int → Int
  | _, [] => 0
  | x, y :: r => stepP b x y + costP b y r
def stepsP (b : Bool) (f : Int) (st : List Int) (l : Int) : List Int := ((f :: st).zip (st ++ [l])).map fun p => stepP b p.1 p.2
theorem steps_sum (b : Bool) : ∀ (st : List Int) (f l : Int), (stepsP b f st l).sum = costP b f (st ++ [l])
  | [], f, l => by
    show stepP b f l + 0 = stepP b f l + 0
    rfl
  | c :: st, f, l => by
    show stepP b f c + (stepsP b c st l).sum = stepP b f c + costP b c (st ++ [l])
    rw [steps_sum b st c l]
theorem steps_len (b : Bool) (f : Int) (st : List Int) (l : Int) : (stepsP b f st l).length = st.length + 1 := by
  unfold stepsP
  rw [List.length_map, List.length_zip, List.length_cons, List.length_append, List.length_singleton, Nat.min_self]
theorem steps_at {b : Bool} {f : Int} {st : List Int} {l : Int} {i : Nat} {x y : Int} (h : (f :: st)[i]? = some x) (k : (st ++ [l])[i]? = some y) : (stepsP b f st l)[i]? = some (stepP b x y) := by
  unfold stepsP
  rw [List.getElem?_map, (List.getElem?_zip_eq_some (z := (x, y))).mpr ⟨h, k⟩]
  rfl
theorem cost_snoc (b : Bool) : ∀ (xs : List Int) (x y : Int), costP b x (xs ++ [y]) = costP b x xs + stepP b (xs.getLastD x) y
  | [], x, y => by
    show stepP b x y + 0 = 0 + stepP b x y
    omega
  | c :: xs, x, y => by
    show stepP b x c + costP b c (xs ++ [y]) = stepP b x c + costP b c xs + stepP b ((c :: xs).getLastD x) y
    rw [cost_snoc b xs c y, List.getLastD_cons]
    omega

end

section
variable {P : Program} {w : World} {K : PySem.W.Frag} {mg : Str → Option Value} {base : Heap} {a : Ad}
/-! ### the law's own bars and steps -/
def barI (b : Bool) (r : Row) : Int := (barO b r).getD (-1)
theorem free_of {b : Bool} {c : Int} {r : Row} (h : 0 ≤ c) : freeB b c r = !decide (c = barI b r) := by
  unfold freeB barI
  cases barO b r with
  | none =>
    show (!decide (V.int c = V.non)) = !decide (c = -1)
    rw [decide_eq_false (fun e => by cases e), decide_eq_false (by omega)]
  | some i =>
    show (!decide (V.int c = V.int i)) = !decide (c = i)
    by_cases e : c = i
    · rw [e, decide_eq_true rfl, decide_eq_true rfl]
    · rw [decide_eq_false e, decide_eq_false (fun z => e (by cases z; rfl))]
def sp_law_bars (K : PySem.W.Frag) : Sp := fun vs H Q _ => ∃ b n v r, vs = [.str (sideS b), v] ∧ Dp K H v (rowD r) ∧ GoodRow n r ∧ Q (.int (barI b r)) H
theorem ok_law_bars (T : Txt K mg a) : FnOk P w K mg base CX0 1 a.f_law_bars a.d_law_bars ["_law_side", "_law_row_here"] (sp_law_bars K) := by
  refine T.F_law_bars.ok sc_law_bars (fun vs H Q E h => ?_) (fun cdv A outer s H vs Q E hr h => ?_)
  · obtain ⟨b, n, v, r, rfl, _⟩ := h
    rfl
  · obtain ⟨b, n, v, r, rfl, hv, ⟨g1, g2, g3, g4, g5⟩, q⟩ := h
    obtain ⟨p, rfl, hp⟩ := of_row hv
    refine ⟨_, (pss_cons (ps_if (pt_cmpR op_eq (pv 0) pe_str (nomark _))
  (pss_one (ps_ret (pe_ifExp (pt_cmpR op_gt (pe_ix (kIxT K rfl) (pv 1) pe_int (fun _ _ => rfl)) (pe_ix (kIxT K rfl) (pv 1) pe_int (fun _ _ => rfl)) (nomark _)) (pe_ix (kIxT K rfl) (pv 1) pe_int (fun _ _ => rfl)) (pe_un un_neg pe_int))))
  pss_nil)
  (pss_one (ps_ret (pe_ifExp (pt_cmpR op_lt (pe_ix (kIxT K rfl) (pv 1) pe_int (fun _ _ => rfl)) (pe_ix (kIxT K rfl) (pv 1) pe_int (fun _ _ => rfl)) (nomark _)) (pe_ix (kIxT K rfl) (pv 1) pe_int (fun _ _ => rfl)) (pe_un un_neg pe_int))))), ?_⟩
    walk_at "go"
    refine ⟨by cases b <;> rfl, ?_⟩
    rw [sideS_left]
    walk_at "go"
    cases b with
    | true =>
      walk_at "go"
      refine g_ixT hp (v := .int r.2.1) rfl ?_
      walk_at "go"
      refine g_ixT hp (v := .int r.1) rfl ?_
      walk_at "go"
      refine g_ite (fun e0 => ?_) (fun e0 => ?_)
      · walk_at "go"
        refine g_ixT hp (v := .int r.2.1) rfl ?_
        have e : barI true r = r.2.1 := by
          unfold barI barO isL placeR
          rw [decide_eq_true e0, if_pos rfl, if_pos e0]
          show r.2.1 - 1 + 1 = r.2.1
          omega
        rw [e] at q
        exact q
      · walk_at "go"
        have e : barI true r = -1 := by
          unfold barI barO isL
          rw [decide_eq_false e0, if_neg (by decide)]
          rfl
        rw [e] at q
        exact q
    | false =>
      walk_at "go"
      refine g_ixT hp (v := .int r.2.1) rfl ?_
      walk_at "go"
      refine g_ixT hp (v := .int r.1) rfl ?_
      walk_at "go"
      refine g_ite (fun e0 => ?_) (fun e0 => ?_)
      · walk_at "go"
        refine g_ixT hp (v := .int r.1) rfl ?_
        have e : barI false r = r.1 := by
          unfold barI barO isL placeR
          rw [decide_eq_false (by omega), if_pos rfl, if_neg (by omega)]
          show r.1 - 1 + 1 = r.1
          omega
        rw [e] at q
        exact q
      · walk_at "go"
        have e : barI false r = -1 := by
          unfold barI barO isL
          rw [decide_eq_true (by omega), if_neg (by decide)]
          rfl
        rw [e] at q
        exact q
/-- where a bar is -/
theorem bar_in {b : Bool} {n : Int} {r : Row} (g : GoodRow n r) : barI b r = -1 ∨ (1 ≤ barI b r ∧ barI b r < n) := by
  have := place_of g
  unfold barI barO
  split
  · exact .inr (by show 1 ≤ placeR r + 1 ∧ placeR r + 1 < n; omega)
  · exact .inl rfl

end

section
variable {P : Program} {w : World} {K : PySem.W.Frag} {mg : Str → Option Value} {base : Heap} {a : Ad}
def sp_law_step : Sp := fun vs H Q _ => ∃ b x y, vs = [.str (sideS b), .int x, .int y] ∧ Q (.int (stepP b x y)) H
theorem ok_law_step (T : Txt K mg a) : FnOk P w K mg base CX0 1 a.f_law_step a.d_law_step ["_law_side", "_law_one", "_law_other"] sp_law_step := by
  refine T.F_law_step.ok sc_law_step (fun vs H Q E h => ?_) (fun cdv A outer s H vs Q E hr h => ?_)
  · obtain ⟨b, x, y, rfl, _⟩ := h
    rfl
  · obtain ⟨b, x, y, rfl, q⟩ := h
    refine ⟨_, (pss_one (ps_ret (pe_ifExp (pt_cmpR op_eq (pv 0) pe_str (nomark _)) (pe_callB (call_max2 rfl) (by rfl) T.z_max (by decide +kernel) (pa_cons pe_int (pa_cons (pe_op op_sub (pv 2) (pv 1)) pa_nil))) (pe_callB (call_max2 rfl) (by rfl) T.z_max (by decide +kernel) (pa_cons pe_int (pa_cons (pe_op op_sub (pv 1) (pv 2)) pa_nil)))))), ?_⟩
    walk_at "go"
    refine ⟨rfl, ?_⟩
    rw [sideS_left]
    walk_at "go"
    cases b with
    | true =>
      walk_at "go"
      exact ⟨_, _, rfl, q⟩
    | false =>
      walk_at "go"
      exact ⟨_, _, rfl, q⟩

end

section
variable {P : Program} {w : World} {K : PySem.W.Frag} {mg : Str → Option Value} {base : Heap} {a : Ad}
/-! ### least prices, row by row -/
theorem step_nn (b : Bool) (x y : Int) : 0 ≤ stepP b x y := by
  unfold stepP
  split <;> split <;> omega
theorem step_self (b : Bool) (x : Int) : stepP b x x = 0 := by
  unfold stepP
  split <;> split <;> omega
theorem step_tri (b : Bool) (x y z : Int) : stepP b x z ≤ stepP b x y + stepP b y z := by
  unfold stepP
  split <;> (split <;> split <;> split <;> omega)
theorem step_le {b : Bool} {n x y : Int} (hx : 0 ≤ x ∧ x ≤ n) (hy : 0 ≤ y ∧ y ≤ n) : stepP b x y ≤ n := by
  unfold stepP
  split <;> split <;> omega
/-- the free neighbour of a barred cut, and the one that costs a step -/
def freeN (b : Bool) (k : Int) : Int := if b = true then k + 1 else k - 1
def paidN (b : Bool) (k : Int) : Int := if b = true then k - 1 else k + 1
def minI (x y : Int) : Int := if y < x then y else x
def stepL (b : Bool) (L : Int → Int) (r : Row) : Int → Int := fun c => match barO b r with
  | some k => if c = k then minI (L (freeN b k)) (L (paidN b k) + 1) else L c
  | none => L c
def leastR (b : Bool) (f : Int) (rs : List Row) : Int → Int := rs.foldl (stepL b) (stepP b f)
theorem least_snoc (b : Bool) (f : Int) (rs : List Row) (r : Row) : leastR b f (rs ++ [r]) = stepL b (leastR b f rs) r := by
  unfold leastR
  rw [List.foldl_append]
  rfl
/-- a step more never lowers a price -/
def Closed (b : Bool) (n : Int) (L : Int → Int) : Prop := ∀ x y, 0 ≤ x → x ≤ n → 0 ≤ y → y ≤ n → L y ≤ L x + stepP b x y
theorem bar_some {b : Bool} {n : Int} {r : Row} {k : Int} (g : GoodRow n r) (h : barO b r = some k) : 1 ≤ k ∧ k < n := by
  have := place_of g
  unfold barO at h
  split at h
  · cases h
    omega
  · cases h
theorem minI_le (x y : Int) : minI x y ≤ x ∧ minI x y ≤ y ∧ (minI x y = x ∨ minI x y = y) := by
  unfold minI
  split
  · exact ⟨by omega, Int.le_refl _, .inr rfl⟩
  · exact ⟨Int.le_refl _, by omega, .inl rfl⟩
/-- what it costs to come to the barred cut from any other one -/
theorem bar_from {b : Bool} {n : Int} {L : Int → Int} (h : Closed b n L) {k x : Int} (k1 : 1 ≤ k) (kn : k < n) (x0 : 0 ≤ x) (xn : x ≤ n) (hx : x ≠ k) : minI (L (freeN b k)) (L (paidN b k) + 1) ≤ L x + stepP b x k := by
  obtain ⟨m1, m2, _⟩ := minI_le (L (freeN b k)) (L (paidN b k) + 1)
  have e1 := h x (freeN b k) x0 xn (by unfold freeN; split <;> omega) (by unfold freeN; split <;> omega)
  have e2 := h x (paidN b k) x0 xn (by unfold paidN; split <;> omega) (by unfold paidN; split <;> omega)
  have e3 : stepP b x (freeN b k) ≤ stepP b x k ∨ stepP b x (paidN b k) + 1 ≤ stepP b x k := by
    unfold stepP freeN paidN
    cases b <;> simp only [if_true, if_false, Bool.false_eq_true] <;> (repeat' split) <;> omega
  rcases e3 with e3 | e3 <;> omega
theorem bar_to {b : Bool} {n : Int} {L : Int → Int} (h : Closed b n L) {k y : Int} (k1 : 1 ≤ k) (kn : k < n) (y0 : 0 ≤ y) (yn : y ≤ n) : L y ≤ minI (L (freeN b k)) (L (paidN b k) + 1) + stepP b k y := by
  obtain ⟨_, _, m⟩ := minI_le (L (freeN b k)) (L (paidN b k) + 1)
  have e1 := h (freeN b k) y (by unfold freeN; split <;> omega) (by unfold freeN; split <;> omega) y0 yn
  have e2 := h (paidN b k) y (by unfold paidN; split <;> omega) (by unfold paidN; split <;> omega) y0 yn
  have t1 := step_tri b (freeN b k) k y
  have t2 := step_tri b (paidN b k) k y
  have z1 : stepP b (freeN b k) k = 0 := by
    unfold stepP freeN
    cases b <;> simp only [if_true, if_false, Bool.false_eq_true] <;> (repeat' split) <;> omega
  have z2 : stepP b (paidN b k) k = 1 := by
    unfold stepP paidN
    cases b <;> simp only [if_true, if_false, Bool.false_eq_true] <;> (repeat' split) <;> omega
  rcases m with m | m <;> rw [m] <;> omega
theorem closed_step {b : Bool} {n : Int} {L : Int → Int} {r : Row} (g : GoodRow n r) (h : Closed b n L) : Closed b n (stepL b L r) := by
  intro x y x0 xn y0 yn
  unfold stepL
  cases hb : barO b r with
  | none => exact h x y x0 xn y0 yn
  | some k =>
    obtain ⟨k1, kn⟩ := bar_some g hb
    show (if y = k then _ else L y) ≤ (if x = k then _ else L x) + stepP b x y
    by_cases ex : x = k
    · rw [if_pos ex]
      by_cases ey : y = k
      · rw [if_pos ey]
        have := step_nn b x y
        omega
      · rw [if_neg ey, ex]
        exact bar_to h k1 kn y0 yn
    · rw [if_neg ex]
      by_cases ey : y = k
      · rw [if_pos ey, ey]
        exact bar_from h k1 kn x0 xn ex
      · rw [if_neg ey]
        exact h x y x0 xn y0 yn
theorem closed_least {b : Bool} {n f : Int} : ∀ (rs : List Row) (L : Int → Int), Closed b n L → (∀ r ∈ rs, GoodRow n r) → Closed b n (rs.foldl (stepL b) L)
  | [], _, h, _ => h
  | r :: rs, L, h, hg => closed_least (f := f) rs (stepL b L r) (closed_step (hg r (List.mem_cons_self ..)) h) fun q hq => hg q (List.mem_cons_of_mem _ hq)
theorem least_closed {b : Bool} {n f : Int} {rs : List Row} (hg : ∀ r ∈ rs, GoodRow n r) : Closed b n (leastR b f rs) :=
  closed_least (f := f) rs _ (fun x y _ _ _ _ => step_tri b f x y) hg
/-- no post costs less -/
theorem least_low {b : Bool} {n f : Int} (hf : 0 ≤ f ∧ f ≤ n) : ∀ (rs : List Row) (st : List Int) (L : Int → Int) (x : Int) (pr : Int), Closed b n L → (∀ r ∈ rs, GoodRow n r) → st.length = rs.length → (∀ c ∈ st, 0 ≤ c ∧ c ≤ n) → (stands b rs st).all id = true → 0 ≤ x → x ≤ n → L x ≤ pr → ∀ l, 0 ≤ l → l ≤ n →
    (rs.foldl (stepL b) L) l ≤ pr + costP b x (st ++ [l])
  | [], [], L, x, pr, h, _, _, _, _, x0, xn, hx, l, l0, ln => by
    show L l ≤ pr + (stepP b x l + 0)
    have := h x l x0 xn l0 ln
    omega
  | r :: rs, c :: st, L, x, pr, h, hg, hl, hc, hs, x0, xn, hx, l, l0, ln => by
    show ((rs.foldl (stepL b) (stepL b L r)) l) ≤ pr + (stepP b x c + costP b c (st ++ [l]))
    have hs2 : (freeB b c r && (stands b rs st).all id) = true := hs
    rw [Bool.and_eq_true] at hs2
    obtain ⟨c0, cn⟩ := hc c (List.mem_cons_self ..)
    have hfree := hs2.1
    rw [free_of c0] at hfree
    have hne : c ≠ barI b r := by
      intro e
      rw [e, decide_eq_true rfl] at hfree
      cases hfree
    have e1 := h x c x0 xn c0 cn
    have e2 : stepL b L r c = L c := by
      unfold stepL
      unfold barI at hne
      cases hb : barO b r with
      | none => rfl
      | some k =>
        rw [hb] at hne
        exact if_neg hne
    have := least_low hf rs st (stepL b L r) c (pr + stepP b x c) (closed_step (hg r (List.mem_cons_self ..)) h) (fun q hq => hg q (List.mem_cons_of_mem _ hq)) (by simpa using hl) (fun z hz => hc z (List.mem_cons_of_mem _ hz)) hs2.2 c0 cn (by rw [e2]; omega) l l0 ln
    omega
  | [], _ :: _, _, _, _, _, _, hl, _, _, _, _, _, _, _, _ => by cases hl
  | _ :: _, [], _, _, _, _, _, hl, _, _, _, _, _, _, _, _ => by cases hl
/-- some post costs no more -/
theorem least_post {b : Bool} {n f : Int} {rs : List Row} (hf : 0 ≤ f ∧ f ≤ n) (hg : ∀ r ∈ rs, GoodRow n r) : ∀ i, i ≤ rs.length → ∀ l, 0 ≤ l → l ≤ n →
    ∃ st : List Int, st.length = i ∧ (∀ c ∈ st, 0 ≤ c ∧ c ≤ n) ∧ (∀ (j : Nat) (z : Int) (r : Row), st[j]? = some z → rs[j]? = some r → freeB b z r = true) ∧ costP b f (st ++ [l]) = leastR b f (rs.take i) l
  | 0, _, l, l0, ln => ⟨[], rfl, (fun c hc => by cases hc), (fun j z r h1 _ => by cases h1), by
      show stepP b f l + 0 = stepP b f l
      omega⟩
  | i + 1, hi, l, l0, ln => by
    have gr := List.getElem?_eq_getElem (show i < rs.length by omega)
    have g := hg _ (List.getElem_mem (show i < rs.length by omega))
    generalize rs[i] = r at gr g
    rw [take_snoc gr, least_snoc]
    have add : ∀ d, 0 ≤ d → d ≤ n → d ≠ barI b r → stepL b (leastR b f (rs.take i)) r l = leastR b f (rs.take i) d + stepP b d l →
        ∃ st : List Int, st.length = i + 1 ∧ (∀ c ∈ st, 0 ≤ c ∧ c ≤ n) ∧ (∀ (j : Nat) (z : Int) (r : Row), st[j]? = some z → rs[j]? = some r → freeB b z r = true) ∧ costP b f (st ++ [l]) = stepL b (leastR b f (rs.take i)) r l := by
      intro d d0 dn dne he
      obtain ⟨st, h1, h2, h3, h4⟩ := least_post hf hg i (by omega) d d0 dn
      refine ⟨st ++ [d], by rw [List.length_append, h1]; rfl, fun c hc => ?_, fun j z r' hz hr => ?_, ?_⟩
      · rcases List.mem_append.mp hc with hc | hc
        · exact h2 c hc
        · rw [List.mem_singleton.mp hc]; exact ⟨d0, dn⟩
      · by_cases hj : j < st.length
        · rw [List.getElem?_append_left hj] at hz
          exact h3 j z r' hz hr
        · have hj2 : j < (st ++ [d]).length := (List.getElem?_eq_some_iff.mp hz).1
          rw [List.length_append, List.length_singleton] at hj2
          have ej : j = i := by omega
          subst ej
          rw [List.getElem?_append_right (by omega), show j - st.length = 0 by omega] at hz
          cases hz
          rw [gr] at hr
          cases hr
          rw [free_of d0, decide_eq_false dne]
          rfl
      · rw [cost_snoc, List.getLastD_concat, h4, he]
    cases hb : barO b r with
    | none =>
      refine add l l0 ln (by unfold barI; rw [hb]; show l ≠ -1; omega) ?_
      unfold stepL
      rw [hb, step_self]
      show leastR b f (rs.take i) l = leastR b f (rs.take i) l + 0
      omega
    | some k =>
      obtain ⟨k1, kn⟩ := bar_some g hb
      have hbar : barI b r = k := by unfold barI; rw [hb]; rfl
      by_cases hk : l = k
      · have he : stepL b (leastR b f (rs.take i)) r l = minI (leastR b f (rs.take i) (freeN b k)) (leastR b f (rs.take i) (paidN b k) + 1) := by
          unfold stepL
          rw [hb]
          exact if_pos hk
        have z1 : stepP b (freeN b k) l = 0 := by
          rw [hk]
          unfold stepP freeN
          cases b <;> simp only [if_true, if_false, Bool.false_eq_true] <;> (repeat' split) <;> omega
        have z2 : stepP b (paidN b k) l = 1 := by
          rw [hk]
          unfold stepP paidN
          cases b <;> simp only [if_true, if_false, Bool.false_eq_true] <;> (repeat' split) <;> omega
        obtain ⟨_, _, m⟩ := minI_le (leastR b f (rs.take i) (freeN b k)) (leastR b f (rs.take i) (paidN b k) + 1)
        rcases m with m | m
        · exact add (freeN b k) (by unfold freeN; split <;> omega) (by unfold freeN; split <;> omega) (by rw [hbar]; unfold freeN; split <;> omega) (by rw [he, m, z1]; omega)
        · exact add (paidN b k) (by unfold paidN; split <;> omega) (by unfold paidN; split <;> omega) (by rw [hbar]; unfold paidN; split <;> omega) (by rw [he, m, z2])
      · refine add l l0 ln (by rw [hbar]; exact hk) ?_
        unfold stepL
        rw [hb, step_self]
        show (if l = k then _ else leastR b f (rs.take i) l) = _
        rw [if_neg hk]
        omega
/-- the least price is that of the cheapest post -/
theorem least_is {b : Bool} {n f : Int} {rs : List Row} (hf : 0 ≤ f ∧ f ≤ n) (hg : ∀ r ∈ rs, GoodRow n r) {st : List Int} (hl : st.length = rs.length) (hc : ∀ c ∈ st, 0 ≤ c ∧ c ≤ n) (hs : (stands b rs st).all id = true) {l : Int} (l0 : 0 ≤ l) (ln : l ≤ n) : leastR b f rs l ≤ costP b f (st ++ [l]) := by
  have := least_low hf rs st (stepP b f) f 0 (fun x y _ _ _ _ => step_tri b f x y) hg hl hc hs hf.1 hf.2 (by rw [step_self]; omega) l l0 ln
  show (rs.foldl (stepL b) (stepP b f)) l ≤ _
  omega

end

section
variable {P : Program} {w : World} {K : PySem.W.Frag} {mg : Str → Option Value} {base : Heap} {a : Ad}
/-! ### the cheapest walks -/
def cutsL (n : Int) (L : Int → Int) : List Int := (List.range (n + 1).toNat).map fun (j : Nat) => L (j : Int)
theorem cutsL_len (n : Int) (L : Int → Int) : (cutsL n L).length = (n + 1).toNat := by unfold cutsL; simp
theorem cutsL_at {n : Int} {L : Int → Int} {j : Nat} (h : j < (n + 1).toNat) : (cutsL n L)[j]? = some (L (j : Int)) := by
  unfold cutsL
  rw [List.getElem?_map, List.getElem?_range h]
  rfl
theorem cutsL_get {n : Int} {L : Int → Int} {c : Int} (c0 : 0 ≤ c) (cn : c ≤ n) : atI ((cutsL n L).map V.int) c = some (.int (L c)) := by
  refine atI_at c0 (map_get ?_)
  rw [cutsL_at (by omega), Int.toNat_of_nonneg c0]
theorem cutsL_step {b : Bool} {n : Int} {L : Int → Int} {r : Row} {k : Int} (g : GoodRow n r) (h : barO b r = some k) : (cutsL n L).set k.toNat (minI (L (freeN b k)) (L (paidN b k) + 1)) = cutsL n (stepL b L r) := by
  obtain ⟨k1, kn⟩ := bar_some g h
  refine List.ext_getElem? fun i => ?_
  by_cases hi : i < (n + 1).toNat
  · rw [cutsL_at hi]
    unfold stepL
    rw [h]
    show _ = some (if (i : Int) = k then _ else L (i : Int))
    by_cases e : k.toNat = i
    · rw [← e, List.getElem?_set_self (by rw [cutsL_len]; omega), if_pos (by omega)]
    · rw [List.getElem?_set_ne e, cutsL_at hi, if_neg (by omega)]
  · rw [List.getElem?_eq_none (by rw [List.length_set, cutsL_len]; omega), List.getElem?_eq_none (by rw [cutsL_len]; omega)]
theorem cutsL_none {b : Bool} {n : Int} {L : Int → Int} {r : Row} (h : barO b r = none) : cutsL n (stepL b L r) = cutsL n L := by
  unfold stepL
  rw [h]
/-- how the cheapest walk passes a row -/
def stoodO (b : Bool) (L : Int → Int) (r : Row) : Option Int := match barO b r with
  | some k => some (if L (freeN b k) ≤ L (paidN b k) + 1 then freeN b k else paidN b k)
  | none => none
theorem stood_some {b : Bool} {L : Int → Int} {r : Row} {k : Int} (h : barO b r = some k) : stoodO b L r = some (if L (freeN b k) ≤ L (paidN b k) + 1 then freeN b k else paidN b k) := by
  unfold stoodO
  rw [h]
def optD : Option Int → PyData
  | some i => .int i
  | none => .none
theorem dp_opt {K : PySem.W.Frag} {H : Hp} : ∀ o : Option Int, Dp K H (optV o) (optD o)
  | some i => .int i
  | none => .non
def passD (b : Bool) (f : Int) (rs : List Row) (i : Nat) : List PyData := (List.range i).map fun j => .tuple [optD (barO b (rs.getD j (0, 0, false))), optD (stoodO b (leastR b f (rs.take j)) (rs.getD j (0, 0, false)))]
theorem pass_succ (b : Bool) (f : Int) (rs : List Row) (i : Nat) : passD b f rs (i + 1) = passD b f rs i ++ [.tuple [optD (barO b (rs.getD i (0, 0, false))), optD (stoodO b (leastR b f (rs.take i)) (rs.getD i (0, 0, false)))]] := by
  unfold passD
  rw [List.range_succ, List.map_append]
  rfl
theorem im_optD (o : Option Int) : im (optD o) = true := by cases o <;> rfl
theorem im_pass (b : Bool) (f : Int) (rs : List Row) (i : Nat) : imAll (passD b f rs i) = true := imAll_map (f := fun j => PyData.tuple [optD (barO b (rs.getD j (0, 0, false))), optD (stoodO b (leastR b f (rs.take j)) (rs.getD j (0, 0, false)))]) (fun j => by
  show (im (optD _) && (im (optD _) && true)) = true
  rw [im_optD, im_optD]
  rfl) _
theorem g_par {i j : Nat} {ta : TA} {D : Ends} {σ : L2.St} {H : Hp} (q : ta σ H fun vs H1 => ∃ v w, vs = [v, w] ∧ D.nx ((σ.set i (some v)).set j (some w)) H1) : tPar i j ta D σ H := q
def sp_cheapest_walks (K : PySem.W.Frag) (C : Addr) : Sp := fun vs H Q _ => ∃ l n rs b f, vs = [l, .str (sideS b), .int f] ∧ LogAt K C H l n rs ∧ AnyLog n rs ∧ 0 ≤ f ∧ f ≤ n ∧ ∀ H' t ll pl xs, Same H H' → SqT K H' t [.ref ll, .ref pl] → H' ll = some (.lst ((cutsL n (leastR b f rs)).map V.int)) → H' pl = some (.lst xs) → DpAll K H' xs (passD b f rs rs.length) → Q (.ref t) H'
theorem ok_cheapest_walks (T : Txt K mg a) : FnOk P w K mg base CX0 3 a.f_cheapest_walks a.d_cheapest_walks ["log", "side", "first"] (sp_cheapest_walks K a.c_Log) := by
  refine T.F_cheapest_walks.ok sc_cheapest_walks (fun vs H Q E h => ?_) (fun cdv A outer s H vs Q E hr h => ?_)
  · obtain ⟨l, n, rs, b, f, rfl, _⟩ := h
    rfl
  · obtain ⟨l, n, rs, b, f, rfl, hlog, ⟨n1, n12, hmax, hgood⟩, f0, fn, q⟩ := h
    obtain ⟨la, ldx, p, rfl, hla, hrd⟩ := hlog
    obtain ⟨_, ys, e, hp, ha⟩ := of_tup hrd
    cases e
    have hl := DpAll.len ha
    rw [List.length_map] at hl
    refine ⟨_, (pss_cons (ps_set (i := 3) sc_cheapest_walks.nd rfl (.inl rfl) (pe_ifExp (pt_cmpR op_eq (pv 1) pe_str (nomark _)) (pe_un un_neg pe_int) pe_int))
  (pss_cons (ps_setLc (i := 5) (own := [("cut", 4)]) (g := (gName 4)) rfl sc_cheapest_walks.nd rfl rfl (sw_true rfl rfl rfl (by decide +kernel)) (pi_range1 rfl T.z_range (pa_cons (pe_op op_add (kpFld K rfl (pv 0) rfl) pe_int) pa_nil)) (blkOk_by (own := [("cut", 4)]) (N := ["log", "side", "first", "free_way", "cut", "least", "passing", "row", "stood", "free", "paid"]) (sc := defScope s_cheapest_walks) (by decide +kernel)) (fun _ _ _ _ _ => (pg_name (i := 4) sc_cheapest_walks.nd rfl (.inl rfl))) (fun _ _ _ _ _ => pts_nil) (fun _ _ _ _ _ => (pe_call (ok_walk_price T) (hr.mono (by first | decide | omega)) (by rfl) T.g_walk_price T.F_walk_price.kp (T.b_walk_price) .nil pass0 (pa_cons (pv 1) (pa_cons (pv 2) (pa_cons (pv 4) pa_nil))))))
  (pss_cons (ps_set (i := 6) sc_cheapest_walks.nd rfl (.inl rfl) (pe_lst pa_nil))
  (pss_cons (ps_for PassesOwn.never rfl (kiTup K rfl (kpFld K rfl (pv 0) rfl)) (pg_name (i := 7) sc_cheapest_walks.nd rfl (.inl rfl))
  (pss_cons (ps_set (i := 4) sc_cheapest_walks.nd rfl (.inl rfl) (pe_call (ok_barred_cut T) (hr.mono (by first | decide | omega)) (by rfl) T.g_barred_cut T.F_barred_cut.kp (T.b_barred_cut) .nil pass0 (pa_cons (pv 1) (pa_cons (pv 7) pa_nil))))
  (pss_cons (ps_set (i := 8) sc_cheapest_walks.nd rfl (.inl rfl) pe_non)
  (pss_cons (ps_if (pt_cmpR op_notN (pv 4) pe_non (nomark _))
  (pss_cons (ps_par (i := 9) (j := 10) (by rfl) sc_cheapest_walks.nd rfl rfl (by decide) rfl rfl (pa_cons (pe_op op_sub (pv 4) (pv 3)) (pa_cons (pe_op op_add (pv 4) (pv 3)) pa_nil)) (by rfl))
  (pss_cons (ps_set (i := 8) sc_cheapest_walks.nd rfl (.inl rfl) (pe_ifExp (pt_cmpR op_le (pe_ix (kIxL K rfl) (pv 5) (pv 9) (fun _ _ => rfl)) (pe_op op_add (pe_ix (kIxL K rfl) (pv 5) (pv 10) (fun _ _ => rfl)) pe_int) (nomark _)) (pv 9) (pv 10)))
  (pss_one (ps_asg (pe_callB (call_min2 rfl) (by rfl) T.z_min (by decide +kernel) (pa_cons (pe_ix (kIxL K rfl) (pv 5) (pv 9) (fun _ _ => rfl)) (pa_cons (pe_op op_add (pe_ix (kIxL K rfl) (pv 5) (pv 10) (fun _ _ => rfl)) pe_int) pa_nil))) (pg_sub (pv 5) (pv 4) set_list)))))
  pss_nil)
  (pss_one (ps_expr (pe_bm PySem.F.plainAttrs_list PySem.F.slot_list_append PySem.F.type_list_append mt_append (pv 6) (pa_cons (pe_tup (pa_cons (pv 4) (pa_cons (pv 8) pa_nil))) pa_nil))))))))
  (pss_one (ps_ret (pe_tup (pa_cons (pv 5) (pa_cons (pv 6) pa_nil))))))))), ?_⟩
    walk_at "gs"
    refine seq_cut (fun σ' H' => σ' = [some (.ref la), some (.str (sideS b)), some (.int f), some (.int (if b = true then -1 else 1)), none, none, none, none, none, none, none] ∧ H' = H) ?_ ?_
    · rintro σ' H0 ⟨rfl, rfl⟩
      walk_at "go"
      refine ⟨_, _, _, _, _, rfl, hla, T.cl_Log, T.n_Log_offices, rfl, ?_⟩
      walk_at "go"
      refine ⟨_, rfl, by omega, by omega, fun D nD => ?_⟩
      refine lc_same (H0 := H0) walk_rng0 (fun i => ((cutsL n (stepP b f)).take i).map V.int) rfl (fun i _ => ?_) (Same.refl _) nD nD (fun _ _ => trivial) (fun i x H2 H3 C Cn hi s hy hC hN => ?_) (fun H1 s1 hD => ?_)
      · rw [List.length_map, List.length_take, cutsL_len]
        exact small1000 (by omega)
      · obtain ⟨rfl, rfl⟩ := hy
        refine ⟨rfl, ?_⟩
        walk_at "go"
        refine ⟨b, f, ((i : Nat) : Int), rfl, ?_⟩
        refine hC _ _ (Same.refl _) ?_
        rw [take_snoc (cutsL_at hi), List.map_append]
        rfl
      · rw [List.take_of_length_le (by rw [cutsL_len]; exact Nat.le_refl _)] at hD
        walk_at "go"
        refine ⟨Nat.zero_le _, fun PD nPD => ?_⟩
        have s2 : Same H0 (upd H1 PD (.lst [])) := s1.trans (same_new nPD)
        have nPD0 : H0 PD = none := s1.free nPD
        have nD0' := nD
        have nDP : D ≠ PD := ne_of_none hD nPD
        have hD2 : (upd H1 PD (.lst [])) D = some (.lst ((cutsL n (stepP b f)).map V.int)) := by rw [upd_ne nDP]; exact hD
        walk_at "go"
        refine ⟨_, _, _, _, _, rfl, s2 _ _ hla, T.cl_Log, T.n_Log_rows, rfl, ?_⟩
        refine ⟨p, rfl, ⟨_, (Tx.of s2).seq hp⟩, ?_⟩
        refine for_it (walk_tup (K := K) (a := p) (xs := ys)) (fun i σ H' => ∃ y4 y7 y8 y9 y10 xs, σ = [some (.ref la), some (.str (sideS b)), some (.int f), some (.int (if b = true then -1 else 1)), y4, some (.ref D), some (.ref PD), y7, y8, y9, y10] ∧ Same H0 H' ∧ H' D = some (.lst ((cutsL n (leastR b f (rs.take i))).map V.int)) ∧ H' PD = some (.lst xs) ∧ DpAll K H' xs (passD b f rs i))
          ⟨_, _, _, _, _, [], rfl, s2, hD2, upd_same, .nil⟩ (fun i σ H' _ hP => ?_) (fun i x σ H3 H4 hi hP hy => ?_) (fun σ H' hP => ?_)
        · obtain ⟨y4, y7, y8, y9, y10, xs, rfl, sm, _⟩ := hP
          exact (Tx.of sm).seq hp
        · obtain ⟨y4, y7, y8, y9, y10, xs, rfl, sm, hD3, hP3, hxs⟩ := hP
          obtain ⟨rfl, hx⟩ := hy
          obtain ⟨dd, gd, rd⟩ := DpAll.get ha hx
          obtain ⟨r, gr, rfl⟩ := map_at gd
          have hg := hgood r (List.mem_of_getElem? gr)
          have hxl : xs.length = i := by rw [DpAll.len hxs]; unfold passD; simp
          have egr : rs.getD i (0, 0, false) = r := by rw [List.getD_eq_getElem?_getD, gr]; rfl
          have hpass : passD b f rs (i + 1) = passD b f rs i ++ [.tuple [optD (barO b r), optD (stoodO b (leastR b f (rs.take i)) r)]] := by rw [pass_succ, egr]
          have imp := im_pass b f rs (i + 1)
          have hle : leastR b f (rs.take (i + 1)) = stepL b (leastR b f (rs.take i)) r := by rw [take_snoc gr, least_snoc]
          generalize leastR b f (rs.take i) = L at *
          walk_at "go"
          refine ⟨b, x, r, rfl, Dp.same sm _ _ rd, ?_⟩
          walk_at "gs"
          refine g_seq ?_
          walk_at "gs"
          refine seq_cut (fun σ' H' => ∃ y9 y10, σ' = [some (.ref la), some (.str (sideS b)), some (.int f), some (.int (if b = true then -1 else 1)), some (optV (barO b r)), some (.ref D), some (.ref PD), some x, some (optV (stoodO b L r)), y9, y10] ∧ Same H0 H' ∧ Tx H4 H' ∧ H' D = some (.lst ((cutsL n (stepL b L r)).map V.int)) ∧ H' PD = some (.lst xs)) ?_ ?_
          · rintro σ' H5 ⟨y9, y10, rfl, s5, t5, hD5, hP5⟩
            walk_at "go"
            refine ⟨.inl ⟨rfl, _, SqL.at hP5⟩, ?_⟩
            walk_at "go"
            refine ⟨by show 2 ≤ sizeLine; decide, fun t1 nt1 => ?_⟩
            have s6 : Same H5 (upd H5 t1 (.tup [optV (barO b r), optV (stoodO b L r)])) := same_new nt1
            refine ⟨PD, xs, .ref t1, rfl, rfl, s6 _ _ hP5, by rw [hxl]; exact Nat.lt_of_le_of_lt (show i ≤ 100000 by omega) (by decide), ?_⟩
            refine ⟨_, _, _, _, _, xs ++ [.ref t1], rfl, Same.put (s5.trans s6) nPD0, ?_, upd_same, ?_⟩
            · rw [upd_ne nDP, hle]
              exact s6 _ _ hD5
            · rw [hpass]
              rw [hpass] at imp
              exact Dp.txAll (Tx.lst (s6 _ _ hP5)) _ _ imp (DpAll.snoc (Dp.txAll (t5.trans (Tx.of s6)) _ _ (im_pass b f rs i) hxs) (.tup SqT.new (.cons (dp_opt _) (.cons (dp_opt _) .nil))))
          · intro N hN
            cases hb : barO b r with
            | none =>
              walk_at "go"
              refine ⟨rfl, ?_⟩
              walk_at "go"
              refine hN _ _ ⟨y9, y10, ?_, sm, Tx.refl _, by rw [cutsL_none hb]; exact hD3, hP3⟩
              unfold stoodO
              rw [hb]
              rfl
            | some k =>
              obtain ⟨k1, kn⟩ := bar_some hg hb
              have ef : k - (if b = true then -1 else 1) = freeN b k := by unfold freeN; split <;> omega
              have ep : k + (if b = true then -1 else 1) = paidN b k := by unfold paidN; split <;> omega
              have gf : atI ((cutsL n L).map V.int) (freeN b k) = some (.int (L (freeN b k))) := cutsL_get (by unfold freeN; split <;> omega) (by unfold freeN; split <;> omega)
              have gp : atI ((cutsL n L).map V.int) (paidN b k) = some (.int (L (paidN b k))) := cutsL_get (by unfold paidN; split <;> omega) (by unfold paidN; split <;> omega)
              walk_at "go"
              refine ⟨rfl, ?_⟩
              rw [show optV (some k) = V.int k from rfl, show decide (V.int k = V.non) = false from decide_eq_false (fun e => by cases e)]
              walk_at "go"
              refine g_par ?_
              walk_at "go"
              rw [ef, ep]
              refine ⟨_, _, rfl, ?_⟩
              walk_at "go"
              refine g_ixL (SqL.at hD3) gf ?_
              walk_at "go"
              refine g_ixL (SqL.at hD3) gp ?_
              walk_at "go"
              refine g_ite (fun e0 => ?_) (fun e0 => ?_)
              all_goals
                walk_at "go"
                refine g_ixL (SqL.at hD3) gf ?_
                walk_at "go"
                refine g_ixL (SqL.at hD3) gp ?_
                walk_at "go"
                refine ⟨_, _, rfl, ?_⟩
                walk_at "go"
                refine g_setL hD3 (ixN_at (by omega) (by rw [List.length_map, cutsL_len]; omega)) ?_
                refine hN _ _ ⟨some (.int (freeN b k)), some (.int (paidN b k)), ?_, Same.put sm nD0', Tx.lst hD3, ?_, by rw [upd_ne nDP.symm]; exact hP3⟩
                · rw [stood_some hb]
                  first | (rw [if_pos e0, hb]; rfl) | (rw [if_neg e0, hb]; rfl)
                · rw [upd_same, ← cutsL_step hg hb, List.map_set]
                  rfl
        · obtain ⟨y4, y7, y8, y9, y10, xs, rfl, sm, hD3, hP3, hxs⟩ := hP
          rw [hl, List.take_length] at hD3
          rw [hl] at hxs
          walk_at "go"
          refine ⟨by show 2 ≤ sizeLine; decide, fun t1 nt1 => ?_⟩
          have s6 : Same H' (upd H' t1 (.tup [.ref D, .ref PD])) := same_new nt1
          exact q _ t1 D PD xs (sm.trans s6) SqT.new (s6 _ _ hD3) (s6 _ _ hP3) (Dp.sameAll s6 _ _ hxs)
    · intro N hN
      walk_at "go"
      refine ⟨rfl, ?_⟩
      rw [sideS_left]
      cases b with
      | true =>
        walk_at "go"
        exact hN _ _ ⟨rfl, rfl⟩
      | false =>
        walk_at "go"
        exact hN _ _ ⟨rfl, rfl⟩

end

section
variable {P : Program} {w : World} {K : PySem.W.Frag} {mg : Str → Option Value} {base : Heap} {a : Ad}
/-! ### the price -/
def sp_check_cut : Sp := fun vs H Q _ => ∃ n c, vs = [.int n, .int c] ∧ 0 ≤ c ∧ c ≤ n ∧ Q .non H
theorem ok_check_cut (T : Txt K mg a) : FnOk P w K mg base CX0 4 a.f_check_cut a.d_check_cut ["offices", "cut"] sp_check_cut := by
  refine T.F_check_cut.ok sc_check_cut (fun vs H Q E h => ?_) (fun cdv A outer s H vs Q E hr h => ?_)
  · obtain ⟨n, c, rfl, _⟩ := h
    rfl
  · obtain ⟨n, c, rfl, c0, cn, q⟩ := h
    refine ⟨_, (pss_one (ps_if (pt_not (pt_val (pe_call (ok_is_number T) (hr.mono (by first | decide | omega)) (by rfl) T.g_is_number T.F_is_number.kp (T.b_is_number) .nil pass0 (pa_cons (pv 1) (pa_cons (pe_op op_add (pv 0) pe_int) pa_nil)))))
  (pss_one ps_never)
  pss_nil)), ?_⟩
    walk_at "go"
    refine ⟨_, _, rfl, .inl ⟨c, rfl, ?_⟩⟩
    rw [decide_eq_true (show 0 ≤ c ∧ c < n + 1 from ⟨c0, by omega⟩)]
    walk_at "go"
    exact q
def sp_check_ends (K : PySem.W.Frag) (C : Addr) : Sp := fun vs H Q _ => ∃ l n rs b f e, vs = [l, .str (sideS b), .int f, .int e] ∧ LogAt K C H l n rs ∧ 0 ≤ f ∧ f ≤ n ∧ 0 ≤ e ∧ e ≤ n ∧ Q .non H
theorem ok_check_ends (T : Txt K mg a) : FnOk P w K mg base CX0 5 a.f_check_ends a.d_check_ends ["log", "side", "first", "last"] (sp_check_ends K a.c_Log) := by
  refine T.F_check_ends.ok sc_check_ends (fun vs H Q E h => ?_) (fun cdv A outer s H vs Q E hr h => ?_)
  · obtain ⟨l, n, rs, b, f, e, rfl, _⟩ := h
    rfl
  · obtain ⟨l, n, rs, b, f, e, rfl, hlog, f0, fn, e0, en, q⟩ := h
    obtain ⟨la, ldx, p, rfl, hla, hrd⟩ := hlog
    refine ⟨_, (pss_cons (ps_expr (pe_call (ok_check_side T) (hr.mono (by first | decide | omega)) (by rfl) T.g_check_side T.F_check_side.kp (T.b_check_side) .nil pass0 (pa_cons (pv 1) pa_nil)))
  (pss_cons (ps_expr (pe_call (ok_check_cut T) (hr.mono (by first | decide | omega)) (by rfl) T.g_check_cut T.F_check_cut.kp (T.b_check_cut) .nil pass0 (pa_cons (kpFld K rfl (pv 0) rfl) (pa_cons (pv 2) pa_nil))))
  (pss_one (ps_expr (pe_call (ok_check_cut T) (hr.mono (by first | decide | omega)) (by rfl) T.g_check_cut T.F_check_cut.kp (T.b_check_cut) .nil pass0 (pa_cons (kpFld K rfl (pv 0) rfl) (pa_cons (pv 3) pa_nil))))))), ?_⟩
    walk_at "go"
    refine ⟨b, rfl, ?_⟩
    walk_at "go"
    refine ⟨_, _, _, _, _, rfl, hla, T.cl_Log, T.n_Log_offices, rfl, ?_⟩
    walk_at "go"
    refine ⟨n, f, rfl, f0, fn, ?_⟩
    walk_at "go"
    refine ⟨_, _, _, _, _, rfl, hla, T.cl_Log, T.n_Log_offices, rfl, ?_⟩
    walk_at "go"
    refine ⟨n, e, rfl, e0, en, ?_⟩
    walk_at "go"
    exact q

end

section
variable {P : Program} {w : World} {K : PySem.W.Frag} {mg : Str → Option Value} {base : Heap} {a : Ad}
def sp_price (K : PySem.W.Frag) (C : Addr) : Sp := fun vs H Q _ => ∃ l n rs b f e, vs = [l, .str (sideS b), .int f, .int e] ∧ LogAt K C H l n rs ∧ AnyLog n rs ∧ 0 ≤ f ∧ f ≤ n ∧ 0 ≤ e ∧ e ≤ n ∧ ∀ H', Same H H' → Q (.int (leastR b f rs e)) H'
theorem ok_price (T : Txt K mg a) : FnOk P w K mg base CX0 6 a.f_price a.d_price ["log", "side", "first", "last"] (sp_price K a.c_Log) := by
  refine T.F_price.ok sc_price (fun vs H Q E h => ?_) (fun cdv A outer s H vs Q E hr h => ?_)
  · obtain ⟨l, n, rs, b, f, e, rfl, _⟩ := h
    rfl
  · obtain ⟨l, n, rs, b, f, e, rfl, hlog, hG, f0, fn, e0, en, q⟩ := h
    refine ⟨_, (pss_cons (ps_expr (pe_call (ok_check_ends T) (hr.mono (by first | decide | omega)) (by rfl) T.g_check_ends T.F_check_ends.kp (T.b_check_ends) .nil pass0 (pa_cons (pv 0) (pa_cons (pv 1) (pa_cons (pv 2) (pa_cons (pv 3) pa_nil))))))
  (pss_cons (ps_asg (pe_call (ok_cheapest_walks T) (hr.mono (by first | decide | omega)) (by rfl) T.g_cheapest_walks T.F_cheapest_walks.kp (T.b_cheapest_walks) .nil pass0 (pa_cons (pv 0) (pa_cons (pv 1) (pa_cons (pv 2) pa_nil)))) (kgTup K rfl rfl (pgs_cons (pg_name (i := 4) sc_price.nd rfl (.inl rfl)) (pgs_cons (pg_name (i := 5) sc_price.nd rfl (.inl rfl)) pgs_nil))))
  (pss_one (ps_ret (pe_ix (kIxL K rfl) (pv 4) (pv 3) (fun _ _ => rfl)))))), ?_⟩
    walk_at "go"
    refine ⟨l, n, rs, b, f, e, rfl, hlog, f0, fn, e0, en, ?_⟩
    walk_at "go"
    refine ⟨l, n, rs, b, f, rfl, hlog, hG, f0, fn, fun H1 t ll pl xs s1 ht hll hpl hxs => ?_⟩
    refine ⟨t, _, rfl, ht, rfl, _, _, rfl, _, _, rfl, rfl, ?_⟩
    walk_at "go"
    refine g_ixL (SqL.at hll) (cutsL_get e0 en) ?_
    walk_at "go"
    exact q _ s1

end

section
variable {P : Program} {w : World} {K : PySem.W.Frag} {mg : Str → Option Value} {base : Heap} {a : Ad}
def sp_law_cost (K : PySem.W.Frag) : Sp := fun vs H Q _ => ∃ b v f st l, vs = [.str (sideS b), v] ∧ Dp K H v (postD f st l) ∧ st.length ≤ 100000 ∧ ∀ H', Same H H' → Q (.int (costP b f (st ++ [l]))) H'
theorem ok_law_cost (T : Txt K mg a) : FnOk P w K mg base CX0 2 a.f_law_cost a.d_law_cost ["_law_side", "_law_thing"] (sp_law_cost K) := by
  refine T.F_law_cost.ok sc_law_cost (fun vs H Q E h => ?_) (fun cdv A outer s H vs Q E hr h => ?_)
  · obtain ⟨b, v, f, st, l, rfl, _⟩ := h
    rfl
  · obtain ⟨b, v, f, st, l, rfl, hv, hsl, q⟩ := h
    obtain ⟨vp, t, rfl, hvp, ht⟩ := of_post hv
    refine ⟨_, (pss_cons (ps_set (i := 2) sc_law_cost.nd rfl (.inl rfl) (pe_ix (kIxT K rfl) (pv 1) pe_int (fun _ _ => rfl)))
  (pss_cons (ps_set (i := 3) sc_law_cost.nd rfl (.inl rfl) pe_int)
  (pss_cons (ps_for PassesOwn.never rfl (kiTup K rfl (pe_op (kCatA K rfl) (pe_ix (kIxT K rfl) (pv 1) pe_int (fun _ _ => rfl)) (pe_tup (pa_cons (pe_ix (kIxT K rfl) (pv 1) pe_int (fun _ _ => rfl)) pa_nil)))) (pg_name (i := 4) sc_law_cost.nd rfl (.inl rfl))
  (pss_cons (ps_set (i := 3) sc_law_cost.nd rfl (.inl rfl) (pe_op op_add (pv 3) (pe_call (ok_law_step T) (hr.mono (by first | decide | omega)) (by rfl) T.g_law_step T.F_law_step.kp (T.b_law_step) .nil pass0 (pa_cons (pv 0) (pa_cons (pv 2) (pa_cons (pv 4) pa_nil))))))
  (pss_one (ps_set (i := 2) sc_law_cost.nd rfl (.inl rfl) (pv 4)))))
  (pss_one (ps_ret (pv 3)))))), ?_⟩
    walk_at "go"
    refine g_ixT hvp (v := .int f) rfl ?_
    walk_at "go"
    refine g_ixT hvp (v := .ref t) rfl ?_
    walk_at "go"
    refine g_ixT hvp (v := .int l) rfl ?_
    walk_at "go"
    refine ⟨by show 1 ≤ sizeLine; decide, fun p1 np1 => ?_⟩
    have s1 : Same H (upd H p1 (.tup [.int l])) := same_new np1
    refine g_catA ((Tx.of s1).seq ht) SqT.new (by rw [List.length_map]; exact Nat.le_trans (show _ ≤ 200002 by simp only [List.length_cons, List.length_nil]; omega) (by decide)) (fun p2 H2 s2 h2 => ?_)
    have hw : SqT K H2 p2 ((st ++ [l]).map V.int) := by
      rw [List.map_append]
      exact h2
    refine ⟨p2, rfl, ⟨_, hw⟩, ?_⟩
    refine for_it (walk_tup (K := K) (a := p2) (xs := (st ++ [l]).map V.int)) (fun i σ H' => ∃ y4, σ = [some (.str (sideS b)), some (.ref vp), some (.int (((st ++ [l]).take i).getLastD f)), some (.int (costP b f ((st ++ [l]).take i))), y4] ∧ Same H2 H') ⟨_, rfl, Same.refl _⟩ (fun i σ H' _ hP => ?_) (fun i x σ H3 H4 hi hP hy => ?_) (fun σ H' hP => ?_)
    · obtain ⟨y4, rfl, sm⟩ := hP
      exact (Tx.of sm).seq hw
    · obtain ⟨y4, rfl, sm⟩ := hP
      obtain ⟨rfl, hx⟩ := hy
      obtain ⟨cc, gc, rfl⟩ := map_at hx
      walk_at "go"
      refine ⟨b, _, cc, rfl, ?_⟩
      walk_at "go"
      refine ⟨some (.int cc), ?_, sm⟩
      rw [take_snoc gc, cost_snoc, List.getLastD_concat]
      rfl
    · obtain ⟨y4, rfl, sm⟩ := hP
      rw [List.length_map, List.take_length]
      walk_at "go"
      exact q _ (s1.trans (s2.trans sm))

end

section
variable {P : Program} {w : World} {K : PySem.W.Frag} {mg : Str → Option Value} {base : Heap} {a : Ad}
/-! ### all posts -/
def freeCuts (n k : Int) (m : Nat) : List Int := (((List.range m).map fun (j : Nat) => (j : Int)).filter fun c => !decide (c = k))
theorem freeCuts_succ (n k : Int) (m : Nat) : freeCuts n k (m + 1) = freeCuts n k m ++ (if (m : Int) = k then [] else [(m : Int)]) := by
  unfold freeCuts
  rw [List.range_succ, List.map_append, List.filter_append]
  by_cases h : (m : Int) = k
  · simp [h]
  · simp [h]
theorem freeCuts_len (n k : Int) (m : Nat) : (freeCuts n k m).length ≤ m := by
  unfold freeCuts
  refine Nat.le_trans (List.length_filter_le _ _) ?_
  simp
theorem mem_freeCuts {n k : Int} {m : Nat} {c : Int} : c ∈ freeCuts n k m ↔ (0 ≤ c ∧ c < m ∧ c ≠ k) := by
  unfold freeCuts
  rw [List.mem_filter, List.mem_map]
  constructor
  · rintro ⟨⟨j, hj, rfl⟩, h⟩
    have := List.mem_range.mp hj
    refine ⟨by omega, by omega, ?_⟩
    simpa using h
  · rintro ⟨h0, h1, h2⟩
    exact ⟨⟨c.toNat, List.mem_range.mpr (by omega), by omega⟩, by simpa using h2⟩
def stStep (b : Bool) (n : Int) (r : Row) (st : List Int) : List (List Int) := (freeCuts n (barI b r) (n + 1).toNat).map fun c => st ++ [c]
def stF (b : Bool) (n : Int) (rs : List Row) : List (List Int) := rs.foldl (fun ds r => ds.flatMap (stStep b n r)) [[]]
theorem stF_snoc (b : Bool) (n : Int) (rs : List Row) (r : Row) : stF b n (rs ++ [r]) = (stF b n rs).flatMap (stStep b n r) := by
  unfold stF
  rw [List.foldl_append]
  rfl
theorem stStep_len (b : Bool) {n : Int} (h : n ≤ 4) (r : Row) (st : List Int) : (stStep b n r st).length ≤ 5 := by
  unfold stStep
  rw [List.length_map]
  exact Nat.le_trans (freeCuts_len _ _ _) (by omega)
theorem flatMap_le {α β : Type} (f : α → List β) (m : Nat) (h : ∀ x, (f x).length ≤ m) : ∀ xs : List α, (xs.flatMap f).length ≤ m * xs.length
  | [] => by simp
  | x :: xs => by
    rw [List.flatMap_cons, List.length_append, List.length_cons, Nat.mul_succ]
    have := flatMap_le f m h xs
    have := h x
    omega
theorem stF_len (b : Bool) {n : Int} (h : n ≤ 4) (rs : List Row) : ∀ i, i ≤ rs.length → (stF b n (rs.take i)).length ≤ 5 ^ i
  | 0, _ => by
    rw [List.take_zero]
    exact Nat.le_refl _
  | i + 1, hi => by
    rw [take_snoc (List.getElem?_eq_getElem (show i < rs.length by omega)), stF_snoc, Nat.pow_succ, Nat.mul_comm]
    exact Nat.le_trans (flatMap_le _ 5 (stStep_len b h _) _) (Nat.mul_le_mul_left 5 (stF_len b h rs i (by omega)))
theorem stF_len5 (b : Bool) {n : Int} (h : n ≤ 4) {rs : List Row} (hr : rs.length ≤ 5) {i : Nat} (hi : i ≤ rs.length) : (stF b n (rs.take i)).length ≤ 3125 :=
  Nat.le_trans (stF_len b h rs i hi) (Nat.le_trans (Nat.pow_le_pow_right (by decide) (show i ≤ 5 by omega)) (by decide))
theorem mem_stF {b : Bool} {n : Int} {rs : List Row} : ∀ i, i ≤ rs.length → ∀ st : List Int, st ∈ stF b n (rs.take i) ↔ (st.length = i ∧ (∀ c ∈ st, 0 ≤ c ∧ c ≤ n) ∧ ∀ (j : Nat) (z : Int) (r : Row), st[j]? = some z → rs[j]? = some r → freeB b z r = true)
  | 0, _, st => by
    rw [List.take_zero]
    show st ∈ [[]] ↔ _
    rw [List.mem_singleton]
    constructor
    · rintro rfl
      exact ⟨rfl, (fun c hc => by cases hc), (fun j z r h1 _ => by cases h1)⟩
    · rintro ⟨h, _⟩
      exact List.eq_nil_of_length_eq_zero h
  | i + 1, hi, st => by
    have gr := List.getElem?_eq_getElem (show i < rs.length by omega)
    generalize rs[i] = r at gr
    rw [take_snoc gr, stF_snoc, List.mem_flatMap]
    constructor
    · rintro ⟨s0, h0, h1⟩
      unfold stStep at h1
      obtain ⟨c, hc, rfl⟩ := List.mem_map.mp h1
      obtain ⟨c0, cn, cb⟩ := mem_freeCuts.mp hc
      obtain ⟨a1, a2, a3⟩ := (mem_stF i (by omega) s0).mp h0
      refine ⟨by rw [List.length_append, a1]; rfl, fun z hz => ?_, fun j z r' hz hr => ?_⟩
      · rcases List.mem_append.mp hz with hz | hz
        · exact a2 z hz
        · rw [List.mem_singleton.mp hz]; exact ⟨c0, by omega⟩
      · by_cases hj : j < s0.length
        · rw [List.getElem?_append_left hj] at hz
          exact a3 j z r' hz hr
        · have hj2 : j < (s0 ++ [c]).length := (List.getElem?_eq_some_iff.mp hz).1
          rw [List.length_append, List.length_singleton] at hj2
          have ej : j = i := by omega
          subst ej
          rw [List.getElem?_append_right (by omega), show j - s0.length = 0 by omega] at hz
          cases hz
          rw [gr] at hr
          cases hr
          rw [free_of c0, decide_eq_false cb]
          rfl
    · rintro ⟨a1, a2, a3⟩
      have hne : st ≠ [] := fun e => by rw [e] at a1; cases a1
      have hst : st = st.dropLast ++ [st.getLast hne] := (List.dropLast_concat_getLast hne).symm
      generalize st.dropLast = s0 at hst
      generalize st.getLast hne = c at hst
      subst hst
      rw [List.length_append, List.length_singleton] at a1
      have ec := a2 c (by simp)
      refine ⟨s0, (mem_stF i (by omega) s0).mpr ⟨by omega, fun z hz => a2 z (List.mem_append_left _ hz), fun j z r' hz hr => a3 j z r' ?_ hr⟩, ?_⟩
      · rw [List.getElem?_append_left (List.getElem?_eq_some_iff.mp hz).1]
        exact hz
      · unfold stStep
        refine List.mem_map.mpr ⟨c, mem_freeCuts.mpr ⟨ec.1, by omega, ?_⟩, rfl⟩
        have := a3 i c r (by rw [List.getElem?_append_right (by omega), show i - s0.length = 0 by omega]; rfl) gr
        rw [free_of ec.1] at this
        intro e
        rw [decide_eq_true e] at this
        cases this
theorem imAll_tups (ds : List (List Int)) : imAll (ds.map tupI) = true := imAll_map (f := tupI) (fun x => im_ints x) ds
def sp_law_all_stands (K : PySem.W.Frag) : Sp := fun vs H Q _ => ∃ b n rv rs, vs = [.int n, rv, .str (sideS b)] ∧ Dp K H rv (rowsD rs) ∧ (∀ r ∈ rs, GoodRow n r) ∧ rs.length ≤ 5 ∧ 1 ≤ n ∧ n ≤ 4 ∧ ∀ H' f xs, Same H H' → H f = none → H' f = some (.lst xs) → DpAll K H' xs ((stF b n rs).map tupI) → Q (.ref f) H'
theorem ok_law_all_stands (T : Txt K mg a) : FnOk P w K mg base CX0 2 a.f_law_all_stands a.d_law_all_stands ["_law_offices", "_law_rows_here", "_law_side"] (sp_law_all_stands K) := by
  refine T.F_law_all_stands.ok sc_law_all_stands (fun vs H Q E h => ?_) (fun cdv A outer s H vs Q E hr h => ?_)
  · obtain ⟨b, n, rv, rs, rfl, _⟩ := h
    rfl
  · obtain ⟨b, n, rv, rs, rfl, hrv, hgood, h5, n1, n4, q⟩ := h
    obtain ⟨p, ys, rfl, hp, ha⟩ := of_tup hrv
    have hl := DpAll.len ha
    rw [List.length_map] at hl
    refine ⟨_, (pss_cons (ps_set (i := 3) sc_law_all_stands.nd rfl (.inl rfl) (pe_lst (pa_cons (pe_tup pa_nil) pa_nil)))
  (pss_cons (ps_for PassesOwn.never rfl (kiTup K rfl (pv 1)) (pg_name (i := 4) sc_law_all_stands.nd rfl (.inr rfl))
  (pss_cons (ps_set (i := 5) sc_law_all_stands.nd rfl (.inl rfl) (pe_lst pa_nil))
  (pss_cons (ps_for PassesOwn.never rfl (kiList K rfl (pv 3)) (pg_name (i := 6) sc_law_all_stands.nd rfl (.inr rfl))
  (pss_one (ps_expr (pe_bm PySem.F.plainAttrs_list PySem.F.slot_list_extend PySem.F.type_list_extend mt_extend (pv 5) (pa_cons (pe_lc (own := [("_law_cut", 7)]) (g := (gName 7)) rfl sc_law_all_stands.nd (pi_range1 rfl T.z_range (pa_cons (pe_op op_add (pv 0) pe_int) pa_nil)) (blkOk_by (own := [("_law_cut", 7)]) (N := ["_law_offices", "_law_rows_here", "_law_side", "_law_found", "_law_row_here", "_law_later", "_law_stands", "_law_cut"]) (sc := defScope s_law_all_stands) (by decide +kernel)) (fun _ _ _ _ _ => (pg_name (i := 7) sc_law_all_stands.nd rfl (.inl rfl))) (fun _ _ _ _ _ => (pts_one (pt_cmpR op_ne (pv 7) (pe_call (ok_law_bars T) (hr.mono (by first | decide | omega)) (by rfl) T.g_law_bars T.F_law_bars.kp (T.b_law_bars) .nil pass0 (pa_cons (pv 2) (pa_cons (pv 4) pa_nil))) (nomark _)))) (fun _ _ _ _ _ => (pe_op (kCatA K rfl) (pv 6) (pe_tup (pa_cons (pv 7) pa_nil))))) pa_nil)))))
  (pss_one (ps_set (i := 3) sc_law_all_stands.nd rfl (.inl rfl) (pv 5))))))
  (pss_one (ps_ret (pv 3))))), ?_⟩
    walk_at "go"
    refine ⟨Nat.zero_le _, fun t nt => ?_⟩
    walk_at "go"
    refine ⟨by show 1 ≤ sizeLine; decide, fun l nl => ?_⟩
    have s0 : Same H (upd (upd H t (.tup [])) l (.lst [.ref t])) := (same_new nt).trans (same_new nl)
    have nl0 : H l = none := (same_new nt).free nl
    walk_at "go"
    refine ⟨p, rfl, ⟨_, (Tx.of s0).seq hp⟩, ?_⟩
    refine for_it (walk_tup (K := K) (a := p) (xs := ys)) (fun i σ H' => ∃ l xs y4 y5 y6 y7, σ = [some (.int n), some (.ref p), some (.str (sideS b)), some (.ref l), y4, y5, y6, y7] ∧ Same H H' ∧ H l = none ∧ H' l = some (.lst xs) ∧ DpAll K H' xs ((stF b n (rs.take i)).map tupI))
      ⟨l, [.ref t], _, _, _, _, rfl, s0, nl0, upd_same, .cons (.tup ((Tx.new nl).seq SqT.new) .nil) .nil⟩ (fun i σ H' _ hP => ?_) (fun i x σ H1 H1' hi hP hy => ?_) (fun σ H' hP => ?_)
    · obtain ⟨l, xs, _, _, _, _, _, sm, _⟩ := hP
      exact (Tx.of sm).seq hp
    · obtain ⟨l, xs, y4, y5, y6, y7, rfl, sm, nl0, hl1, hxs⟩ := hP
      obtain ⟨rfl, hx⟩ := hy
      obtain ⟨d, gd, rd⟩ := DpAll.get ha hx
      obtain ⟨r, gr, rfl⟩ := map_at gd
      have hg := hgood r (List.mem_of_getElem? gr)
      have hi' : i < rs.length := (List.getElem?_eq_some_iff.mp gr).1
      have hlen := stF_len5 b n4 h5 (show i ≤ rs.length by omega)
      have hxl := DpAll.len hxs
      rw [List.length_map] at hxl
      have hsnoc : stF b n (rs.take (i + 1)) = (stF b n (rs.take i)).flatMap (stStep b n r) := by rw [take_snoc gr, stF_snoc]
      have hmem : ∀ st ∈ stF b n (rs.take i), st.length ≤ 5 := fun st hs => by have := ((mem_stF i (by omega) st).mp hs).1; omega
      generalize stF b n (rs.take i) = F at *
      walk_at "go"
      refine ⟨Nat.zero_le _, fun g ng => ?_⟩
      walk_at "go"
      have sg : Same H1' (upd H1' g (.lst [])) := same_new ng
      refine ⟨l, rfl, ⟨_, SqL.at (sg _ _ hl1)⟩, ?_⟩
      refine for_it (walk_list (K := K) (a := l) (xs := xs)) (fun j σ H' => ∃ zs y6 y7, σ = [some (.int n), some (.ref p), some (.str (sideS b)), some (.ref l), some x, some (.ref g), y6, y7] ∧ Same H1' H' ∧ H' g = some (.lst zs) ∧ DpAll K H' zs (((F.take j).flatMap (stStep b n r)).map tupI))
        ⟨[], _, _, rfl, sg, upd_same, .nil⟩ (fun j σ H' _ hP => ?_) (fun j z σ H2 H2' hj hP hy => ?_) (fun σ H' hP => ?_)
      · obtain ⟨zs, _, _, _, s2, _⟩ := hP
        exact SqL.at (s2 _ _ hl1)
      · obtain ⟨zs, y6, y7, rfl, s2, hg2, hzs⟩ := hP
        obtain ⟨rfl, hx2⟩ := hy
        obtain ⟨e, ge, re⟩ := DpAll.get hxs hx2
        obtain ⟨st, gst, rfl⟩ := map_at ge
        obtain ⟨fp, rfl, hfp⟩ := of_ints re
        have hzl := DpAll.len hzs
        rw [List.length_map] at hzl
        have hzb : ((F.take j).flatMap (stStep b n r)).length ≤ 15625 := by
          have := flatMap_le _ 5 (stStep_len b n4 r) (F.take j)
          rw [List.length_take] at this
          omega
        have hsl := hmem st (List.mem_of_getElem? gst)
        have eT : (F.take (j + 1)).flatMap (stStep b n r) = (F.take j).flatMap (stStep b n r) ++ stStep b n r st := by
          rw [take_snoc gst, List.flatMap_append]
          simp
        have hcat : ∀ (c : Int) (H4 : Hp) (Q : VK), Same H2' H4 → (∀ y H5, Same H4 H5 → Dp K H5 y (tupI (st ++ [c])) → Q y H5) → ∀ t2, H4 t2 = none → rCatA K (.ref fp) (.ref t2) (upd H4 t2 (.tup [.int c])) Q := by
          intro c H4 Q s4 hq t2 nt2
          have s5 : Same H4 (upd H4 t2 (.tup [.int c])) := same_new nt2
          refine g_catA ((Tx.of (s2.trans (s4.trans s5))).seq hfp) SqT.new (by rw [List.length_map]; exact Nat.le_trans (show _ ≤ 200 by simp only [List.length_cons, List.length_nil]; omega) (by decide)) (fun p5 H5 s6 h6 => ?_)
          exact hq _ _ (s5.trans s6) (dp_ints (by rw [List.map_append]; exact h6))
        walk_at "go"
        refine ⟨.inl ⟨rfl, _, SqL.at hg2⟩, ?_⟩
        walk_at "go"
        refine ⟨_, rfl, by omega, by omega, fun D nD => ?_⟩
        refine lc_data (K := K) walk_rng0 (fun m => ((freeCuts n (barI b r) m).map fun c => st ++ [c]).map tupI) rfl (fun m hm => ?_) (fun m _ => imAll_tups _) nD (fun _ _ => trivial) (fun m z H3 H3' C Cn hm s3 hy hC hN => ?_) (fun H3 us s3 hD hus => ?_)
        · rw [List.length_map, List.length_map]
          exact Nat.lt_of_le_of_lt (Nat.le_trans (freeCuts_len _ _ _) (show m ≤ 100 by omega)) (by decide)
        · obtain ⟨rfl, rfl⟩ := hy
          refine ⟨rfl, ?_⟩
          walk_at "go"
          refine ⟨b, n, x, r, rfl, Dp.same (sm.trans (s2.trans s3)) _ _ rd, hg, ?_⟩
          walk_at "go"
          refine g_iteN (fun e0 => ?_) (fun e0 => ?_)
          · walk_at "go"
            refine ⟨by show 1 ≤ sizeLine; decide, fun t2 nt2 => ?_⟩
            refine hcat (m : Int) _ _ s3 (fun y H5 s5 hy => hC _ _ _ s5 hy ?_) t2 nt2
            rw [freeCuts_succ, if_neg e0, List.map_append, List.map_append]
            rfl
          · refine hN _ (Same.refl _) ?_
            rw [freeCuts_succ, if_pos e0, List.append_nil]
        · have hul := DpAll.len hus
          rw [List.length_map, List.length_map] at hul
          have hfb := freeCuts_len n (barI b r) (n + 1).toNat
          walk_at "go"
          refine ⟨g, D, zs, us, rfl, rfl, s3 _ _ hg2, hD, by rw [hzl, hul]; exact Nat.le_trans (show _ ≤ 100000 by omega) (by decide), ?_⟩
          walk_at "go"
          refine ⟨zs ++ us, _, _, rfl, Same.put (s2.trans s3) ng, upd_same, ?_⟩
          have eD : stStep b n r st = (freeCuts n (barI b r) (n + 1).toNat).map fun c => st ++ [c] := by
            rfl
          rw [eT, eD, List.map_append]
          have im1 := imAll_tups ((F.take j).flatMap (stStep b n r) ++ (freeCuts n (barI b r) (n + 1).toNat).map fun c => st ++ [c])
          rw [List.map_append] at im1
          exact Dp.txAll (Tx.lst (s3 _ _ hg2)) _ _ im1 (DpAll.app (Dp.sameAll s3 _ _ hzs) hus)
      · obtain ⟨zs, y6, y7, rfl, s2, hg2, hzs⟩ := hP
        walk_at "go"
        refine ⟨g, zs, _, _, _, _, rfl, sm.trans s2, sm.free ng, hg2, ?_⟩
        rw [hsnoc]
        rw [hxl, List.take_length] at hzs
        exact hzs
    · obtain ⟨l, xs, y4, y5, y6, y7, rfl, sm, nl0, hl1, hxs⟩ := hP
      rw [hl, List.take_length] at hxs
      walk_at "go"
      exact q _ l xs sm nl0 hl1 hxs
/-! ### the least of them -/
theorem cutsL_set {n : Int} {L : Int → Int} {k : Nat} {v : Int} : (cutsL n L).set k v = cutsL n (fun c => if c = (k : Int) then v else L c) := by
  refine List.ext_getElem? fun i => ?_
  by_cases hi : i < (n + 1).toNat
  · rw [cutsL_at hi]
    by_cases e : k = i
    · rw [← e, List.getElem?_set_self (by rw [cutsL_len]; omega), if_pos rfl]
    · rw [List.getElem?_set_ne e, cutsL_at hi, if_neg (by omega)]
  · rw [List.getElem?_eq_none (by rw [List.length_set, cutsL_len]; omega), List.getElem?_eq_none (by rw [cutsL_len]; omega)]
theorem cutsL_ext {n : Int} {L M : Int → Int} (h : ∀ c, 0 ≤ c → c ≤ n → L c = M c) : cutsL n L = cutsL n M := by
  refine List.ext_getElem? fun i => ?_
  by_cases hi : i < (n + 1).toNat
  · rw [cutsL_at hi, cutsL_at hi, h _ (by omega) (by omega)]
  · rw [List.getElem?_eq_none (by rw [cutsL_len]; omega), List.getElem?_eq_none (by rw [cutsL_len]; omega)]
theorem rep_cuts (n v : Int) : (List.replicate (n + 1).toNat [V.int v]).flatten = (cutsL n fun _ => v).map V.int := by
  unfold cutsL
  rw [List.map_map]
  refine List.ext_getElem? fun i => ?_
  rw [List.flatten_replicate_singleton, List.getElem?_replicate, List.getElem?_map]
  by_cases hi : i < (n + 1).toNat
  · rw [List.getElem?_range hi, if_pos hi]
    rfl
  · rw [if_neg hi, List.getElem?_eq_none (by rw [List.length_range]; omega)]
    rfl
def minF (b : Bool) (f : Int) (F : List (List Int)) (c : Int) : Int := F.foldl (fun m st => minI m (costP b f (st ++ [c]))) 1000000
theorem minF_snoc (b : Bool) (f : Int) (F : List (List Int)) (st : List Int) (c : Int) : minF b f (F ++ [st]) c = minI (minF b f F c) (costP b f (st ++ [c])) := by
  unfold minF
  rw [List.foldl_append]
  rfl
theorem foldMin {g : List Int → Int} : ∀ (F : List (List Int)) (m : Int), F.foldl (fun m st => minI m (g st)) m ≤ m ∧ (∀ st ∈ F, F.foldl (fun m st => minI m (g st)) m ≤ g st) ∧ (∀ k, k ≤ m → (∀ st ∈ F, k ≤ g st) → k ≤ F.foldl (fun m st => minI m (g st)) m)
  | [], m => ⟨Int.le_refl _, (fun st h => by cases h), fun k h _ => h⟩
  | x :: F, m => by
    obtain ⟨h1, h2, h3⟩ := foldMin (g := g) F (minI m (g x))
    obtain ⟨m1, m2, m3⟩ := minI_le m (g x)
    rw [List.foldl_cons]
    refine ⟨by omega, fun st hs => ?_, fun k hk ha => ?_⟩
    · rcases List.mem_cons.mp hs with rfl | hs
      · omega
      · exact h2 st hs
    · refine h3 k ?_ fun st hs => ha st (List.mem_cons_of_mem _ hs)
      have := ha x (List.mem_cons_self ..)
      rcases m3 with m3 | m3 <;> omega
theorem cost_le {b : Bool} {n : Int} : ∀ (st : List Int) (f : Int), 0 ≤ f → f ≤ n → (∀ c ∈ st, 0 ≤ c ∧ c ≤ n) → costP b f st ≤ n * (st.length : Int)
  | [], f, _, _, _ => by
    show (0 : Int) ≤ n * 0
    omega
  | c :: st, f, f0, fn, h => by
    have hc := h c (List.mem_cons_self ..)
    have h1 := cost_le (b := b) st c hc.1 hc.2 fun z hz => h z (List.mem_cons_of_mem _ hz)
    have h2 := step_le (b := b) (n := n) ⟨f0, fn⟩ hc
    show stepP b f c + costP b c st ≤ n * ((st.length + 1 : Nat) : Int)
    rw [Int.natCast_add, Int.mul_add]
    omega
theorem minF_is {b : Bool} {n f c : Int} {rs : List Row} (n4 : n ≤ 4) (h5 : rs.length ≤ 5) (hf : 0 ≤ f ∧ f ≤ n) (hg : ∀ r ∈ rs, GoodRow n r) (c0 : 0 ≤ c) (cn : c ≤ n) : minF b f (stF b n rs) c = leastR b f rs c := by
  obtain ⟨_, h2, h3⟩ := foldMin (g := fun st => costP b f (st ++ [c])) (stF b n rs) 1000000
  have hm : ∀ st, st ∈ stF b n rs ↔ (st.length = rs.length ∧ (∀ c ∈ st, 0 ≤ c ∧ c ≤ n) ∧ ∀ (j : Nat) (z : Int) (r : Row), st[j]? = some z → rs[j]? = some r → freeB b z r = true) := fun st => by
    have := mem_stF (b := b) (n := n) (rs := rs) rs.length (Nat.le_refl _) st
    rw [List.take_length] at this
    exact this
  obtain ⟨st, s1, s2, s3, s4⟩ := least_post (b := b) hf hg rs.length (Nat.le_refl _) c c0 cn
  rw [List.take_length] at s4
  have e1 : minF b f (stF b n rs) c ≤ costP b f (st ++ [c]) := h2 st ((hm st).mpr ⟨s1, s2, s3⟩)
  have hcl := cost_le (b := b) (n := n) (st ++ [c]) f hf.1 hf.2 (fun z hz => by
    rcases List.mem_append.mp hz with hz | hz
    · exact s2 z hz
    · rw [List.mem_singleton.mp hz]; exact ⟨c0, cn⟩)
  rw [List.length_append, List.length_singleton, s1] at hcl
  have hb : n * ((rs.length + 1 : Nat) : Int) ≤ 4 * 6 := Int.mul_le_mul n4 (by omega) (by omega) (by decide)
  have e2 : leastR b f rs c ≤ minF b f (stF b n rs) c := h3 _ (by omega) fun st' hs => by
    obtain ⟨a1, a2, a3⟩ := (hm st').mp hs
    refine least_is hf hg a1 a2 ?_ c0 cn
    rw [List.all_eq_true]
    intro x hx
    unfold stands at hx
    obtain ⟨⟨c, r⟩, hp, rfl⟩ := List.mem_map.mp hx
    obtain ⟨i, hi⟩ := List.mem_iff_getElem?.mp hp
    obtain ⟨h1, h2⟩ := List.getElem?_zip_eq_some.mp hi
    exact a3 i c r h1 h2
  omega
def sp_law_least (K : PySem.W.Frag) : Sp := fun vs H Q _ => ∃ b n rv rs f, vs = [.int n, rv, .str (sideS b), .int f] ∧ Dp K H rv (rowsD rs) ∧ (∀ r ∈ rs, GoodRow n r) ∧ rs.length ≤ 5 ∧ 1 ≤ n ∧ n ≤ 4 ∧ 0 ≤ f ∧ f ≤ n ∧ ∀ H' D, Same H H' → H' D = some (.lst ((cutsL n (leastR b f rs)).map V.int)) → Q (.ref D) H'
theorem ok_law_least (T : Txt K mg a) : FnOk P w K mg base CX0 3 a.f_law_least a.d_law_least ["_law_offices", "_law_rows_here", "_law_side", "_law_first"] (sp_law_least K) := by
  refine T.F_law_least.ok sc_law_least (fun vs H Q E h => ?_) (fun cdv A outer s H vs Q E hr h => ?_)
  · obtain ⟨b, n, rv, rs, f, rfl, _⟩ := h
    rfl
  · obtain ⟨b, n, rv, rs, f, rfl, hrv, hgood, h5, n1, n4, f0, fn, q⟩ := h
    refine ⟨_, (pss_cons (ps_set (i := 4) sc_law_least.nd rfl (.inl rfl) (pe_op op_rep (pe_lst (pa_cons (pe_op op_pow pe_int pe_int) pa_nil)) (pe_op op_add (pv 0) pe_int)))
  (pss_cons (ps_for PassesOwn.never rfl (kiList K rfl (pe_call (ok_law_all_stands T) (hr.mono (by first | decide | omega)) (by rfl) T.g_law_all_stands T.F_law_all_stands.kp (T.b_law_all_stands) .nil pass0 (pa_cons (pv 0) (pa_cons (pv 1) (pa_cons (pv 2) pa_nil))))) (pg_name (i := 5) sc_law_least.nd rfl (.inl rfl))
  (pss_one (ps_for PassesOwn.never rfl (pi_range1 rfl T.z_range (pa_cons (pe_op op_add (pv 0) pe_int) pa_nil)) (pg_name (i := 6) sc_law_least.nd rfl (.inl rfl))
  (pss_one (ps_asg (pe_callB (call_min2 rfl) (by rfl) T.z_min (by decide +kernel) (pa_cons (pe_ix (kIxL K rfl) (pv 4) (pv 6) (fun _ _ => rfl)) (pa_cons (pe_call (ok_law_cost T) (hr.mono (by first | decide | omega)) (by rfl) T.g_law_cost T.F_law_cost.kp (T.b_law_cost) .nil pass0 (pa_cons (pv 2) (pa_cons (pe_tup (pa_cons (pv 3) (pa_cons (pv 5) (pa_cons (pv 6) pa_nil)))) pa_nil))) pa_nil))) (pg_sub (pv 4) (pv 6) set_list))))))
  (pss_one (ps_ret (pv 4))))), ?_⟩
    walk_at "go"
    refine g_rI ⟨by decide, by decide, by decide⟩ ?_
    walk_at "go"
    refine ⟨by show 1 ≤ sizeLine; decide, fun p0 np0 => ?_⟩
    walk_at "go"
    refine ⟨p0, n + 1, _, rfl, rfl, upd_same, by omega, by omega, Nat.le_trans (show 1 * (n + 1).toNat ≤ 100 by omega) (by decide), fun D nD => ?_⟩
    have s0 : Same H (upd (upd H p0 (.lst [.int (10 ^ (6 : Int).toNat)])) D (.lst (List.replicate (n + 1).toNat [V.int (10 ^ (6 : Int).toNat)]).flatten)) := (same_new np0).trans (same_new nD)
    have nD0 : H D = none := (same_new np0).free nD
    have hD0 : (upd (upd H p0 (.lst [.int (10 ^ (6 : Int).toNat)])) D (.lst (List.replicate (n + 1).toNat [V.int (10 ^ (6 : Int).toNat)]).flatten)) D = some (.lst ((cutsL n fun _ => 1000000).map V.int)) := by
      rw [upd_same, show (10 : Int) ^ (6 : Int).toNat = 1000000 from by decide, rep_cuts]
    generalize upd (upd H p0 (.lst [.int (10 ^ (6 : Int).toNat)])) D (.lst (List.replicate (n + 1).toNat [V.int (10 ^ (6 : Int).toNat)]).flatten) = H0 at *
    walk_at "go"
    refine ⟨b, n, rv, rs, rfl, Dp.same s0 _ _ hrv, hgood, h5, n1, n4, fun H1 l xs s1 nl hl hxs => ?_⟩
    have hlen := stF_len5 b n4 h5 (Nat.le_refl rs.length)
    rw [List.take_length] at hlen
    have hxl := DpAll.len hxs
    rw [List.length_map] at hxl
    have hmem : ∀ st ∈ stF b n rs, st.length ≤ 5 := fun st hs => by
      have h := mem_stF (b := b) (n := n) (rs := rs) rs.length (Nat.le_refl _) st
      rw [List.take_length] at h
      have := (h.mp hs).1
      omega
    have lD : l ≠ D := fun e => by rw [e, hD0] at nl; cases nl
    have hfin : cutsL n (minF b f (stF b n rs)) = cutsL n (leastR b f rs) := cutsL_ext fun c c0 cn => minF_is n4 h5 ⟨f0, fn⟩ hgood c0 cn
    generalize stF b n rs = F at *
    refine ⟨l, rfl, ⟨_, SqL.at hl⟩, ?_⟩
    refine for_it (walk_list (K := K) (a := l) (xs := xs)) (fun i σ H' => ∃ y5 y6, σ = [some (.int n), some rv, some (.str (sideS b)), some (.int f), some (.ref D), y5, y6] ∧ Same H H' ∧ Tx H1 H' ∧ H' l = some (.lst xs) ∧ H' D = some (.lst ((cutsL n (minF b f (F.take i))).map V.int)))
      ⟨_, _, rfl, s0.trans s1, Tx.refl _, hl, s1 _ _ hD0⟩ (fun i σ H' _ hP => ?_) (fun i z σ H2 H2' hi hP hy => ?_) (fun σ H' hP => ?_)
    · obtain ⟨_, _, _, _, _, hl2, _⟩ := hP
      exact SqL.at hl2
    · obtain ⟨y5, y6, rfl, sm, t2, hl2, hD2⟩ := hP
      obtain ⟨rfl, hx2⟩ := hy
      obtain ⟨e, ge, re⟩ := DpAll.get hxs hx2
      obtain ⟨st, gst, rfl⟩ := map_at ge
      have hsl := hmem st (List.mem_of_getElem? gst)
      have him : im (tupI st) = true := im_ints st
      walk_at "go"
      refine ⟨_, rfl, by omega, by omega, ?_⟩
      refine for_it walk_rng0 (fun m σ H' => ∃ y6, σ = [some (.int n), some rv, some (.str (sideS b)), some (.int f), some (.ref D), some z, y6] ∧ Same H H' ∧ Tx H1 H' ∧ H' l = some (.lst xs) ∧ H' D = some (.lst ((cutsL n (fun c => if c < (m : Int) then minF b f (F.take (i + 1)) c else minF b f (F.take i) c)).map V.int)))
        ⟨_, rfl, sm, t2, hl2, ?_⟩ (fun _ _ _ _ _ => trivial) (fun m z2 σ H3 H3' hm hP hy => ?_) (fun σ H' hP => ?_)
      · refine hD2.trans (congrArg (fun z : List Int => some (HO.lst (z.map V.int))) ?_)
        exact cutsL_ext fun c c0 _ => (if_neg (by omega)).symm
      · obtain ⟨y6, rfl, sm3, t3, hl3, hD3⟩ := hP
        obtain ⟨rfl, rfl⟩ := hy
        have hmn : (m : Int) ≤ n := by omega
        walk_at "go"
        refine g_ixL (SqL.at hD3) (cutsL_get (by omega) hmn) ?_
        rw [if_neg (by omega)]
        walk_at "go"
        refine ⟨by show 3 ≤ sizeLine; decide, fun t1 nt1 => ?_⟩
        have s4 : Same H3' (upd H3' t1 (.tup [.int f, z, .int (m : Int)])) := same_new nt1
        walk_at "go"
        refine ⟨b, .ref t1, f, st, (m : Int), rfl, .tup SqT.new (.cons (.int f) (.cons (Dp.tx (t3.trans (Tx.of s4)) _ _ him re) (.cons (.int _) .nil))), by omega, fun H5 s5 => ?_⟩
        have hD5 := (s4.trans s5) _ _ hD3
        walk_at "go"
        refine ⟨_, _, rfl, ?_⟩
        walk_at "go"
        refine g_setL hD5 (ixN_at (by omega) (by rw [List.length_map, cutsL_len]; omega)) ?_
        refine ⟨_, rfl, Same.put (sm3.trans (s4.trans s5)) nD0, (t3.trans (Tx.of (s4.trans s5))).trans (Tx.lst hD5), by rw [upd_ne lD]; exact (s4.trans s5) _ _ hl3, ?_⟩
        rw [upd_same, Int.toNat_natCast, show V.int (if costP b f (st ++ [(m : Int)]) < minF b f (F.take i) (m : Int) then costP b f (st ++ [(m : Int)]) else minF b f (F.take i) (m : Int)) = V.int (minF b f (F.take (i + 1)) (m : Int)) from by rw [take_snoc gst, minF_snoc]; rfl, ← List.map_set, cutsL_set]
        congr 3
        refine cutsL_ext fun c c0 _ => ?_
        by_cases e1 : c = (m : Int)
        · rw [if_pos e1, if_pos (by omega), e1]
        · rw [if_neg e1]
          by_cases e2 : c < (m : Int)
          · rw [if_pos e2, if_pos (by omega)]
          · rw [if_neg e2, if_neg (by omega)]
      · obtain ⟨y6, rfl, sm3, t3, hl3, hD3⟩ := hP
        refine ⟨_, _, rfl, sm3, t3, hl3, ?_⟩
        rw [hD3]
        congr 3
        exact cutsL_ext fun c c0 cn => if_pos (by omega)
    · obtain ⟨y5, y6, rfl, sm, t2, hl2, hD2⟩ := hP
      rw [hxl, List.take_length, hfin] at hD2
      walk_at "go"
      exact q _ D sm hD2
/-! ### the law -/
def lawLevel : Nat := 12
def sp_law (K : PySem.W.Frag) : Sp := fun vs H Q _ => ∃ (a : Addr) (ns : List Int), vs = [.ref a] ∧ SqL K H a (ns.map V.int) ∧ ns.length ≤ 63 ∧ ∀ H', Q (.bl true) H'
theorem ok_law (T : Txt K mg a) : FnOk P w K mg base CX0 lawLevel a.f_law a.d_law ["_law_script"] (sp_law K) := by
  refine T.F_law.ok sc_law (fun vs H Q E h => ?_) (fun cdv A outer s H vs Q E hr h => ?_)
  · obtain ⟨s, ns, rfl, _⟩ := h
    rfl
  · obtain ⟨sa, cells, rfl, hS, hlen, q⟩ := h
    refine ⟨_, (pss_cons (ps_set (i := 1) sc_law.nd rfl (.inl rfl) (pe_call (ok_law_hand T) (hr.mono (by first | decide | omega)) (by rfl) T.g_law_hand T.F_law_hand.kp (T.b_law_hand) .nil pass0 (pa_cons (pv 0) pa_nil)))
  (pss_cons (ps_for PassesOwn.never rfl (pi_range1 rfl T.z_range (pa_cons pe_int pa_nil)) (pg_name (i := 2) sc_law.nd rfl (.inl rfl))
  (pss_cons (ps_set (i := 3) sc_law.nd rfl (.inl rfl) (pe_op op_add pe_int (pe_call (ok_law_draw T) (hr.mono (by first | decide | omega)) (by rfl) T.g_law_draw T.F_law_draw.kp (T.b_law_draw) .nil pass0 (pa_cons (pv 1) (pa_cons pe_int pa_nil)))))
  (pss_cons (ps_set (i := 4) sc_law.nd rfl (.inl rfl) (pe_call (ok_law_rows T) (hr.mono (by first | decide | omega)) (by rfl) T.g_law_rows T.F_law_rows.kp (T.b_law_rows) .nil pass0 (pa_cons (pv 1) (pa_cons (pv 3) (pa_cons (pe_call (ok_law_draw T) (hr.mono (by first | decide | omega)) (by rfl) T.g_law_draw T.F_law_draw.kp (T.b_law_draw) .nil pass0 (pa_cons (pv 1) (pa_cons (pe_ifExp (pt_cmpR op_eq (pv 3) pe_int (nomark _)) pe_int pe_int) pa_nil))) (pa_cons pe_int pa_nil))))))
  (pss_cons (ps_set (i := 5) sc_law.nd rfl (.inr rfl) (pe_make T.mk_Log (ok_Log_init T) (hr.mono (by first | decide | omega)) (by rfl) T.gc_Log T.b_Log_init .nil pass0 (pa_cons (pv 3) (pa_cons (pv 4) pa_nil))))
  (pss_one (ps_for PassesOwn.never rfl (kiTup K rfl (pe_tup (pa_cons pe_str (pa_cons pe_str pa_nil)))) (pg_name (i := 6) sc_law.nd rfl (.inr rfl))
  (pss_one (ps_for PassesOwn.never rfl (pi_range1 rfl T.z_range (pa_cons (pe_op op_add (pv 3) pe_int) pa_nil)) (pg_name (i := 7) sc_law.nd rfl (.inr rfl))
  (pss_cons (ps_set (i := 8) sc_law.nd rfl (.inl rfl) (pe_call (ok_law_least T) (hr.mono (by first | decide | omega)) (by rfl) T.g_law_least T.F_law_least.kp (T.b_law_least) .nil pass0 (pa_cons (pv 3) (pa_cons (pv 4) (pa_cons (pv 6) (pa_cons (pv 7) pa_nil))))))
  (pss_one (ps_if (pt_not (pt_val (pe_call (ok_law_is T 1) (hr.mono (by first | decide | omega)) (by rfl) T.g_law_is T.F_law_is.kp (T.b_law_is) .nil pass0 (pa_cons (pe_lc (own := [("_law_last", 9)]) (g := (gName 9)) rfl sc_law.nd (pi_range1 rfl T.z_range (pa_cons (pe_op op_add (pv 3) pe_int) pa_nil)) (blkOk_by (own := [("_law_last", 9)]) (N := ["_law_script", "_law_hand_here", "_law_turn", "_law_offices", "_law_rows_here", "_law_log", "_law_side", "_law_first", "_law_due", "_law_last"]) (sc := defScope s_law) (by decide +kernel)) (fun _ _ _ _ _ => (pg_name (i := 9) sc_law.nd rfl (.inl rfl))) (fun _ _ _ _ _ => pts_nil) (fun _ _ _ _ _ => (pe_call (ok_price T) (hr.mono (by first | decide | omega)) (by rfl) T.g_price T.F_price.kp (T.b_price) .nil pass0 (pa_cons (pv 5) (pa_cons (pv 6) (pa_cons (pv 7) (pa_cons (pv 9) pa_nil))))))) (pa_cons (pv 8) pa_nil)))))
  (pss_one (ps_ret pe_bl))
  pss_nil)))))))))))
  (pss_one (ps_ret pe_bl)))), ?_⟩
    walk_at "go"
    refine ⟨sa, cells, rfl, hS, hlen, fun H1 d c s1 nd hD1 => ?_⟩
    walk_at "go"
    refine ⟨_, rfl, by decide, by decide, ?_⟩
    refine for_it walk_rng0 (fun i σ H' => ∃ y2 y3 y4 y5 y6 y7 y8 y9, σ = [some (.ref sa), some (.ref d), y2, y3, y4, y5, y6, y7, y8, y9] ∧ Dice d c H') ⟨_, _, _, _, _, _, _, _, rfl, hD1⟩ (fun _ _ _ _ _ => trivial) (fun i z σ H4 H4' hi hP hy => ?_) (fun σ H' hP => ?_)
    · obtain ⟨y2, y3, y4, y5, y6, y7, y8, y9, rfl, hD4⟩ := hP
      obtain ⟨rfl, rfl⟩ := hy
      walk_at "go"
      refine ⟨d, c, 4, rfl, hD4, by decide, by decide, fun H5 n f5 hD5 n0 n4 => ?_⟩
      walk_at "gs"
      have hn1 : 1 ≤ 1 + n := by omega
      have hn4 : 1 + n ≤ 4 := by omega
      generalize 1 + n = nn at *
      refine seq_cut (fun σ' H' => ∃ rv rs, σ' = [some (.ref sa), some (.ref d), some (.int ((i : Nat) : Int)), some (.int nn), some rv, y5, y6, y7, y8, y9] ∧ Dice d c H' ∧ Dp K H' rv (rowsD rs) ∧ (∀ r ∈ rs, GoodRow nn r) ∧ rs.length ≤ 5) ?_ ?_
      · rintro σ' H7 ⟨rv, rs, rfl, hD7, hrv, hgood, hrl⟩
        obtain ⟨p, ys, rfl, hp, ha⟩ := of_tup hrv
        have hG : GoodLog nn rs := ⟨hn1, by omega, by omega, hgood⟩
        walk_at "go"
        intro x dx nx ndx nxd
        refine ⟨x, dx, nn, p, rs, rfl, upd_same, ?_, hG, fun H8 f8 hx8 => ⟨rfl, ?_⟩⟩
        · exact Dp.same ((same_new ndx).trans (same_new (by rw [upd_ne nxd.symm]; exact nx))) _ _ hrv
        have s8 := log_made nx ndx f8
        have hD8 := hD7.fr s8
        have hrv8 := Dp.same s8 _ _ hrv
        have hlog : LogAt K a.c_Log H8 (.ref x) nn rs := ⟨x, dx, p, rfl, hx8, hrv8⟩
        have hA : AnyLog nn rs := ⟨hn1, by omega, by omega, hgood⟩
        walk_at "go"
        refine ⟨by show 2 ≤ sizeLine; decide, fun t1 nt1 => ?_⟩
        have s9 : Same H8 (upd H8 t1 (.tup [.str (Str.ofString "left"), .str (Str.ofString "right")])) := same_new nt1
        have ht1 : SqT K (upd H8 t1 (.tup [.str (Str.ofString "left"), .str (Str.ofString "right")])) t1 [.str (Str.ofString "left"), .str (Str.ofString "right")] := SqT.new
        refine ⟨t1, rfl, ⟨_, ht1⟩, ?_⟩
        generalize upd H8 t1 (.tup [.str (Str.ofString "left"), .str (Str.ofString "right")]) = H9 at *
        refine for_it (walk_tup (K := K) (a := t1) (xs := [.str (Str.ofString "left"), .str (Str.ofString "right")])) (fun j σ H' => ∃ y6 y7 y8 y9, σ = [some (.ref sa), some (.ref d), some (.int ((i : Nat) : Int)), some (.int nn), some (.ref p), some (.ref x), y6, y7, y8, y9] ∧ Same H9 H') ⟨_, _, _, _, rfl, Same.refl _⟩ (fun j σ H' _ hP => ?_) (fun j z σ H10 H10' hj hP hy => ?_) (fun σ H' hP => ?_)
        · obtain ⟨y6, y7, y8, y9, rfl, s10⟩ := hP
          exact (Tx.of s10).seq ht1
        · obtain ⟨y6, y7, y8, y9, rfl, s10⟩ := hP
          obtain ⟨rfl, hz⟩ := hy
          obtain ⟨b, rfl⟩ : ∃ b, z = .str (sideS b) := by
            match j, hz with
            | 0, hz => cases hz; exact ⟨true, rfl⟩
            | 1, hz => cases hz; exact ⟨false, rfl⟩
            | k + 2, hz => simp at hz
          walk_at "go"
          refine ⟨_, rfl, by omega, by omega, ?_⟩
          refine for_it walk_rng0 (fun m σ H' => ∃ y7 y8 y9, σ = [some (.ref sa), some (.ref d), some (.int ((i : Nat) : Int)), some (.int nn), some (.ref p), some (.ref x), some (.str (sideS b)), y7, y8, y9] ∧ Same H9 H') ⟨_, _, _, rfl, s10⟩ (fun _ _ _ _ _ => trivial) (fun m z σ H11 H11' hm hP hy => ?_) (fun σ H' hP => ?_)
          · obtain ⟨y7, y8, y9, rfl, s11⟩ := hP
            obtain ⟨rfl, rfl⟩ := hy
            have hmn : (m : Int) ≤ nn := by omega
            walk_at "go"
            refine ⟨b, nn, .ref p, rs, (m : Int), rfl, Dp.same (s9.trans s11) _ _ hrv8, hgood, hrl, hn1, hn4, by omega, hmn, fun H12 D s12 hD12 => ?_⟩
            have s912 := s9.trans (s11.trans s12)
            walk_at "go"
            refine ⟨_, rfl, by omega, by omega, fun E nE => ?_⟩
            refine lc_same (H0 := H12) walk_rng0 (fun k => ((cutsL nn (leastR b (m : Int) rs)).take k).map V.int) rfl (fun k _ => ?_) (Same.refl _) nE nE (fun _ _ => trivial) (fun k z H13 H13' C Cn hk s hy hC hN => ?_) (fun H13 s13 hE => ?_)
            · rw [List.length_map, List.length_take, cutsL_len]
              exact small1000 (by omega)
            · obtain ⟨rfl, rfl⟩ := hy
              refine ⟨rfl, ?_⟩
              walk_at "go"
              refine ⟨.ref x, nn, rs, b, (m : Int), (k : Int), rfl, hlog.tx (Tx.of (s912.trans s)), hA, by omega, hmn, by omega, by omega, fun H14 s14 => ?_⟩
              refine hC _ _ s14 ?_
              rw [take_snoc (cutsL_at (by omega)), List.map_append]
              rfl
            · rw [List.take_of_length_le (by rw [cutsL_len]; omega)] at hE
              walk_at "go"
              refine ⟨_, _, lstI (cutsL nn (leastR b (m : Int) rs)), rfl, dp_lstI (SqL.at hE), dp_lstI (SqL.at (s13 _ _ hD12)), ?_, ?_, fun H14 s14 => ?_⟩
              · show depAll ((cutsL nn (leastR b (m : Int) rs)).map PyData.int) + 1 ≤ 1
                rw [dep_ints]
                omega
              · show (decide (((cutsL nn (leastR b (m : Int) rs)).map PyData.int).length ≤ 1000000) && smAll ((cutsL nn (leastR b (m : Int) rs)).map PyData.int)) = true
                rw [sm_ints, List.length_map, cutsL_len, decide_eq_true (by omega)]
                rfl
              · walk_at "go"
                exact ⟨_, _, _, rfl, s11.trans (s12.trans (s13.trans s14))⟩
          · obtain ⟨y7, y8, y9, rfl, s11⟩ := hP
            exact ⟨_, _, _, _, rfl, s11⟩
        · obtain ⟨y6, y7, y8, y9, rfl, s10⟩ := hP
          exact ⟨_, _, _, _, _, _, _, _, rfl, hD8.fr (s9.trans s10)⟩
      · intro N hN
        walk_at "go"
        refine g_ite (fun e0 => ?_) (fun e0 => ?_)
        all_goals
          walk_at "go"
          refine ⟨d, c, _, rfl, hD5, by decide, by decide, fun H6 m f6 hD6 m0 m1 => ?_⟩
          walk_at "go"
          refine ⟨d, c, nn, m, 3, rfl, hD6, hn1, by omega, m0, by omega, fun H7 v rs f7 hD7 hv hgood hl _ => ?_⟩
          walk_at "go"
          exact hN _ _ ⟨v, rs, rfl, hD7, hv, hgood, by omega⟩
    · obtain ⟨y2, y3, y4, y5, y6, y7, y8, y9, rfl, hD4⟩ := hP
      walk_at "go"
      exact q _

end

set_option maxHeartbeats 0 in
theorem all_mk {l : PySem.W.OpenLaw} {w : World} {K : PySem.W.Frag} {h : Heap} {mg : Str → Option Value} {fa : Addr} (X : K.In h) (G : h.Ns mainGlobals mg) (hfa : mg "law" = some (.ref fa))
    {f0 : Addr} {od0 an0 : Option Addr} {sl0 : Array (Option Value)} {oc0 kV0 dc0 pm0 cd0 ct0 : Value}
    (a0 : PySem.W.nsIn K mainGlobals "is_integer" = some (some (.ref f0))) (l0 : K.lookup f0 = some ⟨oc0, od0, .func (PySem.W.fnOf "is_integer" "is_integer" (defArgs s_is_integer) (defBody s_is_integer) (defScope s_is_integer) .none kV0 dc0 pm0 an0 cd0 ct0), sl0⟩) (c0 : PySem.W.codeIn K cd0 "is_integer" = true) (k0 : PySem.W.keepIn K (.ref f0) = true)
    {f1 : Addr} {od1 an1 : Option Addr} {sl1 : Array (Option Value)} {oc1 kV1 dc1 pm1 cd1 ct1 : Value}
    (a1 : PySem.W.nsIn K mainGlobals "is_between" = some (some (.ref f1))) (l1 : K.lookup f1 = some ⟨oc1, od1, .func (PySem.W.fnOf "is_between" "is_between" (defArgs s_is_between) (defBody s_is_between) (defScope s_is_between) .none kV1 dc1 pm1 an1 cd1 ct1), sl1⟩) (c1 : PySem.W.codeIn K cd1 "is_between" = true) (k1 : PySem.W.keepIn K (.ref f1) = true)
    {f2 : Addr} {od2 an2 : Option Addr} {sl2 : Array (Option Value)} {oc2 kV2 dc2 pm2 cd2 ct2 : Value}
    (a2 : PySem.W.nsIn K mainGlobals "is_number" = some (some (.ref f2))) (l2 : K.lookup f2 = some ⟨oc2, od2, .func (PySem.W.fnOf "is_number" "is_number" (defArgs s_is_number) (defBody s_is_number) (defScope s_is_number) .none kV2 dc2 pm2 an2 cd2 ct2), sl2⟩) (c2 : PySem.W.codeIn K cd2 "is_number" = true) (k2 : PySem.W.keepIn K (.ref f2) = true)
    {f3 : Addr} {od3 an3 : Option Addr} {sl3 : Array (Option Value)} {oc3 kV3 dc3 pm3 cd3 ct3 : Value}
    (a3 : PySem.W.nsIn K mainGlobals "is_word" = some (some (.ref f3))) (l3 : K.lookup f3 = some ⟨oc3, od3, .func (PySem.W.fnOf "is_word" "is_word" (defArgs s_is_word) (defBody s_is_word) (defScope s_is_word) .none kV3 dc3 pm3 an3 cd3 ct3), sl3⟩) (c3 : PySem.W.codeIn K cd3 "is_word" = true) (k3 : PySem.W.keepIn K (.ref f3) = true)
    {f4 : Addr} {od4 an4 : Option Addr} {sl4 : Array (Option Value)} {oc4 kV4 dc4 pm4 cd4 ct4 : Value}
    (a4 : PySem.W.nsIn K mainGlobals "is_tuple_of" = some (some (.ref f4))) (l4 : K.lookup f4 = some ⟨oc4, od4, .func (PySem.W.fnOf "is_tuple_of" "is_tuple_of" (defArgs s_is_tuple_of) (defBody s_is_tuple_of) (defScope s_is_tuple_of) .none kV4 dc4 pm4 an4 cd4 ct4), sl4⟩) (c4 : PySem.W.codeIn K cd4 "is_tuple_of" = true) (k4 : PySem.W.keepIn K (.ref f4) = true)
    {f5 : Addr} {od5 an5 : Option Addr} {sl5 : Array (Option Value)} {oc5 kV5 dc5 pm5 cd5 ct5 : Value}
    (a5 : PySem.W.nsIn K mainGlobals "is_side" = some (some (.ref f5))) (l5 : K.lookup f5 = some ⟨oc5, od5, .func (PySem.W.fnOf "is_side" "is_side" (defArgs s_is_side) (defBody s_is_side) (defScope s_is_side) .none kV5 dc5 pm5 an5 cd5 ct5), sl5⟩) (c5 : PySem.W.codeIn K cd5 "is_side" = true) (k5 : PySem.W.keepIn K (.ref f5) = true)
    {f6 : Addr} {od6 an6 : Option Addr} {sl6 : Array (Option Value)} {oc6 kV6 dc6 pm6 cd6 ct6 : Value}
    (a6 : PySem.W.nsIn K mainGlobals "is_copying" = some (some (.ref f6))) (l6 : K.lookup f6 = some ⟨oc6, od6, .func (PySem.W.fnOf "is_copying" "is_copying" (defArgs s_is_copying) (defBody s_is_copying) (defScope s_is_copying) .none kV6 dc6 pm6 an6 cd6 ct6), sl6⟩) (c6 : PySem.W.codeIn K cd6 "is_copying" = true) (k6 : PySem.W.keepIn K (.ref f6) = true)
    {f7 : Addr} {od7 an7 : Option Addr} {sl7 : Array (Option Value)} {oc7 kV7 dc7 pm7 cd7 ct7 : Value}
    (a7 : PySem.W.nsIn K mainGlobals "is_row" = some (some (.ref f7))) (l7 : K.lookup f7 = some ⟨oc7, od7, .func (PySem.W.fnOf "is_row" "is_row" (defArgs s_is_row) (defBody s_is_row) (defScope s_is_row) .none kV7 dc7 pm7 an7 cd7 ct7), sl7⟩) (c7 : PySem.W.codeIn K cd7 "is_row" = true) (k7 : PySem.W.keepIn K (.ref f7) = true)
    {f8 : Addr} {od8 an8 : Option Addr} {sl8 : Array (Option Value)} {oc8 kV8 dc8 pm8 cd8 ct8 : Value}
    (a8 : PySem.W.nsIn K mainGlobals "wrong_part" = some (some (.ref f8))) (l8 : K.lookup f8 = some ⟨oc8, od8, .func (PySem.W.fnOf "wrong_part" "wrong_part" (defArgs s_wrong_part) (defBody s_wrong_part) (defScope s_wrong_part) .none kV8 dc8 pm8 an8 cd8 ct8), sl8⟩) (c8 : PySem.W.codeIn K cd8 "wrong_part" = true) (k8 : PySem.W.keepIn K (.ref f8) = true)
    {f9 : Addr} {od9 an9 : Option Addr} {sl9 : Array (Option Value)} {oc9 kV9 dc9 pm9 cd9 ct9 : Value}
    (a9 : PySem.W.nsIn K mainGlobals "is_left" = some (some (.ref f9))) (l9 : K.lookup f9 = some ⟨oc9, od9, .func (PySem.W.fnOf "is_left" "is_left" (defArgs s_is_left) (defBody s_is_left) (defScope s_is_left) .none kV9 dc9 pm9 an9 cd9 ct9), sl9⟩) (c9 : PySem.W.codeIn K cd9 "is_left" = true) (k9 : PySem.W.keepIn K (.ref f9) = true)
    {f10 : Addr} {od10 an10 : Option Addr} {sl10 : Array (Option Value)} {oc10 kV10 dc10 pm10 cd10 ct10 : Value}
    (a10 : PySem.W.nsIn K mainGlobals "cut_between" = some (some (.ref f10))) (l10 : K.lookup f10 = some ⟨oc10, od10, .func (PySem.W.fnOf "cut_between" "cut_between" (defArgs s_cut_between) (defBody s_cut_between) (defScope s_cut_between) .none kV10 dc10 pm10 an10 cd10 ct10), sl10⟩) (c10 : PySem.W.codeIn K cd10 "cut_between" = true) (k10 : PySem.W.keepIn K (.ref f10) = true)
    {f11 : Addr} {od11 an11 : Option Addr} {sl11 : Array (Option Value)} {oc11 kV11 dc11 pm11 cd11 ct11 : Value}
    {C_Log : Addr}
    (a11 : PySem.W.findIn K (.ref C_Log) "__init__" = some (some (.ref f11))) (i11 : PySem.W.isFn K (.ref f11) = true) (l11 : K.lookup f11 = some ⟨oc11, od11, .func (PySem.W.fnOf "__init__" "Log.__init__" (defArgs s_Log_init) (defBody s_Log_init) (defScope s_Log_init) .none kV11 dc11 pm11 an11 cd11 ct11), sl11⟩) (c11 : PySem.W.codeIn K cd11 "Log.__init__" = true) (k11 : PySem.W.keepIn K (.ref f11) = true)
    {f12 : Addr} {od12 an12 : Option Addr} {sl12 : Array (Option Value)} {oc12 kV12 dc12 pm12 cd12 ct12 : Value}
    (a12 : PySem.W.nsIn K mainGlobals "check_side" = some (some (.ref f12))) (l12 : K.lookup f12 = some ⟨oc12, od12, .func (PySem.W.fnOf "check_side" "check_side" (defArgs s_check_side) (defBody s_check_side) (defScope s_check_side) .none kV12 dc12 pm12 an12 cd12 ct12), sl12⟩) (c12 : PySem.W.codeIn K cd12 "check_side" = true) (k12 : PySem.W.keepIn K (.ref f12) = true)
    {f13 : Addr} {od13 an13 : Option Addr} {sl13 : Array (Option Value)} {oc13 kV13 dc13 pm13 cd13 ct13 : Value}
    (a13 : PySem.W.nsIn K mainGlobals "check_cut" = some (some (.ref f13))) (l13 : K.lookup f13 = some ⟨oc13, od13, .func (PySem.W.fnOf "check_cut" "check_cut" (defArgs s_check_cut) (defBody s_check_cut) (defScope s_check_cut) .none kV13 dc13 pm13 an13 cd13 ct13), sl13⟩) (c13 : PySem.W.codeIn K cd13 "check_cut" = true) (k13 : PySem.W.keepIn K (.ref f13) = true)
    {f14 : Addr} {od14 an14 : Option Addr} {sl14 : Array (Option Value)} {oc14 kV14 dc14 pm14 cd14 ct14 : Value}
    (a14 : PySem.W.nsIn K mainGlobals "barred_cut" = some (some (.ref f14))) (l14 : K.lookup f14 = some ⟨oc14, od14, .func (PySem.W.fnOf "barred_cut" "barred_cut" (defArgs s_barred_cut) (defBody s_barred_cut) (defScope s_barred_cut) .none kV14 dc14 pm14 an14 cd14 ct14), sl14⟩) (c14 : PySem.W.codeIn K cd14 "barred_cut" = true) (k14 : PySem.W.keepIn K (.ref f14) = true)
    {f15 : Addr} {od15 an15 : Option Addr} {sl15 : Array (Option Value)} {oc15 kV15 dc15 pm15 cd15 ct15 : Value}
    (a15 : PySem.W.nsIn K mainGlobals "walk_price" = some (some (.ref f15))) (l15 : K.lookup f15 = some ⟨oc15, od15, .func (PySem.W.fnOf "walk_price" "walk_price" (defArgs s_walk_price) (defBody s_walk_price) (defScope s_walk_price) .none kV15 dc15 pm15 an15 cd15 ct15), sl15⟩) (c15 : PySem.W.codeIn K cd15 "walk_price" = true) (k15 : PySem.W.keepIn K (.ref f15) = true)
    {f16 : Addr} {od16 an16 : Option Addr} {sl16 : Array (Option Value)} {oc16 kV16 dc16 pm16 cd16 ct16 : Value}
    (a16 : PySem.W.nsIn K mainGlobals "cheapest_walks" = some (some (.ref f16))) (l16 : K.lookup f16 = some ⟨oc16, od16, .func (PySem.W.fnOf "cheapest_walks" "cheapest_walks" (defArgs s_cheapest_walks) (defBody s_cheapest_walks) (defScope s_cheapest_walks) .none kV16 dc16 pm16 an16 cd16 ct16), sl16⟩) (c16 : PySem.W.codeIn K cd16 "cheapest_walks" = true) (k16 : PySem.W.keepIn K (.ref f16) = true)
    {f17 : Addr} {od17 an17 : Option Addr} {sl17 : Array (Option Value)} {oc17 kV17 dc17 pm17 cd17 ct17 : Value}
    (a17 : PySem.W.nsIn K mainGlobals "check_ends" = some (some (.ref f17))) (l17 : K.lookup f17 = some ⟨oc17, od17, .func (PySem.W.fnOf "check_ends" "check_ends" (defArgs s_check_ends) (defBody s_check_ends) (defScope s_check_ends) .none kV17 dc17 pm17 an17 cd17 ct17), sl17⟩) (c17 : PySem.W.codeIn K cd17 "check_ends" = true) (k17 : PySem.W.keepIn K (.ref f17) = true)
    {f18 : Addr} {od18 an18 : Option Addr} {sl18 : Array (Option Value)} {oc18 kV18 dc18 pm18 cd18 ct18 : Value}
    (a18 : PySem.W.nsIn K mainGlobals "price" = some (some (.ref f18))) (l18 : K.lookup f18 = some ⟨oc18, od18, .func (PySem.W.fnOf "price" "price" (defArgs s_price) (defBody s_price) (defScope s_price) .none kV18 dc18 pm18 an18 cd18 ct18), sl18⟩) (c18 : PySem.W.codeIn K cd18 "price" = true) (k18 : PySem.W.keepIn K (.ref f18) = true)
    {f19 : Addr} {od19 an19 : Option Addr} {sl19 : Array (Option Value)} {oc19 kV19 dc19 pm19 cd19 ct19 : Value}
    (a19 : PySem.W.nsIn K mainGlobals "_law_hand" = some (some (.ref f19))) (l19 : K.lookup f19 = some ⟨oc19, od19, .func (PySem.W.fnOf "_law_hand" "_law_hand" (defArgs s_law_hand) (defBody s_law_hand) (defScope s_law_hand) .none kV19 dc19 pm19 an19 cd19 ct19), sl19⟩) (c19 : PySem.W.codeIn K cd19 "_law_hand" = true) (k19 : PySem.W.keepIn K (.ref f19) = true)
    {f20 : Addr} {od20 an20 : Option Addr} {sl20 : Array (Option Value)} {oc20 kV20 dc20 pm20 cd20 ct20 : Value}
    (a20 : PySem.W.nsIn K mainGlobals "_law_draw" = some (some (.ref f20))) (l20 : K.lookup f20 = some ⟨oc20, od20, .func (PySem.W.fnOf "_law_draw" "_law_draw" (defArgs s_law_draw) (defBody s_law_draw) (defScope s_law_draw) .none kV20 dc20 pm20 an20 cd20 ct20), sl20⟩) (c20 : PySem.W.codeIn K cd20 "_law_draw" = true) (k20 : PySem.W.keepIn K (.ref f20) = true)
    {f21 : Addr} {od21 an21 : Option Addr} {sl21 : Array (Option Value)} {oc21 kV21 dc21 pm21 cd21 ct21 : Value}
    (a21 : PySem.W.nsIn K mainGlobals "_law_is" = some (some (.ref f21))) (l21 : K.lookup f21 = some ⟨oc21, od21, .func (PySem.W.fnOf "_law_is" "_law_is" (defArgs s_law_is) (defBody s_law_is) (defScope s_law_is) .none kV21 dc21 pm21 an21 cd21 ct21), sl21⟩) (c21 : PySem.W.codeIn K cd21 "_law_is" = true) (k21 : PySem.W.keepIn K (.ref f21) = true)
    {f22 : Addr} {od22 an22 : Option Addr} {sl22 : Array (Option Value)} {oc22 kV22 dc22 pm22 cd22 ct22 : Value}
    (a22 : PySem.W.nsIn K mainGlobals "_law_row" = some (some (.ref f22))) (l22 : K.lookup f22 = some ⟨oc22, od22, .func (PySem.W.fnOf "_law_row" "_law_row" (defArgs s_law_row) (defBody s_law_row) (defScope s_law_row) .none kV22 dc22 pm22 an22 cd22 ct22), sl22⟩) (c22 : PySem.W.codeIn K cd22 "_law_row" = true) (k22 : PySem.W.keepIn K (.ref f22) = true)
    {f23 : Addr} {od23 an23 : Option Addr} {sl23 : Array (Option Value)} {oc23 kV23 dc23 pm23 cd23 ct23 : Value}
    (a23 : PySem.W.nsIn K mainGlobals "_law_rows" = some (some (.ref f23))) (l23 : K.lookup f23 = some ⟨oc23, od23, .func (PySem.W.fnOf "_law_rows" "_law_rows" (defArgs s_law_rows) (defBody s_law_rows) (defScope s_law_rows) .none kV23 dc23 pm23 an23 cd23 ct23), sl23⟩) (c23 : PySem.W.codeIn K cd23 "_law_rows" = true) (k23 : PySem.W.keepIn K (.ref f23) = true)
    {f24 : Addr} {od24 an24 : Option Addr} {sl24 : Array (Option Value)} {oc24 kV24 dc24 pm24 cd24 ct24 : Value}
    (a24 : PySem.W.nsIn K mainGlobals "_law_bars" = some (some (.ref f24))) (l24 : K.lookup f24 = some ⟨oc24, od24, .func (PySem.W.fnOf "_law_bars" "_law_bars" (defArgs s_law_bars) (defBody s_law_bars) (defScope s_law_bars) .none kV24 dc24 pm24 an24 cd24 ct24), sl24⟩) (c24 : PySem.W.codeIn K cd24 "_law_bars" = true) (k24 : PySem.W.keepIn K (.ref f24) = true)
    {f25 : Addr} {od25 an25 : Option Addr} {sl25 : Array (Option Value)} {oc25 kV25 dc25 pm25 cd25 ct25 : Value}
    (a25 : PySem.W.nsIn K mainGlobals "_law_step" = some (some (.ref f25))) (l25 : K.lookup f25 = some ⟨oc25, od25, .func (PySem.W.fnOf "_law_step" "_law_step" (defArgs s_law_step) (defBody s_law_step) (defScope s_law_step) .none kV25 dc25 pm25 an25 cd25 ct25), sl25⟩) (c25 : PySem.W.codeIn K cd25 "_law_step" = true) (k25 : PySem.W.keepIn K (.ref f25) = true)
    {f26 : Addr} {od26 an26 : Option Addr} {sl26 : Array (Option Value)} {oc26 kV26 dc26 pm26 cd26 ct26 : Value}
    (a26 : PySem.W.nsIn K mainGlobals "_law_cost" = some (some (.ref f26))) (l26 : K.lookup f26 = some ⟨oc26, od26, .func (PySem.W.fnOf "_law_cost" "_law_cost" (defArgs s_law_cost) (defBody s_law_cost) (defScope s_law_cost) .none kV26 dc26 pm26 an26 cd26 ct26), sl26⟩) (c26 : PySem.W.codeIn K cd26 "_law_cost" = true) (k26 : PySem.W.keepIn K (.ref f26) = true)
    {f27 : Addr} {od27 an27 : Option Addr} {sl27 : Array (Option Value)} {oc27 kV27 dc27 pm27 cd27 ct27 : Value}
    (a27 : PySem.W.nsIn K mainGlobals "_law_all_stands" = some (some (.ref f27))) (l27 : K.lookup f27 = some ⟨oc27, od27, .func (PySem.W.fnOf "_law_all_stands" "_law_all_stands" (defArgs s_law_all_stands) (defBody s_law_all_stands) (defScope s_law_all_stands) .none kV27 dc27 pm27 an27 cd27 ct27), sl27⟩) (c27 : PySem.W.codeIn K cd27 "_law_all_stands" = true) (k27 : PySem.W.keepIn K (.ref f27) = true)
    {f28 : Addr} {od28 an28 : Option Addr} {sl28 : Array (Option Value)} {oc28 kV28 dc28 pm28 cd28 ct28 : Value}
    (a28 : PySem.W.nsIn K mainGlobals "_law_least" = some (some (.ref f28))) (l28 : K.lookup f28 = some ⟨oc28, od28, .func (PySem.W.fnOf "_law_least" "_law_least" (defArgs s_law_least) (defBody s_law_least) (defScope s_law_least) .none kV28 dc28 pm28 an28 cd28 ct28), sl28⟩) (c28 : PySem.W.codeIn K cd28 "_law_least" = true) (k28 : PySem.W.keepIn K (.ref f28) = true)
    {f29 : Addr} {od29 an29 : Option Addr} {sl29 : Array (Option Value)} {oc29 kV29 dc29 pm29 cd29 ct29 : Value}
    (a29 : PySem.W.nsIn K mainGlobals "law" = some (some (.ref f29))) (l29 : K.lookup f29 = some ⟨oc29, od29, .func (PySem.W.fnOf "law" "law" (defArgs s_law) (defBody s_law) (defScope s_law) .none kV29 dc29 pm29 an29 cd29 ct29), sl29⟩) (c29 : PySem.W.codeIn K cd29 "law" = true) (k29 : PySem.W.keepIn K (.ref f29) = true)
    (gc_Log : PySem.W.nsIn K mainGlobals "Log" = some (some (.ref C_Log)))
    (pg_Log : PySem.W.plainGet K C_Log Str.empty = true) (hd_Log : PySem.W.hasDictIn K C_Log = true) (po_Log : PySem.W.plainOver K C_Log = true) (sa_Log : PySem.W.findIn K (.ref C_Log) "__setattr__" = some (some (.builtin "object.__setattr__"))) (mk_Log : PySem.W.makesIn K C_Log = true) (kc_Log : PySem.W.keepIn K (.ref C_Log) = true)
    (na_Log_offices : PySem.W.findIn K (.ref C_Log) "offices" = some none)
    (na_Log_rows : PySem.W.findIn K (.ref C_Log) "rows" = some none)
    {t_MOST_OFFICES : Tok} (v_MOST_OFFICES : PySem.W.nsIn K mainGlobals "MOST_OFFICES" = some (some (.int 12 t_MOST_OFFICES)))
    {t_MOST_ROWS : Tok} (v_MOST_ROWS : PySem.W.nsIn K mainGlobals "MOST_ROWS" = some (some (.int 60 t_MOST_ROWS)))
    (z0 : PySem.W.nsIn K mainGlobals "isinstance" = some none)
    (z1 : PySem.W.nsIn K mainGlobals "int" = some none)
    (z2 : PySem.W.nsIn K mainGlobals "bool" = some none)
    (z3 : PySem.W.nsIn K mainGlobals "tuple" = some none)
    (z4 : PySem.W.nsIn K mainGlobals "list" = some none)
    (z5 : PySem.W.nsIn K mainGlobals "len" = some none)
    (z6 : PySem.W.nsIn K mainGlobals "abs" = some none)
    (z7 : PySem.W.nsIn K mainGlobals "all" = some none)
    (z8 : PySem.W.nsIn K mainGlobals "zip" = some none)
    (z9 : PySem.W.nsIn K mainGlobals "range" = some none)
    (z10 : PySem.W.nsIn K mainGlobals "enumerate" = some none)
    (z11 : PySem.W.nsIn K mainGlobals "max" = some none)
    (z12 : PySem.W.nsIn K mainGlobals "min" = some none)
    (z13 : PySem.W.nsIn K mainGlobals "str" = some none)
    : ∃ fd : FuncData, (∀ (s : Shared) (v : Value), BindsTo s fd ⟨[v], []⟩ [("_law_script", v)]) ∧ ∀ base : Heap, K.In base → base.Ns mainGlobals mg → FnOk l.prog w K mg base CX0 lawLevel fa fd ["_law_script"] (sp_law K) := by
  have e := hfa.symm.trans (PySem.W.mg_of X G a29)
  cases e
  have F0 := fun_mk (st := s_is_integer) l0 c0 k0
  have b0 := F0.binds (ps := ["thing"]) fun _ _ _ _ _ _ us hl => match us, hl with | [_], _ => rfl
  have F1 := fun_mk (st := s_is_between) l1 c1 k1
  have b1 := F1.binds (ps := ["thing", "least", "most"]) fun _ _ _ _ _ _ us hl => match us, hl with | [_, _, _], _ => rfl
  have F2 := fun_mk (st := s_is_number) l2 c2 k2
  have b2 := F2.binds (ps := ["thing", "many"]) fun _ _ _ _ _ _ us hl => match us, hl with | [_, _], _ => rfl
  have F3 := fun_mk (st := s_is_word) l3 c3 k3
  have b3 := F3.binds (ps := ["thing", "word"]) fun _ _ _ _ _ _ us hl => match us, hl with | [_, _], _ => rfl
  have F4 := fun_mk (st := s_is_tuple_of) l4 c4 k4
  have b4 := F4.binds (ps := ["thing", "many"]) fun _ _ _ _ _ _ us hl => match us, hl with | [_, _], _ => rfl
  have F5 := fun_mk (st := s_is_side) l5 c5 k5
  have b5 := F5.binds (ps := ["thing"]) fun _ _ _ _ _ _ us hl => match us, hl with | [_], _ => rfl
  have F6 := fun_mk (st := s_is_copying) l6 c6 k6
  have b6 := F6.binds (ps := ["offices", "thing"]) fun _ _ _ _ _ _ us hl => match us, hl with | [_, _], _ => rfl
  have F7 := fun_mk (st := s_is_row) l7 c7 k7
  have b7 := F7.binds (ps := ["offices", "thing"]) fun _ _ _ _ _ _ us hl => match us, hl with | [_, _], _ => rfl
  have F8 := fun_mk (st := s_wrong_part) l8 c8 k8
  have b8 := F8.binds (ps := ["offices", "rows", "is_right"]) fun _ _ _ _ _ _ us hl => match us, hl with | [_, _, _], _ => rfl
  have F9 := fun_mk (st := s_is_left) l9 c9 k9
  have b9 := F9.binds (ps := ["row"]) fun _ _ _ _ _ _ us hl => match us, hl with | [_], _ => rfl
  have F10 := fun_mk (st := s_cut_between) l10 c10 k10
  have b10 := F10.binds (ps := ["row"]) fun _ _ _ _ _ _ us hl => match us, hl with | [_], _ => rfl
  have F11 := fun_mk (st := s_Log_init) l11 c11 k11
  have b11 := F11.binds (ps := ["self", "offices", "rows"]) fun _ _ _ _ _ _ us hl => match us, hl with | [_, _, _], _ => rfl
  have F12 := fun_mk (st := s_check_side) l12 c12 k12
  have b12 := F12.binds (ps := ["side"]) fun _ _ _ _ _ _ us hl => match us, hl with | [_], _ => rfl
  have F13 := fun_mk (st := s_check_cut) l13 c13 k13
  have b13 := F13.binds (ps := ["offices", "cut"]) fun _ _ _ _ _ _ us hl => match us, hl with | [_, _], _ => rfl
  have F14 := fun_mk (st := s_barred_cut) l14 c14 k14
  have b14 := F14.binds (ps := ["side", "row"]) fun _ _ _ _ _ _ us hl => match us, hl with | [_, _], _ => rfl
  have F15 := fun_mk (st := s_walk_price) l15 c15 k15
  have b15 := F15.binds (ps := ["side", "start", "end"]) fun _ _ _ _ _ _ us hl => match us, hl with | [_, _, _], _ => rfl
  have F16 := fun_mk (st := s_cheapest_walks) l16 c16 k16
  have b16 := F16.binds (ps := ["log", "side", "first"]) fun _ _ _ _ _ _ us hl => match us, hl with | [_, _, _], _ => rfl
  have F17 := fun_mk (st := s_check_ends) l17 c17 k17
  have b17 := F17.binds (ps := ["log", "side", "first", "last"]) fun _ _ _ _ _ _ us hl => match us, hl with | [_, _, _, _], _ => rfl
  have F18 := fun_mk (st := s_price) l18 c18 k18
  have b18 := F18.binds (ps := ["log", "side", "first", "last"]) fun _ _ _ _ _ _ us hl => match us, hl with | [_, _, _, _], _ => rfl
  have F19 := fun_mk (st := s_law_hand) l19 c19 k19
  have b19 := F19.binds (ps := ["_law_script"]) fun _ _ _ _ _ _ us hl => match us, hl with | [_], _ => rfl
  have F20 := fun_mk (st := s_law_draw) l20 c20 k20
  have b20 := F20.binds (ps := ["_law_hand_here", "_law_many"]) fun _ _ _ _ _ _ us hl => match us, hl with | [_, _], _ => rfl
  have F21 := fun_mk (st := s_law_is) l21 c21 k21
  have b21 := F21.binds (ps := ["_law_told", "_law_due"]) fun _ _ _ _ _ _ us hl => match us, hl with | [_, _], _ => rfl
  have F22 := fun_mk (st := s_law_row) l22 c22 k22
  have b22 := F22.binds (ps := ["_law_hand_here", "_law_offices", "_law_share"]) fun _ _ _ _ _ _ us hl => match us, hl with | [_, _, _], _ => rfl
  have F23 := fun_mk (st := s_law_rows) l23 c23 k23
  have b23 := F23.binds (ps := ["_law_hand_here", "_law_offices", "_law_many", "_law_share"]) fun _ _ _ _ _ _ us hl => match us, hl with | [_, _, _, _], _ => rfl
  have F24 := fun_mk (st := s_law_bars) l24 c24 k24
  have b24 := F24.binds (ps := ["_law_side", "_law_row_here"]) fun _ _ _ _ _ _ us hl => match us, hl with | [_, _], _ => rfl
  have F25 := fun_mk (st := s_law_step) l25 c25 k25
  have b25 := F25.binds (ps := ["_law_side", "_law_one", "_law_other"]) fun _ _ _ _ _ _ us hl => match us, hl with | [_, _, _], _ => rfl
  have F26 := fun_mk (st := s_law_cost) l26 c26 k26
  have b26 := F26.binds (ps := ["_law_side", "_law_thing"]) fun _ _ _ _ _ _ us hl => match us, hl with | [_, _], _ => rfl
  have F27 := fun_mk (st := s_law_all_stands) l27 c27 k27
  have b27 := F27.binds (ps := ["_law_offices", "_law_rows_here", "_law_side"]) fun _ _ _ _ _ _ us hl => match us, hl with | [_, _, _], _ => rfl
  have F28 := fun_mk (st := s_law_least) l28 c28 k28
  have b28 := F28.binds (ps := ["_law_offices", "_law_rows_here", "_law_side", "_law_first"]) fun _ _ _ _ _ _ us hl => match us, hl with | [_, _, _, _], _ => rfl
  have F29 := fun_mk (st := s_law) l29 c29 k29
  have b29 := F29.binds (ps := ["_law_script"]) fun _ _ _ _ _ _ us hl => match us, hl with | [_], _ => rfl
  have T : Txt K mg ⟨f0, _, f1, _, f2, _, f3, _, f4, _, f5, _, f6, _, f7, _, f8, _, f9, _, f10, _, f11, _, f12, _, f13, _, f14, _, f15, _, f16, _, f17, _, f18, _, f19, _, f20, _, f21, _, f22, _, f23, _, f24, _, f25, _, f26, _, f27, _, f28, _, _, _, C_Log⟩ := ⟨F0, PySem.W.mg_of X G a0, b0, F1, PySem.W.mg_of X G a1, b1, F2, PySem.W.mg_of X G a2, b2, F3, PySem.W.mg_of X G a3, b3, F4, PySem.W.mg_of X G a4, b4, F5, PySem.W.mg_of X G a5, b5, F6, PySem.W.mg_of X G a6, b6, F7, PySem.W.mg_of X G a7, b7, F8, PySem.W.mg_of X G a8, b8, F9, PySem.W.mg_of X G a9, b9, F10, PySem.W.mg_of X G a10, b10, F11, b11, F12, PySem.W.mg_of X G a12, b12, F13, PySem.W.mg_of X G a13, b13, F14, PySem.W.mg_of X G a14, b14, F15, PySem.W.mg_of X G a15, b15, F16, PySem.W.mg_of X G a16, b16, F17, PySem.W.mg_of X G a17, b17, F18, PySem.W.mg_of X G a18, b18, F19, PySem.W.mg_of X G a19, b19, F20, PySem.W.mg_of X G a20, b20, F21, PySem.W.mg_of X G a21, b21, F22, PySem.W.mg_of X G a22, b22, F23, PySem.W.mg_of X G a23, b23, F24, PySem.W.mg_of X G a24, b24, F25, PySem.W.mg_of X G a25, b25, F26, PySem.W.mg_of X G a26, b26, F27, PySem.W.mg_of X G a27, b27, F28, PySem.W.mg_of X G a28, b28, F29, PySem.W.mg_of X G a29, b29, PySem.W.mg_of X G gc_Log, ⟨pg_Log, hd_Log, po_Log, sa_Log⟩, na_Log_offices, na_Log_rows, ⟨mk_Log, a11, i11, kc_Log⟩, ⟨_, PySem.W.mg_of X G v_MOST_OFFICES⟩, ⟨_, PySem.W.mg_of X G v_MOST_ROWS⟩, PySem.W.mg_none_of X G z0, PySem.W.mg_none_of X G z1, PySem.W.mg_none_of X G z2, PySem.W.mg_none_of X G z3, PySem.W.mg_none_of X G z4, PySem.W.mg_none_of X G z5, PySem.W.mg_none_of X G z6, PySem.W.mg_none_of X G z7, PySem.W.mg_none_of X G z8, PySem.W.mg_none_of X G z9, PySem.W.mg_none_of X G z10, PySem.W.mg_none_of X G z11, PySem.W.mg_none_of X G z12, PySem.W.mg_none_of X G z13⟩
  exact ⟨_, fun s v => .of_eq rfl, fun base _ _ => ok_law T⟩
end Pf
open PySem PySem.W PyProof.Rows
set_option maxHeartbeats 0 in
theorem PySem.Challenge.cw_takenover_k20_whole_prices_by_all_posts_holds : PySem.Challenge.rw_takenover_k20_whole_prices_by_all_posts.Holds := by
  w_on; o_law; k_head; (case hw => w_witness2)
  k_fill
  refine L2.walk_of (l := PySem.Challenge.rw_takenover_k20_whole_prices_by_all_posts) (n := 63) (k := Pf.lawLevel) (x := "_law_script") (CX := fun _ => L2.CX0) (sp := fun w => Pf.sp_law _) rfl (by decide) rfl ⟨rfl, by decide, by decide⟩ (fun w h Y => PySem.W.kIn_of Y) ?F (fun _ _ a ns hl _ hS => ⟨a, ns, rfl, hS, hl, fun _ => rfl⟩) (fun _ _ _ _ _ h => h)
  case F =>
    intro w mg fa h KX G hmg
    refine' Pf.all_mk KX G hmg ?a0 ?l0 ?c0 ?k0 ?a1 ?l1 ?c1 ?k1 ?a2 ?l2 ?c2 ?k2 ?a3 ?l3 ?c3 ?k3 ?a4 ?l4 ?c4 ?k4 ?a5 ?l5 ?c5 ?k5 ?a6 ?l6 ?c6 ?k6 ?a7 ?l7 ?c7 ?k7 ?a8 ?l8 ?c8 ?k8 ?a9 ?l9 ?c9 ?k9 ?a10 ?l10 ?c10 ?k10 ?a11 ?i11 ?l11 ?c11 ?k11 ?a12 ?l12 ?c12 ?k12 ?a13 ?l13 ?c13 ?k13 ?a14 ?l14 ?c14 ?k14 ?a15 ?l15 ?c15 ?k15 ?a16 ?l16 ?c16 ?k16 ?a17 ?l17 ?c17 ?k17 ?a18 ?l18 ?c18 ?k18 ?a19 ?l19 ?c19 ?k19 ?a20 ?l20 ?c20 ?k20 ?a21 ?l21 ?c21 ?k21 ?a22 ?l22 ?c22 ?k22 ?a23 ?l23 ?c23 ?k23 ?a24 ?l24 ?c24 ?k24 ?a25 ?l25 ?c25 ?k25 ?a26 ?l26 ?c26 ?k26 ?a27 ?l27 ?c27 ?k27 ?a28 ?l28 ?c28 ?k28 ?a29 ?l29 ?c29 ?k29 ?gc_Log ?pg_Log ?hd_Log ?po_Log ?sa_Log ?mk_Log ?kc_Log ?na_Log_offices ?na_Log_rows ?v_MOST_OFFICES ?v_MOST_ROWS ?z0 ?z1 ?z2 ?z3 ?z4 ?z5 ?z6 ?z7 ?z8 ?z9 ?z10 ?z11 ?z12 ?z13
    (case gc_Log => k_is); (case a0 => k_is); (case l0 => k_is); (case c0 => k_is); (case k0 => k_is); (case a1 => k_is); (case l1 => k_is); (case c1 => k_is); (case k1 => k_is); (case a2 => k_is); (case l2 => k_is); (case c2 => k_is); (case k2 => k_is); (case a3 => k_is); (case l3 => k_is); (case c3 => k_is); (case k3 => k_is); (case a4 => k_is); (case l4 => k_is); (case c4 => k_is); (case k4 => k_is); (case a5 => k_is); (case l5 => k_is); (case c5 => k_is); (case k5 => k_is); (case a6 => k_is); (case l6 => k_is); (case c6 => k_is); (case k6 => k_is); (case a7 => k_is); (case l7 => k_is); (case c7 => k_is); (case k7 => k_is); (case a8 => k_is); (case l8 => k_is); (case c8 => k_is); (case k8 => k_is); (case a9 => k_is); (case l9 => k_is); (case c9 => k_is); (case k9 => k_is); (case a10 => k_is); (case l10 => k_is); (case c10 => k_is); (case k10 => k_is); (case a11 => k_is); (case i11 => k_is); (case l11 => k_is); (case c11 => k_is); (case k11 => k_is); (case a12 => k_is); (case l12 => k_is); (case c12 => k_is); (case k12 => k_is); (case a13 => k_is); (case l13 => k_is); (case c13 => k_is); (case k13 => k_is); (case a14 => k_is); (case l14 => k_is); (case c14 => k_is); (case k14 => k_is); (case a15 => k_is); (case l15 => k_is); (case c15 => k_is); (case k15 => k_is); (case a16 => k_is); (case l16 => k_is); (case c16 => k_is); (case k16 => k_is); (case a17 => k_is); (case l17 => k_is); (case c17 => k_is); (case k17 => k_is); (case a18 => k_is); (case l18 => k_is); (case c18 => k_is); (case k18 => k_is); (case a19 => k_is); (case l19 => k_is); (case c19 => k_is); (case k19 => k_is); (case a20 => k_is); (case l20 => k_is); (case c20 => k_is); (case k20 => k_is); (case a21 => k_is); (case l21 => k_is); (case c21 => k_is); (case k21 => k_is); (case a22 => k_is); (case l22 => k_is); (case c22 => k_is); (case k22 => k_is); (case a23 => k_is); (case l23 => k_is); (case c23 => k_is); (case k23 => k_is); (case a24 => k_is); (case l24 => k_is); (case c24 => k_is); (case k24 => k_is); (case a25 => k_is); (case l25 => k_is); (case c25 => k_is); (case k25 => k_is); (case a26 => k_is); (case l26 => k_is); (case c26 => k_is); (case k26 => k_is); (case a27 => k_is); (case l27 => k_is); (case c27 => k_is); (case k27 => k_is); (case a28 => k_is); (case l28 => k_is); (case c28 => k_is); (case k28 => k_is); (case a29 => k_is); (case l29 => k_is); (case c29 => k_is); (case k29 => k_is); (case pg_Log => k_is); (case hd_Log => k_is); (case po_Log => k_is); (case sa_Log => k_is); (case mk_Log => k_is); (case kc_Log => k_is); (case na_Log_offices => k_is); (case na_Log_rows => k_is); (case v_MOST_OFFICES => k_is); (case v_MOST_ROWS => k_is); (case z0 => k_is); (case z1 => k_is); (case z2 => k_is); (case z3 => k_is); (case z4 => k_is); (case z5 => k_is); (case z6 => k_is); (case z7 => k_is); (case z8 => k_is); (case z9 => k_is); (case z10 => k_is); (case z11 => k_is); (case z12 => k_is); (case z13 => k_is)
