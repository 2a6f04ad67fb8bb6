import PyProof.Rows.All
import Wide.All
import OpenK.AllK
import Wide.FinOn
import HandS.ForMost
import HandS.EndBits
import HandS.Evl
import HandS.IsInst
import HandS.TupLe
import HandS.Walk
import HandS.Zip
import HandS.Conv
import KE.GoesNew
import KE.GoesMore
import KE.GoesEnum
import HandS.SetFor
import HandS.TupSets
import HandS.OwnEq
import HandS.Deep
import HandS.TryMany
import HandS.ExcOwn
import HandS.WordsExc
import HandS.Star
import HandS.WideBits
import HandS.TupMul
import HandS.TupAny
import PySem.Challenge.RW_nearpapers_k53_digits_of_papers
set_option Elab.async false
set_option linter.all false
set_option maxRecDepth 100000
set_option maxHeartbeats 4000000
/-! readings step by step -/
namespace NP
open PySem PySem.Spec PyProof.Rows L2
section
variable {K : PySem.W.Frag} {σ : L2.St} {H : Hp} {Q : VK} {D : L2.Ends} {v x y : V} {ta tb te : TE} {t u : TT} {i j : Int} {tr : TA}
/-! expressions -/
theorem w_var {n : Nat} (h : σ[n]? = some (some v)) (q : Q v H) : tVar n σ H Q := ⟨v, h, q⟩
theorem w_c (q : Q v H) : tC v σ H Q := q
theorem w_op {r : R2} (q : ta σ H fun x H1 => tb σ H1 fun y H2 => r x y H2 Q) : tOp r ta tb σ H Q := q
theorem w_un {r : V → Hp → VK → Prop} (q : ta σ H fun x H1 => r x H1 Q) : tUn r ta σ H Q := q
theorem w_cb {r : List V → Hp → VK → Prop} (q : tr σ H fun xs H1 => r xs H1 Q) : tCB r tr σ H Q := q
theorem w_nil {Q : List V → Hp → Prop} (q : Q [] H) : tNil σ H Q := q
theorem w_cons {Q : List V → Hp → Prop} (q : ta σ H fun x H1 => tr σ H1 fun xs H2 => Q (x :: xs) H2) : tCons ta tr σ H Q := q
theorem w_call {sp : Sp} {dvs : List V} {E : XK} (q : tr σ H fun vs H1 => sp (vs ++ dvs) H1 Q E) : tCall sp dvs E tr σ H Q := q
def rNewL (xs : List V) (H : Hp) (Q : VK) : Prop := xs.length ≤ sizeLine ∧ ∀ p, H p = none → Q (.ref p) (upd H p (.lst xs))
def rNewT (xs : List V) (H : Hp) (Q : VK) : Prop := xs.length ≤ sizeLine ∧ ∀ p, H p = none → Q (.ref p) (upd H p (.tup xs))
theorem w_tup (q : tr σ H fun xs H1 => rNewT xs H1 Q) : tTup tr σ H Q := q
theorem w_lst (q : tr σ H fun xs H1 => rNewL xs H1 Q) : tLst tr σ H Q := q
theorem w_if (q : t σ H fun c H1 => if c = true then ta σ H1 Q else tb σ H1 Q) : tIf t ta tb σ H Q := q
theorem w_andV (q : ta σ H fun x H1 => ∃ c, x = .bl c ∧ if c = true then tb σ H1 Q else Q (.bl false) H1) : tAndV ta tb σ H Q := q
theorem w_orV (q : ta σ H fun x H1 => ∃ c, x = .bl c ∧ if c = true then Q (.bl true) H1 else tb σ H1 Q) : tOrV ta tb σ H Q := q
theorem w_notV (q : ta σ H fun x H1 => ∃ c, x = .bl c ∧ Q (.bl (!c)) H1) : tNotV ta σ H Q := q
theorem w_bl {c : Bool} {P : Bool → Prop} (h : P c) : ∃ k, V.bl c = .bl k ∧ P k := ⟨c, rfl, h⟩
theorem w_sl {r : V → Option Int → Option Int → Hp → VK → Prop} {tl th : TO} (q : te σ H fun x H1 => tl σ H1 fun l H2 => th σ H2 fun u H3 => r x l u H3 Q) : tSl r te tl th σ H Q := q
theorem w_noPart {Q : Option Int → Hp → Prop} (q : Q none H) : tNoPart σ H Q := q
theorem w_part {Q : Option Int → Hp → Prop} (q : te σ H fun x H1 => ∃ i, x = .int i ∧ Q (some i) H1) : tPart te σ H Q := q
theorem w_int {P : Int → Prop} (h : P i) : ∃ k, V.int i = .int k ∧ P k := ⟨i, rfl, h⟩
/-! operators -/
theorem w_rI0 {g : Int → Int → V} (q : Q (g i j) H) : rI0 g (.int i) (.int j) H Q := ⟨i, j, rfl, rfl, q⟩
theorem w_rI {C : Int → Int → Prop} {g : Int → Int → V} (hc : C i j) (q : Q (g i j) H) : rI C g (.int i) (.int j) H Q := ⟨i, j, rfl, rfl, hc, q⟩
theorem w_rU {g : Int → V} (q : Q (g i) H) : rU g (.int i) H Q := ⟨i, rfl, q⟩
theorem w_rEq (h : scal x y = true) (q : Q (.bl (decide (x = y))) H) : rEq x y H Q := ⟨h, q⟩
theorem w_rNe (h : scal x y = true) (q : Q (.bl (!decide (x = y))) H) : rNe x y H Q := ⟨h, q⟩
theorem w_eqI (q : Q (.bl (decide (i = j))) H) : rEq (.int i) (.int j) H Q := ⟨rfl, by
  have e : decide (V.int i = V.int j) = decide (i = j) := decide_eq_decide.mpr ⟨fun h => V.int.inj h, fun h => h ▸ rfl⟩
  rw [e]; exact q⟩
theorem w_neI (q : Q (.bl (!decide (i = j))) H) : rNe (.int i) (.int j) H Q := ⟨rfl, by
  have e : decide (V.int i = V.int j) = decide (i = j) := decide_eq_decide.mpr ⟨fun h => V.int.inj h, fun h => h ▸ rfl⟩
  rw [e]; exact q⟩
theorem w_ixL {p : Addr} {xs : List V} (h : SqL K H p xs) (ha : atI xs i = some v) (q : Q v H) : rIxL K (.ref p) (.int i) H Q := ⟨p, xs, i, v, rfl, rfl, h, ha, q⟩
theorem w_ixT {p : Addr} {xs : List V} (h : SqT K H p xs) (ha : atI xs i = some v) (q : Q v H) : rIxT K (.ref p) (.int i) H Q := ⟨p, xs, i, v, rfl, rfl, h, ha, q⟩
/-! tests -/
theorem w_test {Q : Bool → Hp → Prop} (q : te σ H fun x H' => ∃ k, x = .bl k ∧ Q k H') : tTest te σ H Q := q
theorem w_B {Q : Bool → Hp → Prop} (q : te σ H fun x H' => ∃ k, x = .bl k ∧ Q k H') : tB te σ H Q := q
theorem w_and {Q : Bool → Hp → Prop} (q : t σ H fun c H1 => if c = true then u σ H1 Q else Q false H1) : tAnd t u σ H Q := q
theorem w_or {Q : Bool → Hp → Prop} (q : t σ H fun c H1 => if c = true then Q true H1 else u σ H1 Q) : tOr t u σ H Q := q
theorem w_not {Q : Bool → Hp → Prop} (q : t σ H fun c H1 => Q (!c) H1) : tNot t σ H Q := q
/-! statements -/
theorem w_seq {t u : TS} (q : t { D with nx := u D } σ H) : tSeq t u D σ H := q
theorem w_next (q : D.nx σ H) : tNext D σ H := q
theorem w_asg {g : TG} (q : te σ H fun x H1 => g x σ H1 D.nx) : tAsg te g D σ H := q
theorem w_drop (q : te σ H fun _ H1 => D.nx σ H1) : tDrop te D σ H := q
theorem w_ret (q : te σ H D.rt) : tRet te D σ H := q
theorem w_ifS {c : TT} {t u : TS} (q : c σ H fun b H1 => if b = true then t D σ H1 else u D σ H1) : tIfS c t u D σ H := q
theorem w_gName {n : Nat} {Q : L2.St → Hp → Prop} (q : Q (σ.set n (some v)) H) : gName n v σ H Q := q
theorem w_gSub {to ti : TE} {t : TSet} {Q : L2.St → Hp → Prop} (q : to σ H fun o H1 => ti σ H1 fun i H2 => t o i v H2 fun H3 => Q σ H3) : gSub to ti t v σ H Q := q
theorem w_setL {p : Addr} {xs : List V} {n : Nat} {Q : Hp → Prop} (h : H p = some (.lst xs)) (hi : ixN xs.length i = some n) (q : Q (upd H p (.lst (xs.set n v)))) : rSetL (.ref p) (.int i) v H Q := ⟨p, xs, i, n, rfl, rfl, h, hi, q⟩
end
theorem ite_tf {c : Bool} {A B : Prop} (h1 : c = true → A) (h2 : c = false → B) : if c = true then A else B := by
  cases c with
  | true => rw [if_pos rfl]; exact h1 rfl
  | false => rw [if_neg Bool.false_ne_true]; exact h2 rfl
theorem ite_d {p : Prop} [Decidable p] {A B : Prop} (h1 : p → A) (h2 : ¬ p → B) : if decide p = true then A else B :=
  ite_tf (fun h => h1 (of_decide_eq_true h)) (fun h => h2 (of_decide_eq_false h))
theorem ite_nd {p : Prop} [Decidable p] {A B : Prop} (h1 : ¬ p → A) (h2 : p → B) : if (!decide p) = true then A else B :=
  ite_tf (fun h => h1 (of_decide_eq_false (by simpa using h))) (fun h => h2 (of_decide_eq_true (by simpa using h)))
theorem iteNF {A B : Prop} (h : A) : if (!false) = true then A else B := by simpa using h
theorem iteNT {A B : Prop} (h : B) : if (!true) = true then A else B := by simpa using h
theorem upd_over {H : Hp} {p : Addr} {a b : HO} : upd (upd H p a) p b = upd H p b := by
  funext q
  unfold upd
  by_cases e : q = p
  · simp [e]
  · simp [e]
end NP
namespace NP
open PySem PySem.Spec PyProof.Rows L2
/-! calls by name, their readings named -/
def rIsNQ : R2 := fun x y H Q => y = .non ∧ Q (.bl (decide (x = .non))) H
def rNotNQ : R2 := fun x y H Q => y = .non ∧ Q (.bl (!decide (x = .non))) H
theorem op_isNQ {X : Cx} : OpR X (compareOp .Is) rIsNQ := op_isN
theorem op_notNQ {X : Cx} : OpR X (compareOp .IsNot) rNotNQ := op_notN
theorem w_isN0 {H : Hp} {Q : VK} (q : Q (.bl true) H) : rIsNQ .non .non H Q := ⟨rfl, by simpa using q⟩
theorem w_notN0 {H : Hp} {Q : VK} (q : Q (.bl false) H) : rNotNQ .non .non H Q := ⟨rfl, by simpa using q⟩
theorem w_isN1 {H : Hp} {Q : VK} {x : V} (h : x ≠ .non) (q : Q (.bl false) H) : rIsNQ x .non H Q := ⟨rfl, by rw [decide_eq_false h]; exact q⟩
theorem w_notN1 {H : Hp} {Q : VK} {x : V} (h : x ≠ .non) (q : Q (.bl true) H) : rNotNQ x .non H Q := ⟨rfl, by rw [decide_eq_false h]; exact q⟩
def rLenQ (K : PySem.W.Frag) : List V → Hp → VK → Prop := fun xs H Q => ∃ p ys, xs = [.ref p] ∧ (SqL K H p ys ∨ SqT K H p ys) ∧ Q (.int ys.length) H
def rIntQ : List V → Hp → VK → Prop := fun xs H Q => (∃ i, xs = [.int i] ∧ Q (.int i) H) ∨ ∃ k, xs = [.bl k] ∧ Q (.int (if k then 1 else 0)) H
def rAbsQ : List V → Hp → VK → Prop := fun xs H Q => ∃ i, xs = [.int i] ∧ Q (.int (if i < 0 then -i else i)) H
def rMin2Q : List V → Hp → VK → Prop := fun xs H Q => ∃ i j, xs = [.int i, .int j] ∧ Q (.int (if j < i then j else i)) H
def rMax2Q : List V → Hp → VK → Prop := fun xs H Q => ∃ i j, xs = [.int i, .int j] ∧ Q (.int (if j > i then j else i)) H
def rListQ (K : PySem.W.Frag) : List V → Hp → VK → Prop := fun xs H Q => ∃ p ys, xs = [.ref p] ∧ (SqL K H p ys ∨ SqT K H p ys) ∧ ∀ l, H l = none → Q (.ref l) (upd H l (.lst ys))
def rTupQ (K : PySem.W.Frag) : List V → Hp → VK → Prop := fun xs H Q => ∃ p ys, xs = [.ref p] ∧ ((SqL K H p ys ∧ ∀ l, H l = none → Q (.ref l) (upd H l (.tup ys))) ∨ (SqT K H p ys ∧ Q (.ref p) H))
theorem callQ_len {X : Cx} : CallR X (.builtin "len") (rLenQ X.K) := call_len_seq
theorem callQ_int {X : Cx} : CallR X (.type "int") rIntQ := call_int1
theorem callQ_abs {X : Cx} : CallR X (.builtin "abs") rAbsQ := call_abs
theorem callQ_min2 {X : Cx} (hc : X.calm = true) : CallR X (.builtin "min") rMin2Q := call_min2 hc
theorem callQ_max2 {X : Cx} (hc : X.calm = true) : CallR X (.builtin "max") rMax2Q := call_max2 hc
theorem callQ_list {X : Cx} : CallR X (.type "list") (rListQ X.K) := call_list_of
theorem callQ_tuple {X : Cx} : CallR X (.type "tuple") (rTupQ X.K) := call_tuple_of
/-- all but what stands at h is as it was -/
def Kp (h : Addr) (H H' : Hp) : Prop := ∀ a o, a ≠ h → H a = some o → H' a = some o
theorem Kp.refl {h : Addr} (H : Hp) : Kp h H H := fun _ _ _ e => e
theorem Kp.trans {h : Addr} {H H1 H2 : Hp} (a : Kp h H H1) (b : Kp h H1 H2) : Kp h H H2 := fun x o n e => b x o n (a x o n e)
theorem Kp.seq {K : PySem.W.Frag} {h : Addr} {H H' : Hp} {a : Addr} {xs : List V} (e : Kp h H H') (n : a ≠ h) (s : SqL K H a xs) : SqL K H' a xs := by
  rcases s with (s | ⟨o, s⟩) | s
  · exact .inl (.inl (e _ _ n s))
  · exact .inl (.inr ⟨o, e _ _ n s⟩)
  · exact .inr s
theorem Kp.tup {K : PySem.W.Frag} {h : Addr} {H H' : Hp} {a : Addr} {xs : List V} (e : Kp h H H') (n : a ≠ h) (s : SqT K H a xs) : SqT K H' a xs := by
  rcases s with (s | ⟨o, s⟩) | s
  · exact .inl (.inl (e _ _ n s))
  · exact .inl (.inr ⟨o, e _ _ n s⟩)
  · exact .inr s
theorem Kp.of_same {h : Addr} {H H' : Hp} (e : Same H H') : Kp h H H' := fun a o _ q => e a o q
theorem Kp.upd (h : Addr) (H : Hp) (o : HO) : Kp h H (upd H h o) := fun a u n e => by rw [upd_ne n]; exact e
section
variable {K : PySem.W.Frag} {σ : L2.St} {H : Hp} {Q : VK} {D : L2.Ends} {v x y : V} {ta tb te : TE} {t u : TT} {i j : Int} {tr : TA} {p : Addr} {xs : List V}
theorem w_ixLH (h : H p = some (.lst xs)) (ha : atI xs i = some v) (q : Q v H) : rIxL K (.ref p) (.int i) H Q := w_ixL (SqL.of h) ha q
theorem w_ixTH (h : H p = some (.tup xs)) (ha : atI xs i = some v) (q : Q v H) : rIxT K (.ref p) (.int i) H Q := w_ixT (SqT.of h) ha q
theorem w_setLH {n : Nat} {Q : Hp → Prop} (h : H p = some (.lst xs)) (hi : ixN xs.length i = some n) (q : ∀ H', H' p = some (.lst (xs.set n v)) → Kp p H H' → Q H') : rSetL (.ref p) (.int i) v H Q :=
  ⟨p, xs, i, n, rfl, rfl, h, hi, q _ upd_same (Kp.upd _ _ _)⟩
theorem w_lstN {Q : V → Hp → Prop} (hl : xs.length ≤ 100000) (q : ∀ p H', H p = none → Same H H' → H' p = some (.lst xs) → Q (.ref p) H') : rNewL xs H Q :=
  ⟨Nat.le_trans hl (by decide), fun p hp => q p _ hp (fun a o e => by rw [upd_ne (ne_of_none e hp)]; exact e) upd_same⟩
theorem w_tupN {Q : V → Hp → Prop} (hl : xs.length ≤ 100000) (q : ∀ p H', H p = none → Same H H' → H' p = some (.tup xs) → Q (.ref p) H') : rNewT xs H Q :=
  ⟨Nat.le_trans hl (by decide), fun p hp => q p _ hp (fun a o e => by rw [upd_ne (ne_of_none e hp)]; exact e) upd_same⟩
theorem w_newL {Q : V → Hp → Prop} (q : ∀ p H', H p = none → Same H H' → H' p = some (.lst xs) → Q (.ref p) H') : ∀ p, H p = none → Q (.ref p) (upd H p (.lst xs)) :=
  fun p hp => q p _ hp (fun a o e => by rw [upd_ne (ne_of_none e hp)]; exact e) upd_same
theorem w_newT {Q : V → Hp → Prop} (q : ∀ p H', H p = none → Same H H' → H' p = some (.tup xs) → Q (.ref p) H') : ∀ p, H p = none → Q (.ref p) (upd H p (.tup xs)) :=
  fun p hp => q p _ hp (fun a o e => by rw [upd_ne (ne_of_none e hp)]; exact e) upd_same
theorem w_lenL (h : SqL K H p xs) (q : Q (.int xs.length) H) : rLenQ K [V.ref p] H Q := ⟨p, xs, rfl, .inl h, q⟩
theorem w_lenT (h : SqT K H p xs) (q : Q (.int xs.length) H) : rLenQ K [V.ref p] H Q := ⟨p, xs, rfl, .inr h, q⟩
theorem w_lenLH (h : H p = some (.lst xs)) (q : Q (.int xs.length) H) : rLenQ K [V.ref p] H Q := ⟨p, xs, rfl, .inl (SqL.of h), q⟩
theorem w_lenTH (h : H p = some (.tup xs)) (q : Q (.int xs.length) H) : rLenQ K [V.ref p] H Q := ⟨p, xs, rfl, .inr (SqT.of h), q⟩
theorem w_intI (q : Q (.int i) H) : rIntQ [V.int i] H Q := .inl ⟨i, rfl, q⟩
theorem w_intB {b : Bool} (q : Q (.int (if b then 1 else 0)) H) : rIntQ [V.bl b] H Q := .inr ⟨b, rfl, q⟩
theorem w_abs (q : Q (.int (if i < 0 then -i else i)) H) : rAbsQ [V.int i] H Q := ⟨i, rfl, q⟩
theorem w_min2 (q : Q (.int (if j < i then j else i)) H) : rMin2Q [V.int i, .int j] H Q := ⟨i, j, rfl, q⟩
theorem w_max2 (q : Q (.int (if j > i then j else i)) H) : rMax2Q [V.int i, .int j] H Q := ⟨i, j, rfl, q⟩
theorem w_listL (h : SqL K H p xs) (q : ∀ l H', H l = none → Same H H' → H' l = some (.lst xs) → Q (.ref l) H') : rListQ K [V.ref p] H Q := ⟨p, xs, rfl, .inl h, w_newL (Q := Q) q⟩
theorem w_listT (h : SqT K H p xs) (q : ∀ l H', H l = none → Same H H' → H' l = some (.lst xs) → Q (.ref l) H') : rListQ K [V.ref p] H Q := ⟨p, xs, rfl, .inr h, w_newL (Q := Q) q⟩
theorem w_tupL (h : SqL K H p xs) (q : ∀ l H', H l = none → Same H H' → H' l = some (.tup xs) → Q (.ref l) H') : rTupQ K [V.ref p] H Q := ⟨p, xs, rfl, .inl ⟨h, w_newT (Q := Q) q⟩⟩
theorem w_tupT (h : SqT K H p xs) (q : Q (.ref p) H) : rTupQ K [V.ref p] H Q := ⟨p, xs, rfl, .inr ⟨h, q⟩⟩
theorem w_slL {lo hi : Option Int} (h : SqL K H p xs) (q : ∀ a H', H a = none → Same H H' → H' a = some (.lst (cutV xs lo hi)) → Q (.ref a) H') : rSlL K (.ref p) lo hi H Q :=
  ⟨p, xs, rfl, h, w_newL (Q := Q) q⟩
end
theorem atI_in {xs : List V} {d : Int} (h0 : 0 ≤ d) (h : d < xs.length) : ∃ v, v ∈ xs ∧ atI xs d = some v := by
  have hj : d.toNat < xs.length := by omega
  refine ⟨xs[d.toNat], List.getElem_mem hj, ?_⟩
  have e : ((d.toNat : Nat) : Int) = d := by omega
  have := atI_nat (xs := xs) (j := d.toNat) (v := xs[d.toNat]) (List.getElem?_eq_getElem hj)
  rw [e] at this
  exact this
theorem cut_front {k : Int} {xs : List V} (h : (xs.length : Int) ≤ k) : cutV xs none (some k) = xs := by
  obtain ⟨n, rfl⟩ : ∃ n : Nat, k = n := ⟨k.toNat, by omega⟩
  have h : xs.length ≤ n := by omega
  unfold cutV
  rw [HT.sIx_none, HT.sIx_nat]
  rw [Nat.min_eq_right h]
  simp
end NP
namespace NP
open PySem PySem.Spec PyProof.Rows L2
theorem same_new {H : Hp} {p : Addr} {o : HO} (h : H p = none) : Same H (upd H p o) := fun b x e => by
  rw [upd_ne (ne_of_none e h)]
  exact e
theorem map_at {α : Type} {f : α → V} {xs : List α} {n : Nat} {x : V} (h : (xs.map f)[n]? = some x) : ∃ z, xs[n]? = some z ∧ x = f z := by
  rw [List.getElem?_map] at h
  cases e : xs[n]? with
  | none => rw [e] at h; cases h
  | some z => rw [e] at h; exact ⟨z, rfl, (Option.some.inj h).symm⟩
theorem take_succ_at {α : Type} {l : List α} {i : Nat} {x : α} (h : l[i]? = some x) : l.take (i + 1) = l.take i ++ [x] := by
  rw [List.take_add_one, h]; rfl
end NP
namespace NP
open PySem PySem.Spec PyProof.Rows L2
section
variable {K : PySem.W.Frag} {σ : L2.St} {H : Hp} {Q : VK} {D : L2.Ends} {v x y : V} {ta tb te tl : TE} {i j : Int} {tr : TA}
theorem w_lc {wi : TI} {g : TG} {tt : TT} {vs : List Nat} (q : wi σ H fun J H1 => ∀ D, H1 D = none → ∃ W : Nat → Nat → Hp → Prop, (∃ m, W 0 m (upd H1 D (.lst []))) ∧ ∀ i m H, W i m H →
  (J.stop i H ∧ Q (.ref D) H) ∨ (J.go i H ∧ ∃ Nx : Hp → Prop, (∀ H', Nx H' → ∃ m', m' < m ∧ W (i + 1) m' H') ∧ ∀ x H', J.yld i H x H' → g x (wipe σ vs) H' fun σ2 H2 => wipe σ2 vs = wipe σ vs ∧ tt σ2 H2 fun b H3 =>
    if b = true then te σ2 H3 fun y H4 => ∃ acc, H4 D = some (.lst acc) ∧ acc.length < sizeLine ∧ Nx (upd H4 D (.lst (acc ++ [y]))) else Nx H3)) : tLc wi g tt te vs σ H Q := q
theorem w_yes {Q : Bool → Hp → Prop} (q : Q true H) : tYes σ H Q := q
def rSrcL (K : PySem.W.Frag) (x : V) (H : Hp) (R : It → Hp → Prop) : Prop := ∃ a, x = .ref a ∧ (∃ xs, SqL K H a xs) ∧ R (Itl K a) H
def rSrcT (K : PySem.W.Frag) (x : V) (H : Hp) (R : It → Hp → Prop) : Prop := ∃ a, x = .ref a ∧ (∃ xs, SqT K H a xs) ∧ R (Itt K a) H
def rRng1 (vs : List V) (H : Hp) (R : It → Hp → Prop) : Prop := ∃ j : Int, vs = [.int j] ∧ -(2 ^ 62) ≤ j ∧ j < 2 ^ 62 ∧ R (Itr 0 j.toNat) H
def rRng2 (vs : List V) (H : Hp) (R : It → Hp → Prop) : Prop := ∃ i j : Int, vs = [.int i, .int j] ∧ (-(2 ^ 62) ≤ i ∧ i < 2 ^ 62 ∧ -(2 ^ 62) ≤ j ∧ j < 2 ^ 62) ∧ R (Itr i (j - i).toNat) H
theorem w_iList {R : It → Hp → Prop} (q : tl σ H fun x H1 => rSrcL K x H1 R) : iList K tl σ H R := q
theorem w_iTup {R : It → Hp → Prop} (q : tl σ H fun x H1 => rSrcT K x H1 R) : iTup K tl σ H R := q
theorem w_iRng1 {R : It → Hp → Prop} (q : tr σ H fun vs H1 => rRng1 vs H1 R) : iRng1 tr σ H R := q
theorem w_iRng2 {R : It → Hp → Prop} (q : tr σ H fun vs H1 => rRng2 vs H1 R) : iRng2 tr σ H R := q
theorem w_srcL {R : It → Hp → Prop} {a : Addr} {xs : List V} (h : SqL K H a xs) (q : R (Itl K a) H) : rSrcL K (.ref a) H R := ⟨a, rfl, ⟨xs, h⟩, q⟩
theorem w_srcT {R : It → Hp → Prop} {a : Addr} {xs : List V} (h : SqT K H a xs) (q : R (Itt K a) H) : rSrcT K (.ref a) H R := ⟨a, rfl, ⟨xs, h⟩, q⟩
theorem w_rng1 {R : It → Hp → Prop} (h : 0 ≤ j ∧ j ≤ 1000000) (q : R (Itr 0 j.toNat) H) : rRng1 [.int j] H R := ⟨j, rfl, by omega, by omega, q⟩
theorem w_rng2 {R : It → Hp → Prop} (h : -1000000 ≤ i ∧ i ≤ 1000000 ∧ -1000000 ≤ j ∧ j ≤ 1000000) (q : R (Itr i (j - i).toNat) H) : rRng2 [.int i, .int j] H R := ⟨i, j, rfl, ⟨by omega, by omega, by omega, by omega⟩, q⟩
theorem w_for {wi : TI} {g : TG} {tb : TS} (q : wi σ H fun J H1 => ∃ W : Nat → Nat → L2.St → Hp → Prop, (∃ m, W 0 m σ H1) ∧ ∀ i m σ H, W i m σ H →
  (J.stop i H ∧ D.nx σ H) ∨ (J.go i H ∧ ∃ Nx : L2.St → Hp → Prop, (∀ σ' H', Nx σ' H' → ∃ m', m' < m ∧ W (i + 1) m' σ' H') ∧ ∀ x H', J.yld i H x H' → g x σ H' fun σ2 H2 => tb { D with nx := Nx, bk := D.nx, ct := Nx } σ2 H2)) : tFor wi g tb D σ H := q
end
end NP

set_option Elab.async false
set_option linter.all false
set_option maxRecDepth 100000
set_option maxHeartbeats 4000000
/-! data that do not change, of any depth -/
namespace NP
open PySem PySem.Spec PyProof.Rows L2
inductive Dd where
  | i (n : Int) | b (v : Bool) | n | s (z : Str) | t (xs : List Dd) | l (xs : List Dd) | o
/-- what isinstance says of a value that is nothing else here -/
def NoKind (K : PySem.W.Frag) (t : Value) : Prop := PySem.W.kitOne K t (.type "int") = some false ∧ PySem.W.kitOne K t (.type "bool") = some false ∧ PySem.W.kitOne K t (.type "tuple") = some false ∧ PySem.W.kitOne K t (.type "list") = some false
mutual
inductive Im (K : PySem.W.Frag) (H : Hp) : V → Dd → Prop where
  | i (n : Int) : Im K H (.int n) (.i n)
  | b (v : Bool) : Im K H (.bl v) (.b v)
  | n : Im K H .non .n
  | s (z : Str) : Im K H (.str z) (.s z)
  | t {a : Addr} {vs : List V} {ds : List Dd} : SqT K H a vs → ImL K H vs ds → Im K H (.ref a) (.t ds)
  | l {a : Addr} {vs : List V} {ds : List Dd} : SqL K H a vs → ImL K H vs ds → Im K H (.ref a) (.l ds)
  | o {x : V} {t : Value} : (x ≠ .non ∧ ∀ H', Same H H' → TyX K H' x t) → NoKind K t → Im K H x .o
inductive ImL (K : PySem.W.Frag) (H : Hp) : List V → List Dd → Prop where
  | nil : ImL K H [] []
  | cons {v : V} {vs : List V} {d : Dd} {ds : List Dd} : Im K H v d → ImL K H vs ds → ImL K H (v :: vs) (d :: ds)
end
theorem Same.tupS {K : PySem.W.Frag} {H H' : Hp} {a : Addr} {xs : List V} (e : Same H H') (h : SqT K H a xs) : SqT K H' a xs := by
  rcases h with (h | ⟨o, h⟩) | h
  · exact .inl (.inl (e _ _ h))
  · exact .inl (.inr ⟨o, e _ _ h⟩)
  · exact .inr h
section
variable {K : PySem.W.Frag} {H H' : Hp}
mutual
theorem Im.same (e : Same H H') : ∀ {v : V} {d : Dd}, Im K H v d → Im K H' v d
  | _, _, .i n => .i n
  | _, _, .b v => .b v
  | _, _, .n => .n
  | _, _, .s z => .s z
  | _, _, .t h hl => .t (Same.tupS e h) (ImL.same e hl)
  | _, _, .l h hl => .l (e.seq h) (ImL.same e hl)
  | _, _, .o h k => .o ⟨h.1, fun H2 e2 => h.2 H2 (e.trans e2)⟩ k
theorem ImL.same (e : Same H H') : ∀ {vs : List V} {ds : List Dd}, ImL K H vs ds → ImL K H' vs ds
  | _, _, .nil => .nil
  | _, _, .cons h hl => .cons (Im.same e h) (ImL.same e hl)
end
theorem ImL.len : ∀ {vs : List V} {ds : List Dd}, ImL K H vs ds → vs.length = ds.length
  | _, _, .nil => rfl
  | _, _, .cons _ hl => by simp [hl.len]
theorem ImL.at : ∀ {vs : List V} {ds : List Dd}, ImL K H vs ds → ∀ {k : Nat} {v : V}, vs[k]? = some v → ∃ d, ds[k]? = some d ∧ Im K H v d
  | _, _, .nil, k, v, h => by simp at h
  | _, _, .cons h hl, 0, v, e => by
    have e : _ = v := Option.some.inj e
    subst e
    exact ⟨_, rfl, h⟩
  | _, _, .cons h hl, k + 1, v, e => ImL.at hl (k := k) (v := v) e
theorem ImL.at' : ∀ {vs : List V} {ds : List Dd}, ImL K H vs ds → ∀ {k : Nat} {d : Dd}, ds[k]? = some d → ∃ v, vs[k]? = some v ∧ Im K H v d
  | _, _, .nil, k, v, h => by simp at h
  | _, _, .cons h hl, 0, v, e => by
    have e : _ = v := Option.some.inj e
    subst e
    exact ⟨_, rfl, h⟩
  | _, _, .cons h hl, k + 1, v, e => ImL.at' hl (k := k) (d := v) e
theorem imL_ints : ∀ (ns : List Int), ImL K H (ns.map V.int) (ns.map Dd.i)
  | [] => .nil
  | n :: r => .cons (.i n) (imL_ints r)
theorem imL_ints_inv : ∀ {ns : List Int} {vs : List V}, ImL K H vs (ns.map Dd.i) → vs = ns.map V.int
  | [], _, .nil => rfl
  | n :: r, _, .cons (.i _) hl => by rw [imL_ints_inv hl]; rfl
theorem ImL.append : ∀ {vs us : List V} {ds es : List Dd}, ImL K H vs ds → ImL K H us es → ImL K H (vs ++ us) (ds ++ es)
  | _, _, _, _, .nil, h => h
  | _, _, _, _, .cons h hl, h2 => .cons h (ImL.append hl h2)
theorem ImL.take : ∀ {vs : List V} {ds : List Dd} (n : Nat), ImL K H vs ds → ImL K H (vs.take n) (ds.take n)
  | _, _, 0, _ => .nil
  | _, _, n + 1, .nil => .nil
  | _, _, n + 1, .cons h hl => .cons h (hl.take n)
theorem ImL.drop : ∀ {vs : List V} {ds : List Dd} (n : Nat), ImL K H vs ds → ImL K H (vs.drop n) (ds.drop n)
  | _, _, 0, h => h
  | _, _, n + 1, .nil => .nil
  | _, _, n + 1, .cons h hl => hl.drop n
/-! isinstance -/
def isI : Dd → Bool | .i _ => true | .b _ => true | _ => false
def isB : Dd → Bool | .b _ => true | _ => false
def isT : Dd → Bool | .t _ => true | _ => false
def isL : Dd → Bool | .l _ => true | _ => false
theorem tyx_tup {a : Addr} {vs : List V} (h : SqT K H a vs) : TyX K H (.ref a) (.type "tuple") := by
  rcases h with (h | ⟨o, h⟩) | ⟨o, its, n, h, hc, _⟩
  · exact .base (.tup h)
  · exact .fTuple h
  · exact .kTuple h hc
theorem tyx_lst {a : Addr} {vs : List V} (h : SqL K H a vs) : TyX K H (.ref a) (.type "list") := by
  rcases h with (h | ⟨o, h⟩) | ⟨o, its, n, h, hc, _⟩
  · exact .base (.lst h)
  · exact .base (.frz h)
  · exact .kList h hc
theorem im_kit {x : V} {d : Dd} (h : Im K H x d) : ∃ t, TyX K H x t ∧ PySem.W.kitOne K t (.type "int") = some (isI d) ∧ PySem.W.kitOne K t (.type "bool") = some (isB d) ∧ PySem.W.kitOne K t (.type "tuple") = some (isT d) ∧ PySem.W.kitOne K t (.type "list") = some (isL d) := by
  cases h with
  | i n => exact ⟨_, .base (.int n), kit_ty (r := true) (by decide +kernel), kit_ty (r := false) (by decide +kernel), kit_ty (r := false) (by decide +kernel), kit_ty (r := false) (by decide +kernel)⟩
  | b v => exact ⟨_, .base (.bl v), kit_ty (r := true) (by decide +kernel), kit_ty (r := true) (by decide +kernel), kit_ty (r := false) (by decide +kernel), kit_ty (r := false) (by decide +kernel)⟩
  | n => exact ⟨_, .base .non, kit_ty (r := false) (by decide +kernel), kit_ty (r := false) (by decide +kernel), kit_ty (r := false) (by decide +kernel), kit_ty (r := false) (by decide +kernel)⟩
  | s z => exact ⟨_, .base (.str z), kit_ty (r := false) (by decide +kernel), kit_ty (r := false) (by decide +kernel), kit_ty (r := false) (by decide +kernel), kit_ty (r := false) (by decide +kernel)⟩
  | t h _ => exact ⟨_, tyx_tup h, kit_ty (r := false) (by decide +kernel), kit_ty (r := false) (by decide +kernel), kit_ty (r := true) (by decide +kernel), kit_ty (r := false) (by decide +kernel)⟩
  | l h _ => exact ⟨_, tyx_lst h, kit_ty (r := false) (by decide +kernel), kit_ty (r := false) (by decide +kernel), kit_ty (r := false) (by decide +kernel), kit_ty (r := true) (by decide +kernel)⟩
  | o h k => exact ⟨_, h.2 H (Same.refl H), k.1, k.2.1, k.2.2.1, k.2.2.2⟩
section
variable {x : V} {d : Dd} {Q : VK}
theorem w_isiI (h : Im K H x d) (q : Q (.bl (isI d)) H) : rIsi K [x, .ty "int"] H Q := let ⟨t, ty, a, _⟩ := im_kit h; ⟨x, _, t, _, _, rfl, .ty _, ty, a, q⟩
theorem w_isiB (h : Im K H x d) (q : Q (.bl (isB d)) H) : rIsi K [x, .ty "bool"] H Q := let ⟨t, ty, _, a, _⟩ := im_kit h; ⟨x, _, t, _, _, rfl, .ty _, ty, a, q⟩
theorem w_isiT (h : Im K H x d) (q : Q (.bl (isT d)) H) : rIsi K [x, .ty "tuple"] H Q := let ⟨t, ty, _, _, a, _⟩ := im_kit h; ⟨x, _, t, _, _, rfl, .ty _, ty, a, q⟩
theorem w_isiL (h : Im K H x d) (q : Q (.bl (isL d)) H) : rIsi K [x, .ty "list"] H Q := let ⟨t, ty, _, _, _, a⟩ := im_kit h; ⟨x, _, t, _, _, rfl, .ty _, ty, a, q⟩
end
/-! numbers, rows -/
def numD : Dd → Bool | .i n => decide (0 ≤ n) | _ => false
def belowD (k : Int) : Dd → Bool | .i n => decide (0 ≤ n) && decide (n < k) | _ => false
def rowD (k : Int) : Dd → Bool | .t ds => ds.all (belowD k) | _ => false
end
end NP
namespace NP
open PySem PySem.Spec PyProof.Rows L2
structure Df (K : PySem.W.Frag) (mg : Str → Option Value) (x : Str) (st : Stmt) (ps : List Str) : Type where
  a : Addr
  d : FuncData
  F : Fun K x x st a d
  b : Binds K d ps []
  g : mg x = some (.ref a)
structure Dm (K : PySem.W.Frag) (x q : Str) (st : Stmt) (ps : List Str) : Type where
  a : Addr
  d : FuncData
  F : Fun K x q st a d
  b : Binds K d ps []
section
variable {K : PySem.W.Frag}
/-! promises of the plain checks -/
def spNum (K : PySem.W.Frag) : Sp := fun vs H Q _ => ∃ x d, vs = [x] ∧ Im K H x d ∧ Q (.bl (numD d)) H
def spBelow (K : PySem.W.Frag) : Sp := fun vs H Q _ => ∃ k x d, vs = [.int k, x] ∧ Im K H x d ∧ Q (.bl (belowD k d)) H
def spRow (K : PySem.W.Frag) : Sp := fun vs H Q _ => ∃ k x d, vs = [.int k, x] ∧ Im K H x d ∧ (∀ ds, d = .t ds → ds.length ≤ 100000) ∧ ∀ H', Same H H' → Q (.bl (rowD k d)) H'
end
end NP

set_option Elab.async false
set_option linter.all false
set_option maxRecDepth 100000
set_option maxHeartbeats 4000000
/-! comprehensions and loops in short -/
namespace NP
open PySem PySem.Spec PyProof.Rows L2
theorem wipe_set {σ : L2.St} {j : Nat} {x : Option V} : wipe ((wipe σ [j]).set j x) [j] = wipe σ [j] := by
  show ((σ.set j none).set j x).set j none = σ.set j none
  rw [List.set_set, List.set_set]
section
variable {K : PySem.W.Frag} {σ : L2.St} {H : Hp} {D : Addr} {te : TE} {J : It} {n : Nat} {G : Hp → Prop} {Y : Nat → Hp → V → Hp → Prop}
/-- [e for x in ..], the elements known: ys -/
theorem lc_ys {j : Nat} (w : Walk J n G Y) (ys : List V) (hn : ys.length = n) (hsz : n ≤ 100000) (hD : H D = none) (hG : ∀ H', Same H H' → G H')
    (hs : ∀ i x H1 H', i < n → Same H H1 → Y i H1 x H' → Same H1 H' ∧ ∀ Q' : VK, (∀ y H4, ys[i]? = some y → Same H' H4 → Q' y H4) → te ((wipe σ [j]).set j (some x)) H' Q')
    {Qd : Hp → Prop} (hd : ∀ H', Same H H' → H' D = some (.lst ys) → Qd H') :
    ∃ W : Nat → Nat → Hp → Prop, (∃ m, W 0 m (upd H D (.lst []))) ∧ ∀ i m H, W i m H →
      (J.stop i H ∧ Qd H) ∨ (J.go i H ∧ ∃ Nx : Hp → Prop, (∀ H', Nx H' → ∃ m', m' < m ∧ W (i + 1) m' H') ∧ ∀ x H', J.yld i H x H' → gName j x (wipe σ [j]) H' fun σ2 H2 => wipe σ2 [j] = wipe σ [j] ∧ tYes σ2 H2 fun b H3 =>
        if b = true then te σ2 H3 fun y H4 => ∃ acc, H4 D = some (.lst acc) ∧ acc.length < sizeLine ∧ Nx (upd H4 D (.lst (acc ++ [y]))) else Nx H3) := by
  refine lc_it w (fun i H' => Same H H' ∧ H' D = some (.lst (ys.take i))) ⟨same_new hD, upd_same⟩ (fun i H' _ p => hG H' p.1) (fun i x H1 H' hi p y => ?_) (fun H' p => ?_)
  · obtain ⟨s1, q⟩ := hs i x H1 H' hi p.1 y
    refine w_gName ⟨wipe_set, w_yes (iteT (q _ fun y H4 hy s2 => ?_))⟩
    refine ⟨_, s2 _ _ (s1 _ _ p.2), ?_, fun b o hb => ?_, ?_⟩
    · rw [List.length_take]
      exact Nat.lt_of_le_of_lt (Nat.min_le_left _ _) (Nat.lt_of_lt_of_le hi (Nat.le_trans hsz (by decide)))
    · rw [upd_ne (ne_of_none hb hD)]
      exact s2 _ _ (s1 _ _ (p.1 _ _ hb))
    · rw [upd_same, take_succ_at hy]
  · refine hd H' p.1 ?_
    have e := p.2
    rw [List.take_of_length_le (by omega)] at e
    exact e
/-- [e for x in ..] where the elements change the heap: any invariant over the turn, what is made so far and the heap -/
theorem lc_inv {j : Nat} (w : Walk J n G Y) (Pv : Nat → List V → Hp → Prop) (hsz : n ≤ 100000) (h0 : Pv 0 [] (upd H D (.lst [])))
    (hG : ∀ i acc H', Pv i acc H' → G H') (hD : ∀ i acc H', Pv i acc H' → H' D = some (.lst acc) ∧ acc.length = i)
    (hs : ∀ i x acc H1 H', i < n → Pv i acc H1 → Y i H1 x H' → ∀ Q' : VK, (∀ y H4, H4 D = some (.lst acc) → Pv (i + 1) (acc ++ [y]) (upd H4 D (.lst (acc ++ [y]))) → Q' y H4) → te ((wipe σ [j]).set j (some x)) H' Q')
    {Qd : Hp → Prop} (hd : ∀ acc H', Pv n acc H' → Qd H') :
    ∃ W : Nat → Nat → Hp → Prop, (∃ m, W 0 m (upd H D (.lst []))) ∧ ∀ i m H, W i m H →
      (J.stop i H ∧ Qd H) ∨ (J.go i H ∧ ∃ Nx : Hp → Prop, (∀ H', Nx H' → ∃ m', m' < m ∧ W (i + 1) m' H') ∧ ∀ x H', J.yld i H x H' → gName j x (wipe σ [j]) H' fun σ2 H2 => wipe σ2 [j] = wipe σ [j] ∧ tYes σ2 H2 fun b H3 =>
        if b = true then te σ2 H3 fun y H4 => ∃ acc, H4 D = some (.lst acc) ∧ acc.length < sizeLine ∧ Nx (upd H4 D (.lst (acc ++ [y]))) else Nx H3) := by
  refine lc_it w (fun i H' => ∃ acc, Pv i acc H') ⟨[], h0⟩ (fun i H' _ ⟨acc, p⟩ => hG i acc H' p) (fun i x H1 H' hi ⟨acc, p⟩ y => ?_) (fun H' ⟨acc, p⟩ => hd acc H' p)
  refine w_gName ⟨wipe_set, w_yes (iteT (hs i x acc H1 H' hi p y _ fun y H4 h4 pn => ?_))⟩
  refine ⟨acc, h4, ?_, _, pn⟩
  rw [(hD i acc H1 p).2]
  exact Nat.lt_of_lt_of_le hi (Nat.le_trans hsz (by decide))
/-- [e for x in .. if t], the elements known: of turn i either none or one -/
theorem lc_if {j : Nat} {tt : TT} (w : Walk J n G Y) (ys : List (Option V)) (hn : ys.length = n) (hsz : n ≤ 100000) (hD : H D = none) (hG : ∀ H', Same H H' → G H')
    (hs : ∀ i x H1 H', i < n → Same H H1 → Y i H1 x H' → Same H1 H' ∧ ∀ (Qt : Bool → Hp → Prop), (∀ H4, Same H' H4 → (∃ o, ys[i]? = some o ∧ (o = none → Qt false H4) ∧ ∀ y, o = some y → Qt true H4)) → tt ((wipe σ [j]).set j (some x)) H' Qt)
    (he : ∀ i x H1 H' H4 y, i < n → Same H H1 → Y i H1 x H' → Same H' H4 → ys[i]? = some (some y) → ∀ Q' : VK, (∀ H5, Same H4 H5 → Q' y H5) → te ((wipe σ [j]).set j (some x)) H4 Q')
    {Qd : Hp → Prop} (hd : ∀ H', Same H H' → H' D = some (.lst (ys.filterMap id)) → Qd H') :
    ∃ W : Nat → Nat → Hp → Prop, (∃ m, W 0 m (upd H D (.lst []))) ∧ ∀ i m H, W i m H →
      (J.stop i H ∧ Qd H) ∨ (J.go i H ∧ ∃ Nx : Hp → Prop, (∀ H', Nx H' → ∃ m', m' < m ∧ W (i + 1) m' H') ∧ ∀ x H', J.yld i H x H' → gName j x (wipe σ [j]) H' fun σ2 H2 => wipe σ2 [j] = wipe σ [j] ∧ tt σ2 H2 fun b H3 =>
        if b = true then te σ2 H3 fun y H4 => ∃ acc, H4 D = some (.lst acc) ∧ acc.length < sizeLine ∧ Nx (upd H4 D (.lst (acc ++ [y]))) else Nx H3) := by
  refine lc_it w (fun i H' => Same H H' ∧ H' D = some (.lst ((ys.take i).filterMap id))) ⟨same_new hD, upd_same⟩ (fun i H' _ p => hG H' p.1) (fun i x H1 H' hi p y => ?_) (fun H' p => ?_)
  · obtain ⟨s1, q⟩ := hs i x H1 H' hi p.1 y
    refine w_gName ⟨wipe_set, q _ fun H4 s2 => ?_⟩
    have hi' : i < ys.length := by omega
    refine ⟨ys[i], List.getElem?_eq_getElem hi', fun e => ?_, fun z e => ?_⟩
    · refine iteF ⟨fun b o hb => s2 _ _ (s1 _ _ (p.1 _ _ hb)), ?_⟩
      rw [take_succ_at (List.getElem?_eq_getElem hi'), List.filterMap_append, e]
      simpa using s2 _ _ (s1 _ _ p.2)
    · have hz : ys[i]? = some (some z) := by rw [List.getElem?_eq_getElem hi', e]
      refine iteT (he i x H1 H' H4 z hi p.1 y s2 hz _ fun H5 s3 => ?_)
      refine ⟨_, s3 _ _ (s2 _ _ (s1 _ _ p.2)), ?_, fun b o hb => ?_, ?_⟩
      · refine Nat.lt_of_le_of_lt (List.length_filterMap_le _ _) ?_
        rw [List.length_take]
        exact Nat.lt_of_le_of_lt (Nat.min_le_left _ _) (Nat.lt_of_lt_of_le hi (Nat.le_trans hsz (by decide)))
      · rw [upd_ne (ne_of_none hb hD)]
        exact s3 _ _ (s2 _ _ (s1 _ _ (p.1 _ _ hb)))
      · rw [upd_same, take_succ_at hz, List.filterMap_append]
        rfl
  · refine hd H' p.1 ?_
    have e := p.2
    rw [List.take_of_length_le (by omega)] at e
    exact e
theorem w_all {a : Addr} {Q : VK} (bs : List Bool) (h : H a = some (.lst (bs.map V.bl))) (q : Q (.bl (bs.all id)) H) : rAll K [V.ref a] H Q := ⟨a, bs, rfl, SqL.of h, q⟩
theorem w_any {a : Addr} {Q : VK} (bs : List Bool) (h : H a = some (.lst (bs.map V.bl))) (q : Q (.bl (bs.any id)) H) : rAny K [V.ref a] H Q := ⟨a, bs, rfl, SqL.of h, q⟩
end
end NP
namespace NP
open PySem PySem.Spec PyProof.Rows L2
section
variable {K : PySem.W.Frag} {σ : L2.St} {H : Hp} {Q : VK} {v : V} {l : Addr} {xs : List V} {to : TE} {ta : TA} {T : String}
theorem w_bm {r : V → List V → Hp → VK → Prop} (q : to σ H fun x H1 => tyV K T x H1 ∧ ta σ H1 fun xs H2 => r x xs H2 Q) : tBM K T r to ta σ H Q := q
theorem w_bm0 {r : V → List V → Hp → VK → Prop} (q : to σ H fun x H1 => tyV K T x H1 ∧ r x [] H1 Q) : tBM0 K T r to σ H Q := q
theorem w_tyL {P : Prop} (h : H l = some (.lst xs)) (q : P) : tyV K "list" (.ref l) H ∧ P := ⟨.inl ⟨rfl, _, SqL.of h⟩, q⟩
theorem w_app (h : H l = some (.lst xs)) (hl : xs.length ≤ 100000) (q : ∀ H', H' l = some (.lst (xs ++ [v])) → Kp l H H' → Q .non H') : rAppend (.ref l) [v] H Q :=
  ⟨l, xs, v, rfl, rfl, h, Nat.lt_of_le_of_lt hl (by decide), q _ upd_same (Kp.upd _ _ _)⟩
theorem w_popAt {i : Int} {j : Nat} {y : V} (h : H l = some (.lst xs)) (h0 : 0 ≤ i) (h1 : i.toNat = j) (h2 : j < 100000) (hy : xs[j]? = some y) (q : ∀ H', H' l = some (.lst (xs.eraseIdx j)) → Kp l H H' → Q y H') : rPopAt (.ref l) [.int i] H Q := by
  have hj : j < xs.length := (List.getElem?_eq_some_iff.mp hy).1
  refine ⟨l, xs, i, j, y, rfl, rfl, h, by omega, by omega, ?_, hy, q _ upd_same (Kp.upd _ _ _)⟩
  have e : ixN xs.length i = some j := by
    unfold ixN
    rw [if_pos h0, if_pos (by omega), h1]
  exact (ixN_seq e).1
end
theorem atI_int {α : Type} {xs : List α} {i : Int} {x : α} (h0 : 0 ≤ i) (h : xs[i.toNat]? = some x) : atI xs i = some x := by
  have := atI_nat h
  rwa [show ((i.toNat : Nat) : Int) = i by omega] at this
theorem ixN_int {n : Nat} {i : Int} (h0 : 0 ≤ i) (h : i < n) : ixN n i = some i.toNat := by
  unfold ixN
  rw [if_pos h0, if_pos h]
/-! ties and neighbours -/
abbrev Tie := Int × Int × Int
def tieD (t : Tie) : Dd := .t [.i t.1, .i t.2.1, .i t.2.2]
def tiesD (ts : List Tie) : Dd := .t (ts.map tieD)
def nbOf (h : Int) (t : Tie) : List Int := if t.1 = h then [t.2.1] else if t.2.1 = h then [t.1] else []
def nbI (ts : List Tie) (h : Int) : List Int := ts.flatMap (nbOf h)
theorem nbI_snoc (ts : List Tie) (t : Tie) (h : Int) : nbI (ts ++ [t]) h = nbI ts h ++ nbOf h t := by
  unfold nbI
  rw [List.flatMap_append]
  simp
theorem nbI_len (ts : List Tie) (h : Int) : (nbI ts h).length ≤ ts.length := by
  induction ts with
  | nil => exact Nat.le_refl _
  | cons t r ih =>
    show (nbOf h t ++ nbI r h).length ≤ r.length + 1
    rw [List.length_append]
    have : (nbOf h t).length ≤ 1 := by
      unfold nbOf
      split
      · exact Nat.le_refl _
      · split
        · exact Nat.le_refl _
        · exact Nat.zero_le _
    omega
/-- a list of lists of ints -/
def NearAt (H : Hp) (p : Addr) (rows : List (List Int)) : Prop := ∃ as : List Addr, H p = some (.lst (as.map V.ref)) ∧ as.length = rows.length ∧ ∀ (i : Nat) (a : Addr) (r : List Int), as[i]? = some a → rows[i]? = some r → H a = some (.lst (r.map V.int))
theorem NearAt.same {H H' : Hp} {p : Addr} {rows : List (List Int)} (e : Same H H') (h : NearAt H p rows) : NearAt H' p rows := by
  obtain ⟨as, h1, h2, h3⟩ := h
  exact ⟨as, e _ _ h1, h2, fun i a r x y => e _ _ (h3 i a r x y)⟩
theorem NearAt.row {H : Hp} {p : Addr} {rows : List (List Int)} (h : NearAt H p rows) {i : Nat} {r : List Int} (hr : rows[i]? = some r) : ∃ (as : List Addr) (a : Addr), H p = some (.lst (as.map V.ref)) ∧ as[i]? = some a ∧ H a = some (.lst (r.map V.int)) := by
  obtain ⟨as, h1, h2, h3⟩ := h
  have hi : i < as.length := by
    have := (List.getElem?_eq_some_iff.mp hr).1
    omega
  exact ⟨as, as[i], h1, List.getElem?_eq_getElem hi, h3 i _ r (List.getElem?_eq_getElem hi) hr⟩
def OkTies (n : Int) (ts : List Tie) : Prop := ∀ t ∈ ts, 0 ≤ t.1 ∧ t.1 < n ∧ 0 ≤ t.2.1 ∧ t.2.1 < n ∧ t.1 ≠ t.2.1
def nearOf (n : Int) (ts : List Tie) : List (List Int) := (List.range n.toNat).map fun i : Nat => nbI ts (i : Int)
theorem nearOf_len (n : Int) (ts : List Tie) : (nearOf n ts).length = n.toNat := by unfold nearOf; rw [List.length_map, List.length_range]
theorem nearOf_at {n : Int} {ts : List Tie} {i : Nat} (h : i < n.toNat) : (nearOf n ts)[i]? = some (nbI ts (i : Int)) := by
  unfold nearOf
  rw [List.getElem?_map, List.getElem?_range h]
  rfl
def spNear (K : PySem.W.Frag) : Sp := fun vs H Q _ => ∃ n tv ts, vs = [.int n, tv] ∧ Im K H tv (tiesD ts) ∧ OkTies n ts ∧ 0 ≤ n ∧ n ≤ 10000 ∧ ts.length ≤ 50000 ∧ ∀ p H', H p = none → Same H H' → NearAt H' p (nearOf n ts) → Q (.ref p) H'
end NP
namespace NP
open PySem PySem.Spec PyProof.Rows L2
section
variable {K : PySem.W.Frag} {σ : L2.St} {H : Hp} {v : V} {a : Addr} {xs r : List V} {n : Nat} {Q : L2.St → Hp → Prop}
theorem w_gTup {t : TGs} (h : SqT K H a xs) (hl : xs.length = n) (q : t xs σ H Q) : gTup K n t (.ref a) σ H Q := ⟨a, xs, rfl, h, hl, q⟩
theorem w_gCons {t : TG} {u : TGs} (q : t v σ H fun σ' H' => u r σ' H' Q) : gCons t u (v :: r) σ H Q := ⟨v, r, rfl, q⟩
theorem w_gNil (q : Q σ H) : gNil [] σ H Q := ⟨rfl, q⟩
end
theorem Im.tup_inv {K : PySem.W.Frag} {H : Hp} {v : V} {ds : List Dd} (h : Im K H v (.t ds)) : ∃ a vs, v = .ref a ∧ SqT K H a vs ∧ ImL K H vs ds := by
  cases h with
  | t h hl => exact ⟨_, _, rfl, h, hl⟩
theorem Im.tie_inv {K : PySem.W.Frag} {H : Hp} {v : V} {t : Tie} (h : Im K H v (tieD t)) : ∃ a, v = .ref a ∧ SqT K H a [.int t.1, .int t.2.1, .int t.2.2] := by
  obtain ⟨a, vs, rfl, h1, h2⟩ := h.tup_inv
  have e := imL_ints_inv (ns := [t.1, t.2.1, t.2.2]) h2
  subst e
  exact ⟨a, rfl, h1⟩
end NP
namespace NP
open PySem PySem.Spec PyProof.Rows L2
/-! truth of a list; sets of a list's repetition -/
def tTruQ (K : PySem.W.Frag) (ta : TE) : TT := fun σ H Q => ta σ H fun x H' => ∃ k, TruV K x H' k ∧ Q k H'
theorem pt_truQ {X : Cx} {a : Expr} {ta : TE} (ha : PE X a ta) (he : ∀ whole, isTrue a X.env whole = (do let v ← whole; standAt a.pos; holding [v] (truthy v))) : PT X a (tTruQ X.K ta) := pt_truth ha he
section
variable {K : PySem.W.Frag} {σ : L2.St} {H : Hp} {l : Addr} {xs : List V}
theorem w_truQ {ta : TE} {Q : Bool → Hp → Prop} (q : ta σ H fun x H' => ∃ k, TruV K x H' k ∧ Q k H') : tTruQ K ta σ H Q := q
theorem w_truL {P : Bool → Prop} (h : H l = some (.lst xs)) (q : P (!xs.isEmpty)) : ∃ k, TruV K (.ref l) H k ∧ P k := ⟨_, .inl ⟨xs, SqL.of h, rfl⟩, q⟩
theorem w_rep {k : Int} {Q : VK} (h : H l = some (.lst xs)) (h0 : 0 ≤ k) (h1 : k ≤ 10000) (h2 : xs.length ≤ 1000) (q : ∀ p H', H p = none → Same H H' → H' p = some (.lst (List.replicate k.toNat xs).flatten) → Q (.ref p) H') : rRep (.ref l) (.int k) H Q := by
  refine ⟨l, k, xs, rfl, rfl, h, by omega, by omega, ?_, w_newL (Q := Q) q⟩
  have : xs.length * k.toNat ≤ 1000 * 10000 := Nat.mul_le_mul h2 (by omega)
  exact Nat.le_trans this (by decide)
end
theorem flat1 {α : Type} (n : Nat) (x : α) : (List.replicate n [x]).flatten = List.replicate n x := by
  induction n with
  | zero => rfl
  | succ n ih => rw [List.replicate_succ, List.flatten_cons, ih, List.replicate_succ]; rfl
end NP
namespace NP
open PySem PySem.Spec PyProof.Rows L2
theorem Kp.same {H H1 H2 : Hp} {f : Addr} (k : Kp f H1 H2) (e : Same H H1) (n : H f = none) : Same H H2 := fun a o h => k a o (ne_of_none h n) (e a o h)
theorem ints_at {xs : List Int} {i : Nat} {x : V} (h : (xs.map V.int)[i]? = some x) : ∃ z, xs[i]? = some z ∧ x = .int z := map_at h
theorem at_ints {xs : List Int} {i : Nat} {z : Int} (h : xs[i]? = some z) : (xs.map V.int)[i]? = some (.int z) := by rw [List.getElem?_map, h]; rfl
end NP
namespace NP
open PySem PySem.Spec PyProof.Rows L2
def ltDD : Dd → Dd → Bool | .i x, .i y => decide (x < y) | _, _ => false
def tieOkD (n : Int) : Dd → Bool
  | .t [a, b, w] => belowD n a && (belowD n b && (ltDD a b && belowD 1000 w))
  | _ => false
def spTie (K : PySem.W.Frag) : Sp := fun vs H Q _ => ∃ n x d, vs = [.int n, x] ∧ Im K H x d ∧ Q (.bl (tieOkD n d)) H
theorem belowD_int {k : Int} {d : Dd} (h : belowD k d = true) : ∃ n, d = .i n ∧ 0 ≤ n ∧ n < k := by
  cases d with
  | i n =>
    have h : (decide (0 ≤ n) && decide (n < k)) = true := h
    rw [Bool.and_eq_true] at h
    exact ⟨n, rfl, of_decide_eq_true h.1, of_decide_eq_true h.2⟩
  | _ => cases h
theorem belowD_of {k n : Int} (h0 : 0 ≤ n) (h1 : n < k) : belowD k (.i n) = true := by
  show (decide (0 ≤ n) && decide (n < k)) = true
  rw [decide_eq_true h0, decide_eq_true h1]; rfl
theorem tieOkD_inv {n : Int} {d : Dd} (h : tieOkD n d = true) : ∃ t : Tie, d = tieD t ∧ 0 ≤ t.1 ∧ t.1 < t.2.1 ∧ t.2.1 < n ∧ 0 ≤ t.2.2 ∧ t.2.2 < 1000 := by
  unfold tieOkD at h
  split at h
  · rename_i a b w
    rw [Bool.and_eq_true, Bool.and_eq_true, Bool.and_eq_true] at h
    obtain ⟨h1, h2, h3, h4⟩ := h
    obtain ⟨x, rfl, _, _⟩ := belowD_int h1
    obtain ⟨y, rfl, _, _⟩ := belowD_int h2
    obtain ⟨z, rfl, _, _⟩ := belowD_int h4
    exact ⟨(x, y, z), rfl, by assumption, of_decide_eq_true h3, by assumption, by assumption, by assumption⟩
  · cases h
/-- the number of the first tie that is none or not behind the one ahead -/
def fwt (n : Int) : Int → Int → Nat → List Dd → Option Nat
  | _, _, _, [] => none
  | pa, pb, k, d :: r => if tieOkD n d = true then (match d with
      | .t (.i a :: .i b :: _) => if HT.lexLt [pa, pb] [a, b] = true then fwt n a b (k + 1) r else some k
      | _ => some k) else some k
def spFwt (K : PySem.W.Frag) : Sp := fun vs H Q _ => ∃ n x ds, vs = [.int n, x] ∧ Im K H x (.t ds) ∧ ∀ H', Same H H' → Q (match fwt n (-1) (-1) 0 ds with | some k => .int (k : Int) | none => .non) H'
end NP
namespace NP
open PySem PySem.Spec PyProof.Rows L2
theorem len1 {α : Type} {l : List α} (h : l.length = 1) : ∃ a, l = [a] := by
  cases l with
  | nil => cases h
  | cons a l => cases l with
    | nil => exact ⟨a, rfl⟩
    | cons b l => simp at h
theorem len2 {α : Type} {l : List α} (h : l.length = 2) : ∃ a b, l = [a, b] := by
  cases l with
  | nil => cases h
  | cons a l =>
    obtain ⟨b, rfl⟩ := len1 (l := l) (by simpa using h)
    exact ⟨a, b, rfl⟩
theorem len3 {α : Type} {l : List α} (h : l.length = 3) : ∃ a b c, l = [a, b, c] := by
  cases l with
  | nil => cases h
  | cons a l =>
    obtain ⟨b, c, rfl⟩ := len2 (l := l) (by simpa using h)
    exact ⟨a, b, c, rfl⟩
section
variable {K : PySem.W.Frag} {H : Hp}
theorem ImL.cons_inv {v : V} {vs : List V} {ds : List Dd} (h : ImL K H (v :: vs) ds) : ∃ d r, ds = d :: r ∧ Im K H v d ∧ ImL K H vs r := by
  cases h with
  | cons a b => exact ⟨_, _, rfl, a, b⟩
theorem ImL.nil_inv {ds : List Dd} (h : ImL K H [] ds) : ds = [] := by
  cases h; rfl
theorem ImL.three {x1 x2 x3 : V} {ds : List Dd} (h : ImL K H [x1, x2, x3] ds) : ∃ d1 d2 d3, ds = [d1, d2, d3] ∧ Im K H x1 d1 ∧ Im K H x2 d2 ∧ Im K H x3 d3 := by
  obtain ⟨d1, r1, rfl, i1, h⟩ := h.cons_inv
  obtain ⟨d2, r2, rfl, i2, h⟩ := h.cons_inv
  obtain ⟨d3, r3, rfl, i3, h⟩ := h.cons_inv
  obtain rfl := h.nil_inv
  exact ⟨d1, d2, d3, rfl, i1, i2, i3⟩
end
theorem tieOkD_ne3 {n : Int} {ds : List Dd} (h : ds.length ≠ 3) : tieOkD n (.t ds) = false := by
  unfold tieOkD
  split
  · rename_i e
    injection e with e
    rw [e] at h
    exact absurd rfl h
  · rfl
end NP
namespace NP
open PySem PySem.Spec PyProof.Rows L2
section
variable {K : PySem.W.Frag} {H : Hp} {Q : VK} {p b : Addr} {x y z : V}
theorem w_sl2 (h : SqT K H p [x, y, z]) (q : ∀ a H', H a = none → Same H H' → H' a = some (.tup [x, y]) → Q (.ref a) H') : rSlT K (.ref p) none (some 2) H Q := by
  refine ⟨p, _, rfl, h, ?_, w_newT (Q := Q) fun a H' n s e => q a H' n s ?_⟩
  · intro z
    have : HT.sIx 3 3 (some 2) ≠ 3 := by decide
    exact this z.2
  · exact e
theorem w_le2 {a1 a2 b1 b2 : Int} (h : SqT K H p [.int a1, .int a2]) (h2 : SqT K H b [.int b1, .int b2]) (q : Q (.bl (!HT.lexLt [b1, b2] [a1, a2])) H) : rLeT K (.ref p) (.ref b) H Q := by
  refine ⟨p, b, [a1, a2], [b1, b2], rfl, rfl, h, h2, ?_⟩
  have e : Ob.lexAt (fun j => decide ([a1, a2].getD j 0 = [b1, b2].getD j 0)) (fun j => decide ([a1, a2].getD j 0 ≤ [b1, b2].getD j 0)) (decide ([a1, a2].length ≤ [b1, b2].length)) 0 (min [a1, a2].length [b1, b2].length) = !HT.lexLt [b1, b2] [a1, a2] := by
    show (if decide (a1 = b1) = true then (if decide (a2 = b2) = true then decide (2 ≤ 2) else decide (a2 ≤ b2)) else decide (a1 ≤ b1)) = !(if b1 = a1 then (if b2 = a2 then false else decide (b2 < a2)) else decide (b1 < a1))
    by_cases h1 : a1 = b1
    · subst h1
      by_cases h2 : a2 = b2
      · subst h2; simp
      · have : ¬ b2 = a2 := fun z => h2 z.symm
        simp only [decide_true, if_true, h2, decide_false, if_false, this]
        by_cases h3 : a2 ≤ b2
        · simp [h3, Int.not_lt.mpr h3]
        · have : b2 < a2 := by omega
          simp [h3, this]
    · have : ¬ b1 = a1 := fun z => h1 z.symm
      simp only [h1, decide_false, this, if_false]
      by_cases h3 : a1 ≤ b1
      · simp [h3, Int.not_lt.mpr h3]
      · have : b1 < a1 := by omega
        simp [h3, this]
  rw [e]
  exact q
end
theorem fwt_cons_bad {n pa pb : Int} {k : Nat} {d : Dd} {r : List Dd} (h : tieOkD n d = false) : fwt n pa pb k (d :: r) = some k := by
  unfold fwt
  rw [if_neg (by rw [h]; exact Bool.false_ne_true)]
theorem fwt_cons_tie {n pa pb : Int} {k : Nat} {t : Tie} {r : List Dd} (h : tieOkD n (tieD t) = true) : fwt n pa pb k (tieD t :: r) = if HT.lexLt [pa, pb] [t.1, t.2.1] = true then fwt n t.1 t.2.1 (k + 1) r else some k := by
  show fwt n pa pb k (.t [.i t.1, .i t.2.1, .i t.2.2] :: r) = _
  have h : tieOkD n (.t [.i t.1, .i t.2.1, .i t.2.2]) = true := h
  simp only [fwt, h, if_true]
end NP

set_option Elab.async false
set_option linter.all false
set_option maxRecDepth 100000
set_option maxHeartbeats 4000000
/-! for k, x in enumerate(t), t a tuple -/
namespace NP
open PySem PySem.Spec PyProof.Rows L2
/-- enumerate of whatever begins a walk, counted from nought -/
theorem enum1_new {v : Value} {o : Obj} {G : Heap → Prop} (B : Begins v o G) :
    Meets (Builtin.«enumerate.__new__» ⟨[.type "enumerate", v], []⟩) (fun _ R s => G s.heap ∧
      R (.ok (.ret (.ref (s.heap.push o).objs.size))) { s with heap := (s.heap.push o).push { cls := .type "enumerate", data := .fields #[.none, .bool false, .ref s.heap.objs.size, rawInt 0, .none, .none] } }) :=
  .of_wp fun prog w A R s hh => by
    obtain ⟨hp, g, d, tk, os⟩ := s
    obtain ⟨hg, hR⟩ := hh
    have hsub := sub_enumerate
    have step : ∀ {A' : Around} {E : Value → Shared → Prop} {Q : Value → Shared → Prop}, Q (.ref hp.objs.size) ⟨hp.push o, g, d, tk, os⟩ → wpAny (model prog w) A' (pyIter v) Q E ⟨hp, g, d, tk, os⟩ :=
      fun q => B.iter prog w _ _ ⟨hp, g, d, tk, os⟩ _ hg q
    wp_walk using step
    refine wpAny_stack_any fun st => wpAny_pure ?_
    split
    · rename_i c _ _ _ _ _
      cases (c == Value.type "enumerate") <;> (wp_walk using step) <;> exact ⟨_, rfl, hR⟩
    · wp_walk using step
      exact ⟨_, rfl, hR⟩
theorem enum1_begins {prog : Program} {w : World} {A : Around} {E : Value → Shared → Prop} {s : Shared} {v : Value} {o : Obj} {G : Heap → Prop} {Q : Value → Shared → Prop} (B : Begins v o G) (hg : G s.heap)
    (q : ∀ h', IsEnum h' (s.heap.objs.size + 1) s.heap.objs.size 0 .none → h'.get? s.heap.objs.size = some o → (∀ b ob, s.heap.get? b = some ob → h'.get? b = some ob) → Q (.ref (s.heap.objs.size + 1)) { s with heap := h' }) :
    wpAny (model prog w) A (call (.type "enumerate") [v]) Q E s := by
  refine callType_new F.called_enumerate (by decide) (F.typeCall_enumerate_1 _) (F.newCall_enumerate_1 _) (fun obj => F.args_object_init_2 obj _) F.entry_enumerate_new (enum1_new B) ⟨hg, ?_⟩
  have hz : (s.heap.push o).objs.size = s.heap.objs.size + 1 := Heap.size_push ..
  show _ ∧ _
  rw [hz]
  have he : IsEnum ((s.heap.push o).push { cls := .type "enumerate", data := .fields #[.none, .bool false, .ref s.heap.objs.size, rawInt 0, .none, .none] }) (s.heap.objs.size + 1) s.heap.objs.size 0 .none := by
    have e := Heap.get?_push_size (s.heap.push o) (o := { cls := .type "enumerate", data := .fields #[.none, .bool false, .ref s.heap.objs.size, rawInt 0, .none, .none] }) rfl
    rw [hz] at e
    exact e
  exact ⟨⟨_, he, rfl⟩, q _ he (Heap.get?_push_of_some _ (Heap.get?_push_size _ B.free)) fun b ob x => Heap.get?_push_of_some _ (Heap.get?_push_of_some _ x)⟩
/-- the tuple at a, each item in a new pair with its number -/
def IteT (K : PySem.W.Frag) (a : Addr) : It :=
  ⟨fun i H => ∃ (xs : List V) (x : V), SqT K H a xs ∧ xs[i]? = some x,
   fun i H v H' => ∃ T x, v = .ref T ∧ H T = none ∧ H' = upd H T (.tup [.int (i : Nat), x]) ∧ ∀ xs, SqT K H a xs → xs[i]? = some x,
   fun i H => ∃ xs : List V, SqT K H a xs ∧ xs.length ≤ i⟩
theorem turn_enumT {P : Program} {w : World} {K : PySem.W.Frag} {elts : List Expr} {kk : Nat} {tpos : Pos} (a e it : Addr) :
    Turn P w K (.Tuple elts kk tpos) (IteT K a) [e, it] e (fun i h => (∃ old, IsEnum h e it ((0 : Int) + (i : Nat)) old) ∧ h.IsTupleIter it a i ∧ e ≠ it ∧ a ≠ it ∧ a ≠ e) where
  mem := by simp
  obj := fun i h st b hb => by
    obtain ⟨⟨old, he⟩, ⟨o, ho, hc, hd⟩, _⟩ := st
    rcases (by simpa using hb : b = e ∨ b = it) with z | z
    · rw [z]; exact ⟨_, he, fun v q => nomatch q⟩
    · rw [z]; exact ⟨o, ho, fun v q => by rw [hd] at q; cases q⟩
  keep := fun i h h' st k => by
    obtain ⟨⟨old, he⟩, ⟨o, ho, hc, hd⟩, hne⟩ := st
    exact ⟨⟨old, k e (by simp) _ he⟩, ⟨o, k it (by simp) o ho, hc, hd⟩, hne⟩
  item := by
    intro X hP hw hK hc i pins s σ H E I hf st hg
    subst hP hw hK
    obtain ⟨he, hit, hne, hai, hae⟩ := st
    obtain ⟨xs, x, hq, hx⟩ := hg
    obtain ⟨its, rv, p, hz⟩ := I.tuple hq
    obtain ⟨u, hu, ru⟩ := rv.get hx
    have D := Draws.tuple (prog := X.prog) (w := X.w) (A := X.A.in1) (I.ok.hd hc) it a hai its.toArray
    have W := GoesN.enumFrom (A := X.A) (elts := elts) (x1 := kk) (pos := tpos) 0 D e hne (by simp only [List.mem_cons, List.not_mem_nil, or_false, not_or]; exact ⟨hne, hae.symm⟩) (by simp)
    have hin : i < its.toArray.size := by
      have := (List.getElem?_eq_some_iff.mp hu).1
      simpa using this
    refine wpAny_mono (W.goes i s (fun v s2 => ∃ (x : V) (H' : Hp), Inv X pins σ H' s2 ∧ RelV x v ∧ (IteT X.K a).yld i H x H' ∧ ((∃ old, IsEnum s2.heap e it ((0 : Int) + ((i + 1 : Nat) : Int)) old) ∧ s2.heap.IsTupleIter it a (i + 1) ∧ e ≠ it ∧ a ≠ it ∧ a ≠ e) ∧ ∀ b ∈ [e, it], H' b = none) E hin ⟨he, hit, p⟩ fun v h' tk hy hst hk _ => ?_) (fun r s1 hr => ?_) fun _ _ z => z
    · obtain ⟨T, t, y, rfl, hT, hiy, oT, hoT, hcT, nT, hdT⟩ := hy
      have ey : y = u := by
        have : its.toArray[i]? = some u := by simpa using hu
        rw [this] at hiy
        exact (Option.some.inj hiy).symm
      subst ey
      have new : ObjOk X.prog X.w (upd H T (.tup [.int (i : Nat), x])) h' T (.tup [.int (i : Nat), x]) :=
        ⟨by show 2 ≤ sizeLine; decide, [.int ((0 : Int) + (i : Int)) t, y], .cons ⟨t, by rw [Int.zero_add]⟩ (.cons ru .nil), ⟨oT, hoT, hcT, nT, hdT⟩⟩
      have I1 : Inv X pins σ (upd H T (.tup [.int (i : Nat), x])) { s with heap := h', toks := tk } := I.turnedNew (ch := [e, it]) hk hf hT new
      refine ⟨.ref T, _, I1, rfl, ⟨T, x, rfl, I.hok.fresh hT, rfl, fun ys hy => by rw [I.tuple_inj hy hq]; exact hx⟩, ⟨hst.1, hst.2.1, hne, hai, hae⟩, fun b hb => ?_⟩
      have hbT : b ≠ T := by
        intro z
        subst z
        rcases (by simpa using hb : b = e ∨ b = it) with z | z
        · obtain ⟨old, q⟩ := he
          subst z
          exact absurd (Heap.lt_size q) (Nat.not_lt.mpr hT)
        · obtain ⟨o, q, _⟩ := hit
          subst z
          exact absurd (Heap.lt_size q) (Nat.not_lt.mpr hT)
      rw [upd_ne hbT]
      exact (hf b hb).1
    · obtain ⟨v, hv, q⟩ := hr
      exact ⟨v, hv, q⟩
  done := by
    intro X hP hw hK hc i pins s σ H E I hf st hg
    subst hP hw hK
    obtain ⟨he, hit, hne, hai, hae⟩ := st
    obtain ⟨xs, hq, hx⟩ := hg
    obtain ⟨its, rv, p, hz⟩ := I.tuple hq
    obtain ⟨f0, f1, f2, f3, f4, f5⟩ := hf it (by simp)
    have hl := rv.length
    have hno : its.toArray[i]? = none := by
      rw [List.getElem?_toArray, List.getElem?_eq_none_iff]
      omega
    have D : Draws X.prog X.w X.A.in1 it [it, a] i (fun _ _ => True) (fun k h => k = i ∧ h.IsTupleIter it a i ∧ h.IsTuple a its.toArray) :=
      { live := fun _ _ st => let ⟨o, ho, _⟩ := st.2.1; ⟨o, ho⟩
        frame := fun _ _ _ st hk => ⟨st.1, st.2.1.at fun o e => hk it (by simp) o e, st.2.2.at fun o e => hk a (by simp) o e⟩
        item := fun k s Q E hi st _ => absurd st.1 (Nat.ne_of_lt hi)
        done := fun s Q E st hE => wpAny_nextOf_tuple_end (I.ok.hd hc) st.2.1 st.2.2 hno hE }
    have W := GoesN.enumFrom (A := X.A) (elts := elts) (x1 := kk) (pos := tpos) 0 D e hne (by simp only [List.mem_cons, List.not_mem_nil, or_false, not_or]; exact ⟨hne, hae.symm⟩) (by simp)
    exact W.stops s (fun s1 => Inv X pins σ H s1) E ⟨he, rfl, hit, p⟩ fun h' tk hk _ => I.turnedL (ch := [e, it]) hk hf
  self := fun A i s Q E st h => by
    obtain ⟨⟨_, he⟩, _⟩ := st
    exact wpAny_pyIter_enum he h
def rEnT (K : PySem.W.Frag) (vs : List V) (H : Hp) (R : It → Hp → Prop) : Prop := ∃ a xs, vs = [.ref a] ∧ SqT K H a xs ∧ R (IteT K a) H
def iEnumT (K : PySem.W.Frag) (ta : TA) : TI := fun σ H R => ta σ H fun vs H1 => rEnT K vs H1 R
theorem pi_enumT {X : Cx} {ex : Expr} {ta : TA} {p pos tpos : Pos} {elts : List Expr} {kk : Nat} (hg : Gl X "enumerate") (hm : X.mg "enumerate" = none) (ha : PA X [ex] ta) (hs : starEach [ex] X.env = [(false, eval ex X.env)] := by rfl) :
    PI X (.Tuple elts kk tpos) (.Call (.Name "enumerate" p) [ex] [] pos) (iEnumT X.K ta) := by
  refine ⟨fun pins s σ H R I h => ?_⟩
  refine Call_ (ld_blt I hg hm boot_enumerate (PyProof.Rows.callWith_type1 (thn (ha.run pos pins s σ H _ I h) fun us s1 ⟨vs, H1, I1, r1, q1⟩ => ?_) hs rfl))
  obtain ⟨a, xs, ea, hq, q⟩ := q1
  subst ea
  cases r1 with
  | cons r rr =>
    cases rr
    cases r
    obtain ⟨its, rv, pt, _⟩ := I1.tuple hq
    have ala : a < s1.heap.objs.size := let ⟨_, z, _⟩ := pt; Heap.lt_size z
    refine enum1_begins (begins_tuple a its.toArray) pt fun h' he hit hk => wpAny_pyIter_enum he ?_
    have I2 : Inv X pins σ H1 { s1 with heap := h' } := I1.kept (t' := s1.toks) hk
    refine ⟨s1.heap.objs.size + 1, [s1.heap.objs.size + 1, s1.heap.objs.size], _, _, H1, rfl, I2, turn_enumT a (s1.heap.objs.size + 1) s1.heap.objs.size, ⟨⟨.none, he⟩, ⟨_, hit, rfl, rfl⟩, Nat.succ_ne_self _, Nat.ne_of_lt ala, Nat.ne_of_lt (Nat.lt_succ_of_lt ala)⟩, fun b hb => ?_, q⟩
    have hle : s1.heap.objs.size ≤ b := by
      rcases (by simpa using hb : b = s1.heap.objs.size + 1 ∨ b = s1.heap.objs.size) with z | z
      · rw [z]; exact Nat.le_add_right _ _
      · rw [z]; exact Nat.le_refl _
    exact I1.fpOk hle (I1.hok.fresh hle)
theorem walk_enumT {K : PySem.W.Frag} {a : Addr} {xs : List V} : Walk (IteT K a) xs.length (fun H => SqT K H a xs) (YPair (fun i => some (.int (i : Nat))) (fun i => xs[i]?)) := by
  refine ⟨fun i _ hi q => ⟨xs, xs[i], q, by simp [hi]⟩, fun _ q => ⟨xs, q, Nat.le_refl _⟩, fun i H x H' _ q y => ?_⟩
  obtain ⟨T, z, e1, e2, e3, e4⟩ := y
  exact ⟨T, .int i, z, e1, e2, e3, rfl, e4 xs q⟩
theorem w_iEnumT {K : PySem.W.Frag} {σ : L2.St} {H : Hp} {tr : TA} {R : It → Hp → Prop} (q : tr σ H fun vs H1 => rEnT K vs H1 R) : iEnumT K tr σ H R := q
theorem w_enT {K : PySem.W.Frag} {H : Hp} {R : It → Hp → Prop} {a : Addr} {xs : List V} (h : SqT K H a xs) (q : R (IteT K a) H) : rEnT K [.ref a] H R := ⟨a, xs, rfl, h, q⟩
end NP

set_option Elab.async false
set_option linter.all false
set_option maxRecDepth 100000
set_option maxHeartbeats 4000000
/-! len(set(t)), t a tuple of ints -/
namespace NP
open PySem PySem.Spec PyProof.Rows L2
def rLenSetT (K : PySem.W.Frag) (x : V) (H : Hp) (Q : VK) : Prop := ∃ (l : Addr) (ns : List Int), x = .ref l ∧ SqT K H l (ns.map V.int) ∧ ns.length ≤ 4000 ∧ ∀ ks : List Int, ks.Nodup → (∀ k, k ∈ ks ↔ k ∈ ns) → Q (.int (ks.length : Nat)) H
def tLenSetT (K : PySem.W.Frag) (ta : TE) : TE := fun σ H Q => ta σ H fun x H1 => rLenSetT K x H1 Q
theorem pe_lenSetT {X : Cx} {a : Expr} {ta : TE} {p p2 q pos : Pos} (hg : Gl X "len") (hm : X.mg "len" = none) (hg2 : Gl X "set") (hm2 : X.mg "set" = none) (ha : PE X a ta) (hc : X.calm = true := by rfl)
    (na : starEach [a] X.env = (false, eval a X.env) :: starEach [] X.env := by rfl) : PE X (.Call (.Name "len" p) [.Call (.Name "set" p2) [a] [] q] [] pos) (tLenSetT X.K ta) := by
  refine ⟨fun pins s σ H Q I h => ?_⟩
  refine Call_ (ld_blt I hg hm boot_len (PyProof.Rows.callWith_builtin1 (PyProof.Rows.args_cons ?_ rfl) rfl rfl))
  refine Call_ (ld_blt I hg2 hm2 boot_set (PyProof.Rows.callWith_type1 (PyProof.Rows.args_cons (thn (ha.run pins s σ H _ I h) fun v s1 hv => PyProof.Rows.args_nil ?_) na) na rfl))
  obtain ⟨x, H1, I1, r1, l, ns, rfl, hq, hl, q1⟩ := hv
  cases r1
  obtain ⟨its, r, pt, hz⟩ := I1.tuple hq
  have hI : IntsAre its.toArray.toList ns := by simpa using RZ.intsAre_vals r
  refine call_set_tupI ns (I1.ok.hd hc) pt hI (by unfold scanBound; omega) fun h' tk c R hcn hk => PyProof.Rows.args_nil ?_
  obtain ⟨o, es, ep, t, ho, hex, hd, _, nd, hS, _, hf, hn, _⟩ := R
  have I2 : Inv X pins σ H1 { s1 with heap := h', toks := tk } := I1.kept fun b o e => hk b o e
  refine call_len_set ho hex hd hf (by omega) ⟨.int es.size, H1, I2.tok _, ⟨_, rfl⟩, ?_⟩
  have e := q1 (es.toList.map keyOf) nd fun k => by rw [← hS k]; simp
  have e2 : ((es.toList.map keyOf).length : Nat) = es.size := by rw [List.length_map, Array.length_toList]
  rw [e2] at e
  exact e
theorem w_lenSetT {K : PySem.W.Frag} {σ : L2.St} {H : Hp} {ta : TE} {Q : VK} (q : ta σ H fun x H1 => rLenSetT K x H1 Q) : tLenSetT K ta σ H Q := q
theorem nodup_len_le : ∀ {l D : List Int}, l.Nodup → (∀ x ∈ l, x ∈ D) → l.length ≤ D.length
  | [], _, _, _ => Nat.zero_le _
  | a :: r, D, nd, h => by
    have ha : a ∈ D := h a (List.mem_cons_self)
    have nd' := List.nodup_cons.mp nd
    have := nodup_len_le (l := r) (D := D.erase a) nd'.2 fun x hx => by
      have hxa : x ≠ a := fun z => nd'.1 (z ▸ hx)
      exact (List.mem_erase_of_ne hxa).mpr (h x (List.mem_cons_of_mem _ hx))
    rw [List.length_erase_of_mem ha] at this
    have hp : 0 < D.length := List.length_pos_of_mem ha
    show r.length + 1 ≤ _
    omega
theorem nodup_len_eq {l D : List Int} (h1 : l.Nodup) (h2 : D.Nodup) (h : ∀ x, x ∈ l ↔ x ∈ D) : l.length = D.length :=
  Nat.le_antisymm (nodup_len_le h1 fun x hx => (h x).mp hx) (nodup_len_le h2 fun x hx => (h x).mpr hx)
end NP

set_option linter.all false
/-! going round a web, step by step -/
namespace NP
/-- v stands in the row of u -/
def Adj (rows : List (List Int)) (u v : Nat) : Prop := ∃ r, rows[u]? = some r ∧ (v : Int) ∈ r
/-- v is come to from s over k ties at most -/
def Rch (rows : List (List Int)) (s : Nat) : Nat → Nat → Prop
  | 0, v => v = s
  | k + 1, v => Rch rows s k v ∨ ∃ u, Rch rows s k u ∧ Adj rows u v
def Dst (rows : List (List Int)) (s k v : Nat) : Prop := Rch rows s k v ∧ ∀ j, j < k → ¬ Rch rows s j v
section
variable {rows : List (List Int)} {s : Nat}
theorem Rch.mono {k j v : Nat} (h : Rch rows s k v) (hj : k ≤ j) : Rch rows s j v := by
  induction j with
  | zero =>
    have : k = 0 := by omega
    subst this; exact h
  | succ j ih =>
    by_cases e : k = j + 1
    · subst e; exact h
    · exact .inl (ih (by omega))
theorem Dst.uniq {k j v : Nat} (a : Dst rows s k v) (b : Dst rows s j v) : k = j := by
  rcases Nat.lt_trichotomy k j with h | h | h
  · exact absurd a.1 (b.2 k h)
  · exact h
  · exact absurd b.1 (a.2 j h)
theorem Rch.least : ∀ {k v : Nat}, Rch rows s k v → ∃ j, j ≤ k ∧ Dst rows s j v := by
  intro k
  induction k with
  | zero =>
    intro v h
    exact ⟨0, Nat.le_refl _, h, fun j hj => absurd hj (Nat.not_lt_zero _)⟩
  | succ k ih =>
    intro v h
    by_cases e : Rch rows s k v
    · obtain ⟨j, hj, d⟩ := ih e
      exact ⟨j, Nat.le_succ_of_le hj, d⟩
    · exact ⟨k + 1, Nat.le_refl _, h, fun j hj z => e (z.mono (by omega))⟩
/-- a new house of level k + 1 has a neighbour of level k -/
theorem Rch.front {k v : Nat} (h : Rch rows s (k + 1) v) (hn : ¬ Rch rows s k v) : ∃ u, Dst rows s k u ∧ Adj rows u v := by
  rcases h with h | ⟨u, hu, a⟩
  · exact absurd h hn
  · refine ⟨u, ⟨hu, fun j hj z => ?_⟩, a⟩
    have : Rch rows s (j + 1) v := .inr ⟨u, z, a⟩
    exact hn (this.mono (by omega))
theorem Dst.next {k v : Nat} : Dst rows s (k + 1) v ↔ ¬ Rch rows s k v ∧ ∃ u, Dst rows s k u ∧ Adj rows u v := by
  constructor
  · intro h
    exact ⟨h.2 k (by omega), h.1.front (h.2 k (by omega))⟩
  · rintro ⟨h1, u, h2, a⟩
    exact ⟨.inr ⟨u, h2.1, a⟩, fun j hj z => h1 (z.mono (by omega))⟩
theorem Rch.stable {k : Nat} (h : ∀ v, ¬ Dst rows s k v) : ∀ j v, Rch rows s j v → Rch rows s k v := by
  intro j
  induction j with
  | zero => intro v hv; exact Rch.mono (k := 0) hv (Nat.zero_le _)
  | succ j ih =>
    intro v hv
    by_cases e : Rch rows s k v
    · exact e
    · rcases hv with hv | ⟨u, hu, a⟩
      · exact ih v hv
      · obtain ⟨i, hi, d⟩ := (ih u hu).least
        have hik : i ≠ k := fun z => h u (z ▸ d)
        have : Rch rows s (i + 1) v := .inr ⟨u, d.1, a⟩
        exact this.mono (by omega)
end
/-- what the distances are -/
def FarOk (rows : List (List Int)) (s : Nat) (far : List Int) : Prop :=
  far.length = rows.length ∧ ∀ (v : Nat) (x : Int), far[v]? = some x → (∃ j : Nat, Dst rows s j v ∧ x = j) ∨ ((∀ j, ¬ Rch rows s j v) ∧ x = -1)
/-- ahead of, and within, a round: seen are the neighbours that were looked at -/
structure Mid (rows : List (List Int)) (s k : Nat) (seen far bey : List Int) : Prop where
  len : far.length = rows.length
  far : ∀ (v : Nat) (x : Int), far[v]? = some x → (∃ j : Nat, j ≤ k ∧ Dst rows s j v ∧ x = j) ∨ (¬ Rch rows s k v ∧ ((x = k + 1 ∧ (v : Int) ∈ seen) ∨ (x = -1 ∧ (v : Int) ∉ seen)))
  bey : ∀ z : Int, z ∈ bey ↔ z ∈ seen ∧ 0 ≤ z ∧ z < rows.length ∧ ¬ Rch rows s k z.toNat
def negs (far : List Int) : Nat := far.countP (fun x => decide (x < 0))
theorem negs_set {far : List Int} {n : Nat} {x y : Int} (h : far[n]? = some x) (hx : x < 0) (hy : 0 ≤ y) : negs (far.set n y) + 1 = negs far := by
  have hn : n < far.length := (List.getElem?_eq_some_iff.mp h).1
  have e : far[n] = x := (List.getElem?_eq_some_iff.mp h).2
  unfold negs
  rw [List.countP_set hn]
  have h1 : decide (far[n] < 0) = true := by rw [e]; exact decide_eq_true hx
  have h2 : decide (y < 0) = false := decide_eq_false (by omega)
  rw [h1, h2]
  have : 0 < far.countP (fun x => decide (x < 0)) := by
    rw [List.countP_pos_iff]
    exact ⟨far[n], List.getElem_mem hn, h1⟩
  simp only [if_true, if_false]
  simp
  omega
section
variable {rows : List (List Int)} {s k : Nat} {seen far bey : List Int}
theorem Mid.old (M : Mid rows s k seen far bey) {z x : Int} (h0 : 0 ≤ z) (hx : far[z.toNat]? = some x) (hn : 0 ≤ x) : Mid rows s k (seen ++ [z]) far bey := by
  have hz : Rch rows s k z.toNat ∨ z ∈ seen := by
    rcases M.far _ _ hx with ⟨j, hj, d, _⟩ | ⟨_, ⟨_, h⟩ | ⟨h, _⟩⟩
    · exact .inl (d.1.mono hj)
    · refine .inr ?_
      rwa [show ((z.toNat : Nat) : Int) = z by omega] at h
    · omega
  refine ⟨M.len, fun v y hv => ?_, fun w => ?_⟩
  · rcases M.far v y hv with h | ⟨h1, ⟨h2, h3⟩ | ⟨h2, h3⟩⟩
    · exact .inl h
    · exact .inr ⟨h1, .inl ⟨h2, List.mem_append_left _ h3⟩⟩
    · refine .inr ⟨h1, .inr ⟨h2, fun hm => ?_⟩⟩
      rcases List.mem_append.mp hm with hm | hm
      · exact h3 hm
      · have e : (v : Int) = z := by simpa using hm
        rcases hz with hz | hz
        · exact h1 (by rwa [show z.toNat = v by omega] at hz)
        · exact h3 (e ▸ hz)
  · rw [M.bey w]
    constructor
    · rintro ⟨a, b⟩
      exact ⟨List.mem_append_left _ a, b⟩
    · rintro ⟨a, b, c, d⟩
      rcases List.mem_append.mp a with a | a
      · exact ⟨a, b, c, d⟩
      · have e : w = z := by simpa using a
        subst e
        rcases hz with hz | hz
        · exact absurd hz d
        · exact ⟨hz, b, c, d⟩
theorem Mid.new (M : Mid rows s k seen far bey) {z x : Int} (h0 : 0 ≤ z) (hx : far[z.toNat]? = some x) (hn : x < 0) : Mid rows s k (seen ++ [z]) (far.set z.toNat ((k : Int) + 1)) (bey ++ [z]) := by
  have hl : z.toNat < far.length := (List.getElem?_eq_some_iff.mp hx).1
  have hz : ¬ Rch rows s k z.toNat := by
    rcases M.far _ _ hx with ⟨j, hj, d, e⟩ | ⟨h, _⟩
    · omega
    · exact h
  refine ⟨by rw [List.length_set, M.len], fun v y hv => ?_, fun w => ?_⟩
  · by_cases e : v = z.toNat
    · subst e
      rw [List.getElem?_set_self hl] at hv
      cases hv
      exact .inr ⟨hz, .inl ⟨rfl, List.mem_append_right _ (by simp; omega)⟩⟩
    · rw [List.getElem?_set_ne (Ne.symm e)] at hv
      rcases M.far v y hv with h | ⟨h1, ⟨h2, h3⟩ | ⟨h2, h3⟩⟩
      · exact .inl h
      · exact .inr ⟨h1, .inl ⟨h2, List.mem_append_left _ h3⟩⟩
      · refine .inr ⟨h1, .inr ⟨h2, fun hm => ?_⟩⟩
        rcases List.mem_append.mp hm with hm | hm
        · exact h3 hm
        · have : (v : Int) = z := by simpa using hm
          omega
  · rw [List.mem_append, M.bey w]
    have hz' : z < (rows.length : Int) := by rw [← M.len]; omega
    constructor
    · rintro (⟨a, b⟩ | a)
      · exact ⟨List.mem_append_left _ a, b⟩
      · have e : w = z := by simpa using a
        subst e
        exact ⟨List.mem_append_right _ (by simp), h0, hz', hz⟩
    · rintro ⟨a, b⟩
      rcases List.mem_append.mp a with a | a
      · exact .inl ⟨a, b⟩
      · exact .inr a
/-- the houses whose rows were looked at -/
theorem Mid.round {edge : List Int} (M : Mid rows s k (edge.flatMap fun u => rows.getD u.toNat []) far bey) (he : ∀ z : Int, z ∈ edge ↔ 0 ≤ z ∧ z < rows.length ∧ Dst rows s k z.toNat) :
    Mid rows s (k + 1) [] far [] ∧ ∀ z : Int, z ∈ bey ↔ 0 ≤ z ∧ z < rows.length ∧ Dst rows s (k + 1) z.toNat := by
  have key : ∀ v : Nat, (v : Int) ∈ edge.flatMap (fun u => rows.getD u.toNat []) ↔ ∃ u, Dst rows s k u ∧ Adj rows u v := by
    intro v
    rw [List.mem_flatMap]
    constructor
    · rintro ⟨u, hu, hv⟩
      obtain ⟨a, b, c⟩ := (he u).mp hu
      refine ⟨u.toNat, c, rows[u.toNat], List.getElem?_eq_getElem (by omega), ?_⟩
      rw [List.getD_eq_getElem?_getD, List.getElem?_eq_getElem (by omega)] at hv
      exact hv
    · rintro ⟨u, hu, r, hr, hv⟩
      have hl : u < rows.length := (List.getElem?_eq_some_iff.mp hr).1
      refine ⟨(u : Int), (he u).mpr ⟨by omega, by omega, by simpa using hu⟩, ?_⟩
      rw [List.getD_eq_getElem?_getD, show ((u : Int)).toNat = u by omega, hr]
      exact hv
  refine ⟨⟨M.len, fun v x hv => ?_, fun z => by simp⟩, fun z => ?_⟩
  · rcases M.far v x hv with ⟨j, hj, d, e⟩ | ⟨h1, ⟨h2, h3⟩ | ⟨h2, h3⟩⟩
    · exact .inl ⟨j, by omega, d, e⟩
    · exact .inl ⟨k + 1, Nat.le_refl _, Dst.next.mpr ⟨h1, (key v).mp h3⟩, by omega⟩
    · refine .inr ⟨fun z => h3 ((key v).mpr (z.front h1)), .inr ⟨h2, by simp⟩⟩
  · rw [M.bey z]
    constructor
    · rintro ⟨a, b, c, d⟩
      refine ⟨b, c, Dst.next.mpr ⟨d, (key _).mp ?_⟩⟩
      rwa [show ((z.toNat : Nat) : Int) = z by omega]
    · rintro ⟨a, b, c⟩
      obtain ⟨h1, h2⟩ := Dst.next.mp c
      refine ⟨?_, a, b, h1⟩
      have := (key z.toNat).mpr h2
      rwa [show ((z.toNat : Nat) : Int) = z by omega] at this
theorem Mid.fin (M : Mid rows s k [] far []) (he : ∀ z : Int, ¬ (0 ≤ z ∧ z < rows.length ∧ Dst rows s k z.toNat)) (hr : ∀ v, Rch rows s k v → v < rows.length) : FarOk rows s far := by
  have st : ∀ v, ¬ Dst rows s k v := fun v d => he v ⟨by omega, by have := hr v d.1; omega, by simpa using d⟩
  refine ⟨M.len, fun v x hv => ?_⟩
  rcases M.far v x hv with ⟨j, _, d, e⟩ | ⟨h1, ⟨_, h⟩ | ⟨h2, _⟩⟩
  · exact .inl ⟨j, d, e⟩
  · cases h
  · exact .inr ⟨fun j z => h1 (Rch.stable st j v z), h2⟩
end
theorem Rch.bound {rows : List (List Int)} {s : Nat} (hs : s < rows.length) (hr : ∀ r ∈ rows, ∀ x ∈ r, 0 ≤ x ∧ x < (rows.length : Int)) : ∀ k v, Rch rows s k v → v < rows.length := by
  intro k
  induction k with
  | zero => intro v h; cases h; exact hs
  | succ k ih =>
    intro v h
    rcases h with h | ⟨u, _, r, h1, h2⟩
    · exact ih v h
    · have := (hr r (List.mem_of_getElem? h1) _ h2).2
      omega
theorem Mid.start {rows : List (List Int)} {s : Nat} (hs : s < rows.length) : Mid rows s 0 [] ((List.replicate rows.length (-1)).set s 0) [] := by
  refine ⟨by simp, fun v x hv => ?_, fun z => by simp⟩
  by_cases e : v = s
  · subst e
    rw [List.getElem?_set_self (by simpa using hs)] at hv
    cases hv
    exact .inl ⟨0, Nat.le_refl _, ⟨rfl, fun j hj => absurd hj (Nat.not_lt_zero _)⟩, rfl⟩
  · rw [List.getElem?_set_ne (Ne.symm e)] at hv
    have : x = -1 := by
      rw [List.getElem?_replicate] at hv
      split at hv
      · exact (Option.some.inj hv).symm
      · cases hv
    exact .inr ⟨fun z => e z, .inr ⟨this, by simp⟩⟩
end NP

set_option Elab.async false
set_option linter.all false
set_option maxRecDepth 100000
set_option maxHeartbeats 4000000
/-! instances, webs -/
namespace NP
open PySem PySem.Spec PyProof.Rows L2
def rFldQ (K : PySem.W.Frag) (f : Str) (x : V) (H : Hp) (Q : VK) : Prop := ∃ a C dx fs v, x = .ref a ∧ H a = some (.ins C dx fs) ∧ Cls K C ∧ NoAttr K C f ∧ fs.lookup f = some v ∧ Q v H
def rPutQ (K : PySem.W.Frag) (f : Str) (x y : V) (H : Hp) (Q : Hp → Prop) : Prop := ∃ a C dx fs, x = .ref a ∧ H a = some (.ins C dx fs) ∧ Cls K C ∧ NoAttr K C f ∧ fs.length < 1000 ∧ Q (upd H a (.ins C dx (putF f y fs)))
section
variable {K : PySem.W.Frag} {σ : L2.St} {H : Hp} {Q : VK} {D : L2.Ends} {v x y : V} {ta tb tc tv : TE} {f : Str} {a C dx : Addr} {fs : List (Str × V)}
theorem w_fld (q : ta σ H fun x H1 => rFldQ K f x H1 Q) : tFld K ta f σ H Q := q
theorem w_fldH (h : H a = some (.ins C dx fs)) (c : Cls K C) (n : NoAttr K C f) (l : fs.lookup f = some v) (q : Q v H) : rFldQ K f (.ref a) H Q := ⟨a, C, dx, fs, v, rfl, h, c, n, l, q⟩
theorem w_sfld (q : tv σ H fun y H1 => ta σ H1 fun x H2 => rPutQ K f x y H2 (D.nx σ)) : sFld K ta tv f D σ H := q
theorem w_putH {Q : Hp → Prop} (h : H a = some (.ins C dx fs)) (c : Cls K C) (n : NoAttr K C f) (l : fs.length < 1000) (q : ∀ H', H' a = some (.ins C dx (putF f y fs)) → Kp a H H' → Q H') : rPutQ K f (.ref a) y H Q := ⟨a, C, dx, fs, rfl, h, c, n, l, q _ upd_same (Kp.upd _ _ _)⟩
theorem w_chain {r r' : R2} (q : ta σ H fun x H1 => tb σ H1 fun y H2 => r x y H2 fun z H3 => ∃ k, z = .bl k ∧ (if k = true then tc σ H3 fun w' H4 => r' y w' H4 Q else Q (.bl false) H3)) : tChain r r' ta tb tc σ H Q := q
theorem inV_ints (n : Int) (ns : List Int) : inV (.int n) (ns.map V.int) = ns.any fun z => z == n := by
  unfold inV
  rw [List.any_map]
  rfl
theorem flat_ints (ns : List Int) : (ns.map V.int).all flatV = true := by
  rw [List.all_map]
  exact List.all_eq_true.mpr fun _ _ => rfl
theorem w_inI {p : Addr} {n : Int} {ns : List Int} (h : H p = some (.lst (ns.map V.int))) (q : Q (.bl (ns.any fun z => z == n)) H) : rIn K false (.int n) (.ref p) H Q := by
  refine ⟨p, _, rfl, .inl (SqL.of h), rfl, flat_ints ns, ?_⟩
  show Q (.bl (inV (.int n) (ns.map V.int))) H
  rw [inV_ints]
  exact q
theorem w_inT {p : Addr} {n : Int} {ns : List Int} (h : SqT K H p (ns.map V.int)) (q : Q (.bl (ns.any fun z => z == n)) H) : rIn K false (.int n) (.ref p) H Q := by
  refine ⟨p, _, rfl, .inr h, rfl, flat_ints ns, ?_⟩
  show Q (.bl (inV (.int n) (ns.map V.int))) H
  rw [inV_ints]
  exact q
end
/-- what isinstance asks of an own class -/
structure TyI (K : PySem.W.Frag) (C : Addr) : Prop where
  ha : PySem.W.findIn K (.ref C) "__class__" = some (some (.builtin "object.__class__"))
  hn : PySem.W.specialIn K (.builtin "object.__class__") "__get__" = some (some (.builtin "getset_descriptor.__get__"))
  ht : PySem.W.takesIn K (.builtin "object.__class__") = some true
  hm : PySem.W.mroIn K C (.type "object") = some true
/-! webs -/
/-- each house is come to from the first one -/
def Joined (n : Nat) (ts : List Tie) : Prop := ∀ v, v < n → ∃ k, Rch (nearOf n ts) 0 k v
/-- ties ascending by their pairs -/
def AscT (ts : List Tie) : Prop := ts.Pairwise fun t u => HT.lexLt [t.1, t.2.1] [u.1, u.2.1] = true
structure TiesOk (n : Nat) (ts : List Tie) : Prop where
  rng : ∀ t ∈ ts, 0 ≤ t.1 ∧ t.1 < t.2.1 ∧ t.2.1 < n ∧ 0 ≤ t.2.2 ∧ t.2.2 < 1000
  asc : AscT ts
  len : ts.length ≤ 20000
theorem TiesOk.ok {n : Nat} {ts : List Tie} (h : TiesOk n ts) : OkTies n ts := fun t ht => by
  obtain ⟨a, b, c, _⟩ := h.rng t ht
  exact ⟨a, by omega, by omega, c, by omega⟩
theorem tieOkD_of {n : Int} {t : Tie} (h : 0 ≤ t.1 ∧ t.1 < t.2.1 ∧ t.2.1 < n ∧ 0 ≤ t.2.2 ∧ t.2.2 < 1000) : tieOkD n (tieD t) = true := by
  show (belowD n (.i t.1) && (belowD n (.i t.2.1) && (decide (t.1 < t.2.1) && belowD 1000 (.i t.2.2)))) = true
  rw [belowD_of (by omega) (by omega), belowD_of (by omega) (by omega), belowD_of (by omega) (by omega), decide_eq_true (by omega)]
  rfl
theorem fwt_none {n : Int} : ∀ (ts : List Tie) (pa pb : Int) (k : Nat), (∀ t ∈ ts, 0 ≤ t.1 ∧ t.1 < t.2.1 ∧ t.2.1 < n ∧ 0 ≤ t.2.2 ∧ t.2.2 < 1000) → AscT ts → (∀ t ∈ ts, HT.lexLt [pa, pb] [t.1, t.2.1] = true) → fwt n pa pb k (ts.map tieD) = none
  | [], _, _, _, _, _, _ => rfl
  | t :: r, pa, pb, k, h1, h2, h3 => by
    have h2' := List.pairwise_cons.mp h2
    rw [List.map_cons, fwt_cons_tie (tieOkD_of (h1 t List.mem_cons_self)), if_pos (h3 t List.mem_cons_self)]
    exact fwt_none r t.1 t.2.1 (k + 1) (fun u hu => h1 u (List.mem_cons_of_mem _ hu)) h2'.2 h2'.1
theorem TiesOk.fwt {n : Nat} {ts : List Tie} (h : TiesOk n ts) : fwt n (-1) (-1) 0 (ts.map tieD) = none :=
  fwt_none ts _ _ _ h.rng h.asc fun t ht => by
    have := h.rng t ht
    show (if (-1 : Int) = t.1 then _ else decide ((-1 : Int) < t.1)) = true
    rw [if_neg (by omega)]
    exact decide_eq_true (by omega)
def signsD (ss : List Int) : Dd := .t (ss.map Dd.i)
/-- a web's object -/
def WebAt (K : PySem.W.Frag) (C : Addr) (H : Hp) (v : V) (ss : List Int) (ts : List Tie) : Prop := ∃ a dx sv tv, v = .ref a ∧ H a = some (.ins C dx [("signs", sv), ("ties", tv), ("many", .int (ss.length : Nat))]) ∧ Im K H sv (signsD ss) ∧ Im K H tv (tiesD ts)
theorem WebAt.same {K : PySem.W.Frag} {C : Addr} {H H' : Hp} {v : V} {ss : List Int} {ts : List Tie} (e : Same H H') (h : WebAt K C H v ss ts) : WebAt K C H' v ss ts := by
  obtain ⟨a, dx, sv, tv, h1, h2, h3, h4⟩ := h
  exact ⟨a, dx, sv, tv, h1, e _ _ h2, h3.same e, h4.same e⟩
structure WebOk (ss : List Int) (ts : List Tie) : Prop where
  one : 1 ≤ ss.length
  most : ss.length ≤ 16
  sgn : ∀ s ∈ ss, 0 ≤ s ∧ s < 4
  ties : TiesOk ss.length ts
  join : Joined ss.length ts
/-- __init__ of parts that make a web -/
def spWebI (K : PySem.W.Frag) (C : Addr) : Sp := fun vs H Q _ => ∃ a dx sv tv ss ts, vs = [.ref a, sv, tv] ∧ H a = some (.ins C dx []) ∧ Im K H sv (signsD ss) ∧ Im K H tv (tiesD ts) ∧ WebOk ss ts ∧
  ∀ H', Kp a H H' → H' a = some (.ins C dx [("signs", sv), ("ties", tv), ("many", .int (ss.length : Nat))]) → Q .non H'
theorem nearOf_ok {n : Nat} {ts : List Tie} (h : OkTies n ts) (hl : ts.length ≤ 50000) : ∀ r ∈ nearOf (n : Int) ts, r.length ≤ 50000 ∧ ∀ x ∈ r, 0 ≤ x ∧ x < ((nearOf (n : Int) ts).length : Int) := by
  intro r hr
  obtain ⟨i, _, rfl⟩ := List.mem_map.mp hr
  refine ⟨Nat.le_trans (nbI_len _ _) hl, fun x hx => ?_⟩
  rw [nearOf_len]
  obtain ⟨t, ht, hx⟩ := List.mem_flatMap.mp hx
  obtain ⟨a, b, c, d, _⟩ := h t ht
  unfold nbOf at hx
  split at hx
  · have : x = t.2.1 := by simpa using hx
    subst this; omega
  · split at hx
    · have : x = t.1 := by simpa using hx
      subst this; omega
    · cases hx
theorem FarOk.all {n : Nat} {ts : List Tie} {far : List Int} (h : FarOk (nearOf n ts) 0 far) (j : Joined n ts) : (far.any fun z => z == -1) = false := by
  rw [List.any_eq_false]
  intro z hz
  obtain ⟨v, hv, e⟩ := List.mem_iff_getElem.mp hz
  have hvn : v < n := by
    have := h.1
    rw [nearOf_len] at this
    omega
  rcases h.2 v z (by rw [List.getElem?_eq_getElem hv, e]) with ⟨k, _, e2⟩ | ⟨h2, _⟩
  · intro z
    have : z = z := rfl
    rw [beq_iff_eq] at z
    omega
  · obtain ⟨k, hk⟩ := j v hvn
    exact absurd hk (h2 k)
end NP
namespace NP
open PySem PySem.Spec PyProof.Rows L2
/-- a tuple stays where something else changes -/
theorem Kp.tupI {K : PySem.W.Frag} {h : Addr} {H H' : Hp} {a : Addr} {xs : List V} {C dx : Addr} {fs : List (Str × V)} (e : Kp h H H') (hh : H h = some (.ins C dx fs)) (s : SqT K H a xs) : SqT K H' a xs := by
  rcases s with (s | ⟨o, s⟩) | s
  · exact .inl (.inl (e _ _ (fun z => by rw [z, hh] at s; cases s) s))
  · exact .inl (.inr ⟨o, e _ _ (fun z => by rw [z, hh] at s; cases s) s⟩)
  · exact .inr s
theorem Kp.tupL {K : PySem.W.Frag} {h : Addr} {H H' : Hp} {a : Addr} {xs ys : List V} (e : Kp h H H') (hh : H h = some (.lst ys)) (s : SqT K H a xs) : SqT K H' a xs := by
  rcases s with (s | ⟨o, s⟩) | s
  · exact .inl (.inl (e _ _ (fun z => by rw [z, hh] at s; cases s) s))
  · exact .inl (.inr ⟨o, e _ _ (fun z => by rw [z, hh] at s; cases s) s⟩)
  · exact .inr s
end NP
namespace NP
open PySem PySem.Spec PyProof.Rows L2
section
variable {K : PySem.W.Frag}
def spNearL (K : PySem.W.Frag) (C : Addr) : Sp := fun vs H Q _ => ∃ v ss ts, vs = [v] ∧ WebAt K C H v ss ts ∧ OkTies ss.length ts ∧ ss.length ≤ 10000 ∧ ts.length ≤ 50000 ∧ ∀ p H', H p = none → Same H H' → NearAt H' p (nearOf ss.length ts) → Q (.ref p) H'
def spNeigh (K : PySem.W.Frag) (C : Addr) : Sp := fun vs H Q _ => ∃ v ss ts h, vs = [v, .int h] ∧ WebAt K C H v ss ts ∧ OkTies ss.length ts ∧ ss.length ≤ 10000 ∧ ts.length ≤ 50000 ∧ 0 ≤ h ∧ h < ss.length ∧
  ∀ p H', H p = none → Same H H' → H' p = some (.tup ((nbI ts h).map V.int)) → Q (.ref p) H'
def spDist (K : PySem.W.Frag) (C : Addr) : Sp := fun vs H Q _ => ∃ v ss ts h, vs = [v, .int h] ∧ WebAt K C H v ss ts ∧ OkTies ss.length ts ∧ ss.length ≤ 10000 ∧ ts.length ≤ 50000 ∧ 0 ≤ h ∧ h < ss.length ∧
  ∀ p H' far, H p = none → Same H H' → FarOk (nearOf ss.length ts) h.toNat far → H' p = some (.tup (far.map V.int)) → Q (.ref p) H'
def isRing (n : Nat) (ts : List Tie) : Bool := decide (3 ≤ n) && (nearOf n ts).all fun r => decide (r.length = 2)
def kindS (n : Nat) (ts : List Tie) : Str := if ts.length + 1 = n then "tree" else if isRing n ts = true then "ring" else "other"
def spKind (K : PySem.W.Frag) (C : Addr) : Sp := fun vs H Q _ => ∃ v ss ts, vs = [v] ∧ WebAt K C H v ss ts ∧ OkTies ss.length ts ∧ ss.length ≤ 10000 ∧ ts.length ≤ 50000 ∧ ∀ H', Same H H' → Q (.str (kindS ss.length ts)) H'
def spSlim (K : PySem.W.Frag) (C : Addr) : Sp := fun vs H Q _ => ∃ v ss ts, vs = [v] ∧ WebAt K C H v ss ts ∧ OkTies ss.length ts ∧ ss.length ≤ 10000 ∧ ts.length ≤ 50000 ∧ ∀ H', Same H H' → Q (.bl ((nearOf ss.length ts).all fun r => decide (r.length ≤ 3))) H'
def joinT (a b w : Int) : Tie := (min a b, max a b, w)
def spJoin : Sp := fun vs H Q _ => ∃ a b w, vs = [.int a, .int b, .int w] ∧ ∀ p H', H p = none → Same H H' → H' p = some (.tup [.int (min a b), .int (max a b), .int w]) → Q (.ref p) H'
end
/-- all rows of a list of lists, one after the other -/
theorem NearAt.all {H : Hp} {p : Addr} {rows : List (List Int)} (h : NearAt H p rows) : ∃ ads : List Addr, H p = some (.lst (ads.map V.ref)) ∧ ads.length = rows.length ∧ ∀ (i : Nat) (x : V), (ads.map V.ref)[i]? = some x → ∃ a r, x = .ref a ∧ rows[i]? = some r ∧ H a = some (.lst (r.map V.int)) := by
  obtain ⟨ads, h1, h2, h3⟩ := h
  refine ⟨ads, h1, h2, fun i x hx => ?_⟩
  obtain ⟨a, ha, rfl⟩ := map_at hx
  have hi : i < rows.length := by
    have := (List.getElem?_eq_some_iff.mp ha).1
    omega
  exact ⟨a, rows[i], rfl, List.getElem?_eq_getElem hi, h3 i a _ ha (List.getElem?_eq_getElem hi)⟩
theorem min_if (i j : Int) : (if j < i then j else i) = min i j := by
  by_cases h : j < i
  · rw [if_pos h]; omega
  · rw [if_neg h]; omega
theorem max_if (i j : Int) : (if j > i then j else i) = max i j := by
  by_cases h : j > i
  · rw [if_pos h]; omega
  · rw [if_neg h]; omega
end NP
namespace NP
open PySem PySem.Spec PyProof.Rows L2
/-! the rules with the written part named, for use within comprehensions -/
section
variable {X : Cx} (K : PySem.W.Frag)
theorem kix_list (h : X.K = K := by rfl) : IxR X (rIxL K) := by subst h; exact ix_list
theorem kix_tup (h : X.K = K := by rfl) : IxR X (rIxT K) := by subst h; exact ix_tup
theorem ksl_list (h : X.K = K := by rfl) : SlR X (rSlL K) := by subst h; exact sl_list
theorem ksl_tup (h : X.K = K := by rfl) : SlR X (rSlT K) := by subst h; exact sl_tup
theorem kcall_len (h : X.K = K := by rfl) : CallR X (.builtin "len") (rLenQ K) := by subst h; exact callQ_len
theorem kcall_list (h : X.K = K := by rfl) : CallR X (.type "list") (rListQ K) := by subst h; exact callQ_list
theorem kcall_tuple (h : X.K = K := by rfl) : CallR X (.type "tuple") (rTupQ K) := by subst h; exact callQ_tuple
theorem kcall_isi (h : X.K = K := by rfl) : CallR X (.builtin "isinstance") (rIsi K) := by subst h; exact call_isi
theorem kcall_isiT (h : X.K = K := by rfl) : CallR X (.builtin "isinstance") (rIsiT K) := by subst h; exact call_isiT
theorem kcall_all (hc : X.calm = true) (h : X.K = K := by rfl) : CallR X (.builtin "all") (rAll K) := by subst h; exact cr_all hc
theorem kcall_any (hc : X.calm = true) (h : X.K = K := by rfl) : CallR X (.builtin "any") (rAny K) := by subst h; exact cr_any hc
theorem kop_in (h : X.K = K := by rfl) : OpR X (compareOp .In) (rIn K false) := by subst h; exact op_in_seq
theorem kop_notin (h : X.K = K := by rfl) : OpR X (compareOp .NotIn) (rIn K true) := by subst h; exact op_notIn_seq
theorem kpe_fld {e : Expr} {ta : TE} {f : Str} {pos : Pos} (he : PE X e ta) (hb : attributeBase e f X.env (eval e X.env) = eval e X.env) (h : X.K = K := by rfl) : PE X (.Attribute e f pos) (tFld K ta f) := by subst h; exact pe_fld he hb
theorem kpi_list {tg l : Expr} {tl : TE} (hl : PE X l tl) (h : X.K = K := by rfl) : PI X tg l (iList K tl) := by subst h; exact pi_list hl
theorem kpi_tup {tg l : Expr} {tl : TE} (hl : PE X l tl) (h : X.K = K := by rfl) : PI X tg l (iTup K tl) := by subst h; exact pi_tup hl
theorem kpg_tup {es : List Expr} {k : Nat} {t : TGs} {n : Nat} {pos : Pos} (hc : X.calm = true) (h : PGs X es t) (hn : (assignEach es X.env).length = n := by rfl) (hst : (assignEach es X.env).findIdx? (·.1) = none := by rfl) (hK : X.K = K := by rfl) : PG X (.Tuple es k pos) (gTup K n t) := by subst hK; exact pg_tup hc h hn hst
end
end NP

set_option Elab.async false
set_option linter.all false
set_option maxRecDepth 100000
set_option maxHeartbeats 4000000
/-! sorted ties, houses called otherwise -/
namespace NP
open PySem PySem.Spec PyProof.Rows L2
/-- two lists in order by a key that parts their items are one, if each is the other one's rearrangement -/
theorem order_one {α : Type} (f : α → Int) : ∀ {l m : List α}, l.Perm m → l.Pairwise (fun a b => f a ≤ f b) → m.Pairwise (fun a b => f a ≤ f b) → (∀ a ∈ l, ∀ b ∈ l, f a = f b → a = b) → l = m
  | [], m, p, _, _, _ => (List.nil_perm.mp p).symm ▸ rfl
  | a :: l, [], p, _, _, _ => absurd p.symm (by intro h; cases List.nil_perm.mp h)
  | a :: l, b :: m, p, hl, hm, inj => by
    have ha : a ∈ b :: m := p.mem_iff.mp List.mem_cons_self
    have hb : b ∈ a :: l := p.mem_iff.mpr List.mem_cons_self
    have h1 := List.pairwise_cons.mp hl
    have h2 := List.pairwise_cons.mp hm
    have e : a = b := by
      rcases List.mem_cons.mp ha with e | e
      · exact e
      · rcases List.mem_cons.mp hb with e' | e'
        · exact e'.symm
        · exact inj a List.mem_cons_self b hb (Int.le_antisymm (h1.1 b e') (h2.1 a e))
    subst e
    congr 1
    exact order_one f (List.Perm.cons_inv p) h1.2 h2.2 fun x hx y hy => inj x (List.mem_cons_of_mem _ hx) y (List.mem_cons_of_mem _ hy)
/-- data follow a rearrangement -/
theorem imL_perm {K : PySem.W.Frag} {H : Hp} : ∀ {xs ys : List V} {ds : List Dd}, ys.Perm xs → ImL K H xs ds → ∃ es, es.Perm ds ∧ ImL K H ys es := by
  intro xs ys ds p
  induction p generalizing ds with
  | nil => intro h; exact ⟨ds, List.Perm.refl _, h⟩
  | cons x _ ih =>
    intro h
    obtain ⟨d, r, rfl, h1, h2⟩ := h.cons_inv
    obtain ⟨es, p, q⟩ := ih h2
    exact ⟨d :: es, p.cons d, .cons h1 q⟩
  | swap x y l =>
    intro h
    obtain ⟨d, r, rfl, h1, h2⟩ := h.cons_inv
    obtain ⟨e, r, rfl, h3, h4⟩ := h2.cons_inv
    exact ⟨e :: d :: r, List.Perm.swap _ _ _, .cons h3 (.cons h1 h4)⟩
  | trans _ _ ih1 ih2 =>
    intro h
    obtain ⟨es, p, q⟩ := ih2 h
    obtain ⟨fs, p2, q2⟩ := ih1 q
    exact ⟨fs, p2.trans p, q2⟩
theorem perm_map_inv {α β : Type} {f : α → β} : ∀ {es : List β} {ts : List α}, es.Perm (ts.map f) → ∃ us : List α, us.Perm ts ∧ es = us.map f := by
  intro es ts p
  generalize hm : ts.map f = m at p
  induction p generalizing ts with
  | nil =>
    have : ts = [] := by simpa using hm
    subst this
    exact ⟨[], List.Perm.refl _, rfl⟩
  | cons x _ ih =>
    cases ts with
    | nil => cases hm
    | cons t ts =>
      rw [List.map_cons] at hm
      injection hm with h1 h2
      obtain ⟨us, p, e⟩ := ih h2
      exact ⟨t :: us, p.cons t, by rw [List.map_cons, h1, e]⟩
  | swap x y l =>
    cases ts with
    | nil => cases hm
    | cons t ts =>
      cases ts with
      | nil => rw [List.map_cons] at hm; injection hm with _ h; cases h
      | cons u ts =>
        rw [List.map_cons, List.map_cons] at hm
        injection hm with h1 h2
        injection h2 with h2 h3
        exact ⟨u :: t :: ts, List.Perm.swap _ _ _, by rw [List.map_cons, List.map_cons, h1, h2, h3]⟩
  | trans _ _ ih1 ih2 =>
    obtain ⟨us, p, e⟩ := ih2 hm
    obtain ⟨vs, p2, e2⟩ := ih1 e.symm
    exact ⟨vs, p2.trans p, e2⟩
/-- the order of ties as sorted has it -/
def tkey (t : Tie) : Int := TS.code 1000 [t.1, t.2.1, t.2.2]
theorem tkey_eq (t : Tie) : tkey t = t.1 * 1000000 + (t.2.1 * 1000 + (t.2.2 * 1 + 0)) := by
  show t.1 * (1000 : Int) ^ 2 + (t.2.1 * (1000 : Int) ^ 1 + (t.2.2 * (1000 : Int) ^ 0 + 0)) = _
  rw [show (1000 : Int) ^ 2 = 1000000 by decide, show (1000 : Int) ^ 1 = 1000 by decide, show (1000 : Int) ^ 0 = 1 by decide]
def Small (t : Tie) : Prop := 0 ≤ t.1 ∧ t.1 < 1000 ∧ 0 ≤ t.2.1 ∧ t.2.1 < 1000 ∧ 0 ≤ t.2.2 ∧ t.2.2 < 1000
theorem tkey_inj {t u : Tie} (ht : Small t) (hu : Small u) (h : tkey t = tkey u) : t = u := by
  obtain ⟨a, b, c⟩ := t
  obtain ⟨d, e, f⟩ := u
  obtain ⟨h1, h2, h3, h4, h5, h6⟩ := ht
  obtain ⟨g1, g2, g3, g4, g5, g6⟩ := hu
  rw [tkey_eq, tkey_eq] at h
  dsimp only at *
  have : a = d ∧ b = e ∧ c = f := by omega
  obtain ⟨rfl, rfl, rfl⟩ := this
  rfl
def SortT (ts : List Tie) : Prop := ts.Pairwise fun t u => tkey t ≤ tkey u
theorem AscT.sort {ts : List Tie} (h : AscT ts) (s : ∀ t ∈ ts, Small t) : SortT ts := by
  refine List.Pairwise.imp_of_mem (fun {t u} ht hu hlt => ?_) h
  obtain ⟨a1, a2, a3, a4, a5, a6⟩ := s t ht
  obtain ⟨b1, b2, b3, b4, b5, b6⟩ := s u hu
  rw [tkey_eq, tkey_eq]
  have hlt : (if t.1 = u.1 then (if t.2.1 = u.2.1 then false else decide (t.2.1 < u.2.1)) else decide (t.1 < u.1)) = true := hlt
  by_cases e : t.1 = u.1
  · rw [if_pos e] at hlt
    by_cases e2 : t.2.1 = u.2.1
    · rw [if_pos e2] at hlt; cases hlt
    · rw [if_neg e2] at hlt
      have := of_decide_eq_true hlt
      omega
  · rw [if_neg e] at hlt
    have := of_decide_eq_true hlt
    omega
theorem sortT_one {l m : List Tie} (p : l.Perm m) (hl : SortT l) (hm : SortT m) (s : ∀ t ∈ l, Small t) : l = m :=
  order_one tkey p hl hm fun a ha b hb => tkey_inj (s a ha) (s b hb)
/-! houses called otherwise -/
structure OrdOk (n : Nat) (ord : List Int) : Prop where
  len : ord.length = n
  nd : ord.Nodup
  rng : ∀ x ∈ ord, 0 ≤ x ∧ x < n
def atZ (ord : List Int) (a : Int) : Int := ord.getD a.toNat 0
def mapT (ord : List Int) (t : Tie) : Tie := joinT (atZ ord t.1) (atZ ord t.2.1) t.2.2
structure Ren (n : Nat) (ord ss : List Int) (ts : List Tie) (ss' : List Int) (ts' : List Tie) : Prop where
  len : ss'.length = n
  sgn : ∀ k, k < n → ss'[(atZ ord k).toNat]? = ss[k]?
  perm : ts'.Perm (ts.map (mapT ord))
  sort : SortT ts'
theorem OrdOk.at {n : Nat} {ord : List Int} (h : OrdOk n ord) {k : Nat} (hk : k < n) : ∃ z, ord[k]? = some z ∧ atZ ord k = z ∧ 0 ≤ z ∧ z < n := by
  have hl : k < ord.length := by rw [h.len]; exact hk
  refine ⟨ord[k], List.getElem?_eq_getElem hl, ?_, h.rng _ (List.getElem_mem hl)⟩
  unfold atZ
  rw [List.getD_eq_getElem?_getD, show ((k : Nat) : Int).toNat = k by omega, List.getElem?_eq_getElem hl]
  rfl
theorem OrdOk.atI {n : Nat} {ord : List Int} (h : OrdOk n ord) {a : Int} (h0 : 0 ≤ a) (h1 : a < n) : ord[a.toNat]? = some (atZ ord a) ∧ 0 ≤ atZ ord a ∧ atZ ord a < n := by
  obtain ⟨z, e1, e2, e3, e4⟩ := h.at (k := a.toNat) (by omega)
  have e : ((a.toNat : Nat) : Int) = a := by omega
  rw [e] at e2
  subst e2
  exact ⟨e1, e3, e4⟩
theorem OrdOk.inj {n : Nat} {ord : List Int} (h : OrdOk n ord) {a b : Int} (a0 : 0 ≤ a) (a1 : a < n) (b0 : 0 ≤ b) (b1 : b < n) (e : atZ ord a = atZ ord b) : a = b := by
  obtain ⟨e1, _⟩ := h.atI a0 a1
  obtain ⟨e2, _⟩ := h.atI b0 b1
  rw [e] at e1
  obtain ⟨l1, g1⟩ := List.getElem?_eq_some_iff.mp e1
  obtain ⟨l2, g2⟩ := List.getElem?_eq_some_iff.mp e2
  have := (List.getElem_inj h.nd).mp (g1.trans g2.symm)
  omega
/-- every house is called once -/
theorem OrdOk.surj {n : Nat} {ord : List Int} (h : OrdOk n ord) {v : Nat} (hv : v < n) : ∃ k, k < n ∧ atZ ord k = v := by
  have : (v : Int) ∈ ord := by
    by_cases hm : (v : Int) ∈ ord
    · exact hm
    · exfalso
      have h1 := nodup_len_le (l := (v : Int) :: ord) (D := (List.range n).map fun i : Nat => (i : Int)) (List.nodup_cons.mpr ⟨hm, h.nd⟩) fun x hx => by
        rcases List.mem_cons.mp hx with e | e
        · subst e; exact List.mem_map.mpr ⟨v, List.mem_range.mpr hv, rfl⟩
        · obtain ⟨a, b⟩ := h.rng x e
          exact List.mem_map.mpr ⟨x.toNat, List.mem_range.mpr (by omega), by omega⟩
      rw [List.length_cons, h.len, List.length_map, List.length_range] at h1
      omega
  obtain ⟨k, hk, e⟩ := List.mem_iff_getElem.mp this
  refine ⟨k, by rw [← h.len]; exact hk, ?_⟩
  unfold atZ
  rw [List.getD_eq_getElem?_getD, show ((k : Nat) : Int).toNat = k by omega, List.getElem?_eq_getElem hk]
  exact e
theorem Ren.one {n : Nat} {ord ss s1 s2 : List Int} {ts t1 t2 : List Tie} (o : OrdOk n ord) (a : Ren n ord ss ts s1 t1) (b : Ren n ord ss ts s2 t2) (sm : ∀ t ∈ t1, Small t) : s1 = s2 ∧ t1 = t2 := by
  refine ⟨?_, sortT_one (a.perm.trans b.perm.symm) a.sort b.sort sm⟩
  refine List.ext_getElem? fun v => ?_
  by_cases hv : v < n
  · obtain ⟨k, hk, e⟩ := o.surj hv
    have h1 := a.sgn k hk
    have h2 := b.sgn k hk
    rw [e, show ((v : Nat) : Int).toNat = v by omega] at h1 h2
    rw [h1, h2]
  · rw [List.getElem?_eq_none (by rw [a.len]; omega), List.getElem?_eq_none (by rw [b.len]; omega)]
/-- back again -/
theorem Ren.back {n : Nat} {ord bk ss s1 s2 : List Int} {ts t1 t2 : List Tie} (o : OrdOk n ord) (ob : OrdOk n bk) (hb : ∀ k, k < n → atZ bk (atZ ord (k : Nat)) = k) (hl : ss.length = n) (ht : ∀ t ∈ ts, 0 ≤ t.1 ∧ t.1 < t.2.1 ∧ t.2.1 < n) (hs : SortT ts) (sm : ∀ t ∈ ts, Small t)
    (a : Ren n ord ss ts s1 t1) (b : Ren n bk s1 t1 s2 t2) : s2 = ss ∧ t2 = ts := by
  constructor
  · refine List.ext_getElem? fun v => ?_
    by_cases hv : v < n
    · obtain ⟨z, _, ez, z0, z1⟩ := o.at hv
      have h2 := b.sgn z.toNat (by omega)
      have e : ((z.toNat : Nat) : Int) = z := by omega
      rw [e] at h2
      have h3 := hb v hv
      rw [ez] at h3
      rw [h3, show ((v : Nat) : Int).toNat = v by omega] at h2
      have h1 := a.sgn v hv
      rw [ez] at h1
      rw [h2, h1]
    · rw [List.getElem?_eq_none (by rw [b.len]; omega), List.getElem?_eq_none (by omega)]
  · have p : t2.Perm ts := by
      have e : (ts.map (mapT ord)).map (mapT bk) = ts := by
        rw [List.map_map]
        conv => rhs; rw [← List.map_id ts]
        refine List.map_congr_left fun t h => ?_
        obtain ⟨h0, h1, h2⟩ := ht t h
        have e1 := hb t.1.toNat (by omega)
        have e2 := hb t.2.1.toNat (by omega)
        rw [show ((t.1.toNat : Nat) : Int) = t.1 by omega] at e1
        rw [show ((t.2.1.toNat : Nat) : Int) = t.2.1 by omega] at e2
        show joinT (atZ bk (min (atZ ord t.1) (atZ ord t.2.1))) (atZ bk (max (atZ ord t.1) (atZ ord t.2.1))) t.2.2 = t
        obtain ⟨x, y, w⟩ := t
        dsimp only at *
        unfold joinT
        by_cases h : atZ ord x ≤ atZ ord y
        · rw [show min (atZ ord x) (atZ ord y) = atZ ord x by omega, show max (atZ ord x) (atZ ord y) = atZ ord y by omega, e1, e2, show min x y = x by omega, show max x y = y by omega]
        · rw [show min (atZ ord x) (atZ ord y) = atZ ord y by omega, show max (atZ ord x) (atZ ord y) = atZ ord x by omega, e1, e2, show min y x = x by omega, show max y x = y by omega]
      have p1 : (t1.map (mapT bk)).Perm ts := by
        have := a.perm.map (mapT bk)
        rw [e] at this
        exact this
      exact b.perm.trans p1
    exact (sortT_one p.symm hs b.sort sm).symm
end NP

set_option Elab.async false
set_option linter.all false
set_option maxRecDepth 100000
set_option maxHeartbeats 4000000
/-! data compared, rows sorted -/
namespace NP
open PySem PySem.Spec PyProof.Rows L2
mutual
def toPy : Dd → PyData
  | .i n => .int n
  | .b v => .bool v
  | .n => .none
  | .s z => .str z
  | .t xs => .tuple (toPyL xs)
  | .l xs => .list (toPyL xs)
  | .o => .none
def toPyL : List Dd → List PyData
  | [] => []
  | d :: r => toPy d :: toPyL r
end
mutual
/-- nothing but numbers, flags, tuples, lists, so deep at most -/
def Plain : Nat → Dd → Prop
  | _, .i _ => True
  | _, .b _ => True
  | _, .n => True
  | 0, .t _ => False
  | 0, .l _ => False
  | k + 1, .t xs => PlainL k xs
  | k + 1, .l xs => PlainL k xs
  | _, .s z => (PyData.str z).canLay0 = true
  | _, .o => False
def PlainL : Nat → List Dd → Prop
  | _, [] => True
  | k, d :: r => Plain k d ∧ PlainL k r
end
section
variable {K : PySem.W.Frag} {H : Hp}
mutual
theorem Im.dp : ∀ {v : V} {d : Dd} {k : Nat}, Im K H v d → Plain k d → Dp K H v (toPy d)
  | _, _, _, .i n, _ => .int n
  | _, _, _, .b v, _ => .bl v
  | _, _, _, .n, _ => .non
  | _, _, _, .s z, _ => .str z
  | _, _, 0, .t h hl, p => False.elim p
  | _, _, 0, .l h hl, p => False.elim p
  | _, _, k + 1, .t h hl, p => .tup h (ImL.dp hl (k := k) p)
  | _, _, k + 1, .l h hl, p => .lst h (ImL.dp hl (k := k) p)
  | _, _, _, .o h n, p => False.elim (by cases ‹Nat› <;> exact p)
theorem ImL.dp : ∀ {vs : List V} {ds : List Dd} {k : Nat}, ImL K H vs ds → PlainL k ds → DpAll K H vs (toPyL ds)
  | _, _, _, .nil, _ => .nil
  | _, _, _, .cons h hl, p => .cons (Im.dp h p.1) (ImL.dp hl p.2)
end
mutual
theorem plain_lay : ∀ {d : Dd} {k : Nat}, Plain k d → (toPy d).canLay0 = true ∧ (toPy d).depth ≤ k
  | .i _, _, _ => ⟨rfl, Nat.zero_le _⟩
  | .b _, _, _ => ⟨rfl, Nat.zero_le _⟩
  | .n, _, _ => ⟨rfl, Nat.zero_le _⟩
  | .s z, k, p => ⟨by cases k <;> exact p, Nat.zero_le _⟩
  | .t xs, 0, p => False.elim p
  | .l xs, 0, p => False.elim p
  | .t xs, k + 1, p => let ⟨a, b⟩ := plainL_lay (k := k) p; ⟨a, Nat.succ_le_succ b⟩
  | .l xs, k + 1, p => let ⟨a, b⟩ := plainL_lay (k := k) p; ⟨a, Nat.succ_le_succ b⟩
  | .o, k, p => False.elim (by cases k <;> exact p)
theorem plainL_lay : ∀ {ds : List Dd} {k : Nat}, PlainL k ds → PyData.canLayAll0 (toPyL ds) = true ∧ PyData.depthAll (toPyL ds) ≤ k
  | [], _, _ => ⟨rfl, Nat.zero_le _⟩
  | d :: r, k, p => by
    obtain ⟨a, b⟩ := plain_lay p.1
    obtain ⟨a2, b2⟩ := plainL_lay p.2
    refine ⟨?_, ?_⟩
    · show ((toPy d).canLay0 && PyData.canLayAll0 (toPyL r)) = true
      rw [a, a2]; rfl
    · show max (toPy d).depth (PyData.depthAll (toPyL r)) ≤ k
      omega
end
theorem plain_shaped {d : Dd} {k : Nat} (p : Plain k d) (hk : k ≤ 64) : SeqAt.shaped (toPy d) = true := by
  obtain ⟨a, b⟩ := plain_lay p
  show ((toPy d).canLay0 && decide ((toPy d).depth ≤ 64)) = true
  rw [a, decide_eq_true (by omega)]; rfl
theorem plain_refl {d : Dd} {k : Nat} (p : Plain k d) : PyData.eqv (toPy d) (toPy d) = true := SeqAt.eqv_refl _ (plain_lay p).1
theorem w_eqD {x y : V} {d : Dd} {k : Nat} {Q : VK} (hx : Im K H x d) (hy : Im K H y d) (p : Plain k d) (hk : k ≤ 64) (q : Q (.bl true) H) : rEqD K x y H Q :=
  ⟨_, _, hx.dp p, hy.dp p, plain_shaped p hk, plain_shaped p hk, by rw [plain_refl p]; exact q⟩
theorem plainL_ints (k : Nat) : ∀ ns : List Int, PlainL k (ns.map Dd.i)
  | [] => trivial
  | n :: r => ⟨by cases k <;> exact trivial, plainL_ints k r⟩
theorem plain_row (ns : List Int) : Plain 1 (.t (ns.map Dd.i)) := plainL_ints 0 ns
def rowT (r : List Int) : Dd := .t (r.map Dd.i)
theorem plain_rows : ∀ rs : List (List Int), PlainL 1 (rs.map rowT)
  | [] => trivial
  | r :: rs => ⟨plain_row r, plain_rows rs⟩
theorem tieD_row (t : Tie) : tieD t = rowT [t.1, t.2.1, t.2.2] := rfl
theorem plain_ties (ts : List Tie) : Plain 2 (tiesD ts) := by
  have e : ts.map tieD = (ts.map fun t : Tie => [t.1, t.2.1, t.2.2]).map rowT := by rw [List.map_map]; rfl
  show PlainL 1 (ts.map tieD)
  rw [e]
  exact plain_rows _
theorem Im.row {v : V} {r : List Int} (h : Im K H v (rowT r)) : TupI K H v r := by
  obtain ⟨a, vs, rfl, h1, h2⟩ := h.tup_inv
  have e := imL_ints_inv h2
  subst e
  exact ⟨a, rfl, h1⟩
theorem Im.of_row {v : V} {r : List Int} (h : TupI K H v r) : Im K H v (rowT r) := by
  obtain ⟨a, rfl, h⟩ := h
  exact .t h (imL_ints r)
/-- sorted of a list of rows of d numbers below B -/
theorem w_sortR {d : Nat} {B : Int} {a : Addr} {xs : List V} {rs : List (List Int)} {Q : VK} (h : SqL K H a xs) (hl : ImL K H xs (rs.map rowT)) (h64 : rs.length < 64) (hr : ∀ r ∈ rs, r.length = d ∧ _root_.TS.Bd B r)
    (q : ∀ (p : Addr) (ys : List V) (us : List (List Int)) H', H p = none → Same H H' → H' p = some (.lst ys) → us.Perm rs → us.Pairwise (fun r s => _root_.TS.code B r ≤ _root_.TS.code B s) → ImL K H' ys (us.map rowT) → Q (.ref p) H') :
    rSortU K d B [V.ref a] H Q := by
  have hlen : xs.length = rs.length := by rw [hl.len, List.length_map]
  refine ⟨a, xs, rfl, h, by omega, fun x hx => ?_, fun ys p hp hs np => ?_⟩
  · obtain ⟨i, hi⟩ := List.mem_iff_getElem?.mp hx
    obtain ⟨e, he, him⟩ := hl.at hi
    obtain ⟨r, hr', rfl⟩ : ∃ r, rs[i]? = some r ∧ rowT r = e := by
      rw [List.getElem?_map] at he
      cases e2 : rs[i]? with
      | none => rw [e2] at he; cases he
      | some r => rw [e2] at he; exact ⟨r, rfl, Option.some.inj he⟩
    obtain ⟨h1, h2⟩ := hr r (List.mem_of_getElem? hr')
    exact ⟨r, him.row, h1, h2⟩
  · obtain ⟨es, pe, hl2⟩ := imL_perm hp hl
    obtain ⟨us, pu, rfl⟩ := perm_map_inv pe
    refine q p ys us _ np (same_new np) upd_same pu ?_ (hl2.same (same_new np))
    rw [List.pairwise_iff_getElem] at hs ⊢
    intro i j hi hj hij
    have li : i < ys.length := by rw [hl2.len, List.length_map]; exact hi
    have lj : j < ys.length := by rw [hl2.len, List.length_map]; exact hj
    have im : ∀ k (hk : k < us.length) (hk2 : k < ys.length), TupI K H ys[k] us[k] := fun k hk hk2 => by
      obtain ⟨d2, hd, hm⟩ := hl2.at (List.getElem?_eq_getElem hk2)
      rw [List.getElem?_map, List.getElem?_eq_getElem hk] at hd
      have e := Option.some.inj hd
      subst e
      exact hm.row
    exact hs i j li lj hij _ _ (im i hi li) (im j hj lj)
end
end NP
namespace NP
open PySem PySem.Spec PyProof.Rows L2
section
variable {K : PySem.W.Frag} {H : Hp} {Q : VK} {σ : L2.St}
theorem kop_eqD {X : Cx} (K : PySem.W.Frag) (hu : X.A.units + 64 < cLine) (h : X.K = K := by rfl) : OpR X (compareOp .Eq) (rEqD K) := by subst h; exact op_eqD hu
theorem kcr_sortT {X : Cx} (K : PySem.W.Frag) (d : Nat) (B : Int) (hd : 1 ≤ d) (h : X.K = K := by rfl) : CallR X (.builtin "sorted") (rSortU K d B) := by subst h; exact cr_sortT hd
/-! making an instance -/
def rMakeQ (C : Addr) (sp : Sp) (dvs : List V) (E : XK) (vs : List V) (H1 : Hp) (Q : VK) : Prop := ∀ x dx, H1 x = none → H1 dx = none → dx ≠ x → sp (.ref x :: (vs ++ dvs)) (upd (upd H1 dx (.own x)) x (.ins C dx [])) (fun v H2 => v = .non ∧ Q (.ref x) H2) E
theorem w_make {C : Addr} {sp : Sp} {dvs : List V} {E : XK} {t : TA} (q : t σ H fun vs H1 => rMakeQ C sp dvs E vs H1 Q) : tMake C sp dvs E t σ H Q := q
theorem same_make {H : Hp} {x dx : Addr} {a b : HO} (nx : H x = none) (ndx : H dx = none) : Same H (upd (upd H dx a) x b) := fun c o e => by
  rw [upd_ne (ne_of_none e nx), upd_ne (ne_of_none e ndx)]
  exact e
/-- Web(s, t) of parts that make one -/
theorem w_makeWeb {C : Addr} {E : XK} {sv tv : V} {ss : List Int} {ts : List Tie} (hs : Im K H sv (signsD ss)) (ht : Im K H tv (tiesD ts)) (ok : WebOk ss ts)
    (q : ∀ x dx H', H x = none → Same H H' → H' x = some (.ins C dx [("signs", sv), ("ties", tv), ("many", .int (ss.length : Nat))]) → Q (.ref x) H') : rMakeQ C (spWebI K C) [] E [sv, tv] H Q := by
  intro x dx nx ndx ne
  have s := same_make (a := .own x) (b := .ins C dx []) nx ndx
  exact ⟨x, dx, sv, tv, ss, ts, rfl, upd_same, hs.same s, ht.same s, ok, fun H' k h => ⟨rfl, q x dx H' nx (k.same s nx) h⟩⟩
theorem WebAt.of {C x dx : Addr} {H H' : Hp} {sv tv : V} {ss : List Int} {ts : List Tie} (h : H' x = some (.ins C dx [("signs", sv), ("ties", tv), ("many", .int (ss.length : Nat))])) (e : Same H H') (hs : Im K H sv (signsD ss)) (ht : Im K H tv (tiesD ts)) : WebAt K C H' (.ref x) ss ts :=
  ⟨x, dx, sv, tv, rfl, h, hs.same e, ht.same e⟩
theorem w_isiOwn {C a dx : Addr} {fs : List (Str × V)} (h : H a = some (.ins C dx fs)) (c : Cls K C) (t : TyI K C) (q : Q (.bl true) H) : rIsi K [.ref a, .ref C] H Q :=
  ⟨.ref a, .ref C, .ref C, .ref C, true, rfl, .own C, .base (.ins h c t.ha t.hn t.ht t.hm), by unfold PySem.W.kitOne; rw [if_pos (by simp)], q⟩
def spOrd (K : PySem.W.Frag) : Sp := fun vs H Q _ => ∃ n ov ord, vs = [.int (n : Nat), ov] ∧ Im K H ov (.t (ord.map Dd.i)) ∧ OrdOk n ord ∧ n ≤ 4000 ∧ ∀ H', Same H H' → Q (.bl true) H'
def spBig (K : PySem.W.Frag) (C : Addr) : Sp := fun vs H Q _ => ∃ sv tv ss ts, vs = [sv, tv] ∧ Im K H sv (signsD ss) ∧ Im K H tv (tiesD ts) ∧ ∀ v H', Same H H' → WebAt K C H' v ss ts → Q v H'
def spRen (K : PySem.W.Frag) (C : Addr) : Sp := fun vs H Q _ => ∃ v ov ss ts ord, vs = [v, ov] ∧ WebAt K C H v ss ts ∧ Im K H ov (.t (ord.map Dd.i)) ∧ OrdOk ss.length ord ∧ ss.length ≤ 900 ∧ ts.length < 64 ∧
  (∀ t ∈ ts, 0 ≤ t.1 ∧ t.1 < ss.length ∧ 0 ≤ t.2.1 ∧ t.2.1 < ss.length ∧ 0 ≤ t.2.2 ∧ t.2.2 < 1000) ∧ ∀ v' H' ss' ts', Same H H' → WebAt K C H' v' ss' ts' → Ren ss.length ord ss ts ss' ts' → Q v' H'
def WebsEq (K : PySem.W.Frag) (C : Addr) (a b : Addr) (H : Hp) : Prop := ∃ ss ts, WebAt K C H (.ref a) ss ts ∧ WebAt K C H (.ref b) ss ts
end
theorem webOk_one : WebOk [0] [] := ⟨Nat.le_refl _, by decide, by simp, ⟨by simp, List.Pairwise.nil, Nat.zero_le _⟩, fun v hv => ⟨0, by have : v < 1 := hv; show v = 0; omega⟩⟩
end NP

set_option Elab.async false
set_option linter.all false
set_option maxRecDepth 100000
set_option maxHeartbeats 4000000
/-! all but one object -/
namespace NP
open PySem PySem.Spec PyProof.Rows L2
/-- the heap without what stands at h -/
def dr (h : Addr) (H : Hp) : Hp := fun a => if a = h then none else H a
section
variable {h : Addr} {H H' : Hp} {K : PySem.W.Frag}
theorem dr_ne {a : Addr} (n : a ≠ h) : dr h H a = H a := if_neg n
theorem dr_self : dr h H h = none := if_pos rfl
theorem dr_upd {o : HO} : dr h (upd H h o) = dr h H := by
  funext a
  by_cases e : a = h
  · subst e; rw [dr_self, dr_self]
  · rw [dr_ne e, dr_ne e, upd_ne e]
theorem dr_le : Same (dr h H) H := fun a o e => by
  by_cases z : a = h
  · subst z; rw [dr_self] at e; cases e
  · rwa [dr_ne z] at e
theorem Kp.dr (k : Kp h H H') : Same (dr h H) (dr h H') := fun a o e => by
  by_cases z : a = h
  · subst z; rw [dr_self] at e; cases e
  · rw [dr_ne z] at e ⊢
    exact k a o z e
theorem Same.dr (k : Same H H') : Same (NP.dr h H) (NP.dr h H') := Kp.dr fun a o _ e => k a o e
/-- what was when h was free still is -/
theorem Same.dr0 (k : Same H H') (n : H h = none) : Same H (NP.dr h H') := fun a o e => by
  rw [dr_ne (ne_of_none e n)]
  exact k a o e
theorem dr_free {o : HO} {p : Addr} (e : H h = some o) (n : dr h H p = none) (np : p ≠ h) : H p = none := by rwa [dr_ne np] at n
theorem Im.un {v : V} {d : Dd} (i : Im K (dr h H) v d) : Im K H v d := i.same dr_le
theorem ImL.un {v : List V} {d : List Dd} (i : ImL K (dr h H) v d) : ImL K H v d := i.same dr_le
end
end NP

set_option Elab.async false
set_option linter.all false
set_option maxRecDepth 100000
set_option maxHeartbeats 4000000
/-! the hand, zip of tuples, data compared by a law -/
namespace NP
open PySem PySem.Spec PyProof.Rows L2 RZ
structure HandOk (H : Hp) (h c : Addr) : Prop where
  ex : ∃ (cs : List Int) (p z m k : Int), H h = some (.lst [.ref c, .int p, .int z, .int m, .int k]) ∧ H c = some (.lst (cs.map V.int)) ∧ c ≠ h ∧ cs.length ≤ 63 ∧ (∀ x ∈ cs, 0 ≤ x) ∧
    0 ≤ p ∧ p ≤ cs.length ∧ 0 ≤ z ∧ 0 ≤ m ∧ m < 2147483629 ∧ 0 ≤ k
def spHand (K : PySem.W.Frag) : Sp := fun vs H Q _ => ∃ (a : Addr) (ns : List Int), vs = [.ref a] ∧ SqL K H a (ns.map V.int) ∧ ns.length ≤ 63 ∧ ∀ h c H', H h = none → H c = none → Same H H' → HandOk H' h c → Q (.ref h) H'
def spDraw : Sp := fun vs H Q _ => ∃ (h c : Addr) (many : Int), vs = [.ref h, .int many] ∧ 1 ≤ many ∧ many < 1073741824 ∧ HandOk H h c ∧ ∀ (d : Int) H', 0 ≤ d → d < many → HandOk H' h c → Kp h H H' → Q (.int d) H'
def spAny (K : PySem.W.Frag) : Sp := fun vs H Q _ => ∃ (h c s : Addr) (xs : List V), vs = [.ref h, .ref s] ∧ SqL K H s xs ∧ s ≠ h ∧ xs ≠ [] ∧ xs.length < 1073741824 ∧ HandOk H h c ∧ ∀ v H', v ∈ xs → HandOk H' h c → Kp h H H' → Q v H'
section
variable {H H' : Hp} {h c D : Addr}
theorem HandOk.same (o : HandOk H h c) (e : Same H H') : HandOk H' h c := by
  obtain ⟨cs, p, z, m, k, h1, h2, r⟩ := o
  exact ⟨cs, p, z, m, k, e _ _ h1, e _ _ h2, r⟩
theorem HandOk.kp (o : HandOk H h c) (e : Kp D H H') (n1 : h ≠ D) (n2 : c ≠ D) : HandOk H' h c := by
  obtain ⟨cs, p, z, m, k, h1, h2, r⟩ := o
  exact ⟨cs, p, z, m, k, e _ _ n1 h1, e _ _ n2 h2, r⟩
theorem HandOk.at (o : HandOk H h c) : ∃ xs, H h = some (.lst xs) := by
  obtain ⟨cs, p, z, m, k, h1, h2, r⟩ := o
  exact ⟨_, h1⟩
/-- what is new is neither -/
theorem HandOk.new (o : HandOk H h c) (n : H D = none) : h ≠ D ∧ c ≠ D := by
  obtain ⟨cs, p, z, m, k, h1, h2, r⟩ := o
  exact ⟨ne_of_none h1 n, ne_of_none h2 n⟩
theorem Kp.add {H1 H2 : Hp} (a : Kp h H H1) (b : Kp D H1 H2) (n : H D = none) : Kp h H H2 := fun x o nx e => b x o (ne_of_none e n) (a x o nx e)
theorem Kp.addS {H1 H2 : Hp} (a : Kp h H H1) (b : Same H1 H2) : Kp h H H2 := fun x o nx e => b x o (a x o nx e)
theorem Kp.preS {H1 H2 : Hp} (a : Same H H1) (b : Kp h H1 H2) : Kp h H H2 := fun x o nx e => b x o nx (a x o e)
theorem Kp.lst {xs : List V} (a : Kp h H H') (n : D ≠ h) (e : H D = some (.lst xs)) : H' D = some (.lst xs) := a _ _ n e
/-- what was not there is another one than what was -/
theorem Kp.free {p : Addr} (a : Kp h H H') (n : H' p = none) (np : p ≠ h) : H p = none := by
  cases e : H p with
  | none => rfl
  | some o => rw [a p o np e] at n; cases n
end
mutual
/-- tuples alone -/
def NoL : Dd → Prop
  | .t xs => NoLL xs
  | .l _ => False
  | .o => False
  | .i _ => True
  | .b _ => True
  | .n => True
  | .s _ => True
def NoLL : List Dd → Prop
  | [] => True
  | d :: r => NoL d ∧ NoLL r
end
section
variable {K : PySem.W.Frag} {H H' : Hp} {D : Addr} {ys : List V}
mutual
theorem Im.kp (e : Kp D H H') (hd : H D = some (.lst ys)) : ∀ {v : V} {d : Dd}, NoL d → Im K H v d → Im K H' v d
  | _, _, _, .i n => .i n
  | _, _, _, .b v => .b v
  | _, _, _, .n => .n
  | _, _, _, .s z => .s z
  | _, .t ds, n, .t h hl => .t (e.tupL hd h) (ImL.kp e hd (show NoLL ds from n) hl)
  | _, _, n, .l h hl => False.elim n
  | _, _, n, .o h k => False.elim n
theorem ImL.kp (e : Kp D H H') (hd : H D = some (.lst ys)) : ∀ {vs : List V} {ds : List Dd}, NoLL ds → ImL K H vs ds → ImL K H' vs ds
  | _, _, _, .nil => .nil
  | _, d :: r, n, .cons h hl => .cons (Im.kp e hd (show NoL d ∧ NoLL r from n).1 h) (ImL.kp e hd (show NoL d ∧ NoLL r from n).2 hl)
end
theorem noL_ints : ∀ ns : List Int, NoLL (ns.map Dd.i)
  | [] => trivial
  | _ :: r => ⟨trivial, noL_ints r⟩
theorem noL_row (r : List Int) : NoL (rowT r) := noL_ints r
theorem noL_rows : ∀ rs : List (List Int), NoLL (rs.map rowT)
  | [] => trivial
  | r :: rs => ⟨noL_row r, noL_rows rs⟩
theorem WebAt.kp {C : Addr} {v : V} {ss : List Int} {ts : List Tie} (e : Kp D H H') (hd : H D = some (.lst ys)) (w : WebAt K C H v ss ts) : WebAt K C H' v ss ts := by
  obtain ⟨a, dx, sv, tv, rfl, h1, h2, h3⟩ := w
  refine ⟨a, dx, sv, tv, rfl, e _ _ (fun z => by rw [z, hd] at h1; cases h1) h1, h2.kp e hd (noL_row ss), h3.kp e hd ?_⟩
  have e2 : ts.map tieD = (ts.map fun t : Tie => [t.1, t.2.1, t.2.2]).map rowT := by rw [List.map_map]; rfl
  show NoLL (ts.map tieD)
  rw [e2]
  exact noL_rows _
end
section
variable {K : PySem.W.Frag}
theorem walk_zipT {a b : Addr} {xs ys : List V} {n : Nat} (hn : n = min xs.length ys.length) : Walk (ItzT K a b) n (fun H => SqT K H a xs ∧ SqT K H b ys) (YPair (fun i => xs[i]?) (fun i => ys[i]?)) := by
  subst hn
  refine ⟨fun i _ hi q => ?_, fun _ q => ⟨xs, ys, q.1, q.2, by omega⟩, fun i H v H' _ q y => ?_⟩
  · have h1 : i < xs.length := by omega
    have h2 : i < ys.length := by omega
    exact ⟨xs, ys, xs[i], ys[i], q.1, q.2, by simp [h1], by simp [h2]⟩
  · obtain ⟨T, x, y, e1, e2, e3, e4, e5⟩ := y
    exact ⟨T, x, y, e1, e2, e3, e4 xs q.1, e5 ys q.2⟩
def rZipA (K : PySem.W.Frag) (vs : List V) (H : Hp) (R : It → Hp → Prop) : Prop := ∃ a b xs ys, vs = [.ref a, .ref b] ∧ ((SqL K H a xs ∧ SqL K H b ys ∧ R (Itz K a b) H) ∨ (SqT K H a xs ∧ SqT K H b ys ∧ R (ItzT K a b) H))
theorem w_iZipA {σ : L2.St} {H : Hp} {tr : TA} {R : It → Hp → Prop} (q : tr σ H fun vs H1 => rZipA K vs H1 R) : iZipA K tr σ H R := q
theorem w_zipTT {H : Hp} {R : It → Hp → Prop} {a b : Addr} {xs ys : List V} (h1 : SqT K H a xs) (h2 : SqT K H b ys) (q : R (ItzT K a b) H) : rZipA K [.ref a, .ref b] H R := ⟨a, b, xs, ys, rfl, .inr ⟨h1, h2, q⟩⟩
theorem w_zipLL {H : Hp} {R : It → Hp → Prop} {a b : Addr} {xs ys : List V} (h1 : SqL K H a xs) (h2 : SqL K H b ys) (q : R (Itz K a b) H) : rZipA K [.ref a, .ref b] H R := ⟨a, b, xs, ys, rfl, .inl ⟨h1, h2, q⟩⟩
theorem w_isiTL {H : Hp} {x : V} {d : Dd} {p : Addr} {Q : VK} (hp : H p = some (.tup [.ty "tuple", .ty "list"])) (h : Im K H x d) (q : Q (.bl (isT d || isL d)) H) : rIsiT K [x, .ref p] H Q := by
  obtain ⟨t, ty, _, _, a, b⟩ := im_kit h
  refine ⟨x, p, [.ty "tuple", .ty "list"], t, [.type "tuple", .type "list"], isT d || isL d, rfl, hp, .cons (.ty _) (.cons (.ty _) .nil), ty, ?_, q⟩
  unfold PySem.W.kitAny
  rw [a]
  cases isT d with
  | true => rfl
  | false =>
    show PySem.W.kitAny K t [.type "list"] = _
    unfold PySem.W.kitAny
    rw [b]
    cases isL d with
    | true => rfl
    | false => rfl
theorem Im.lst_inv {H : Hp} {v : V} {ds : List Dd} (h : Im K H v (.l ds)) : ∃ a vs, v = .ref a ∧ SqL K H a vs ∧ ImL K H vs ds := by
  cases h with
  | l h hl => exact ⟨_, _, rfl, h, hl⟩
end
mutual
/-- not longer than that -/
def Shrt : Dd → Prop
  | .t xs => xs.length ≤ 10000 ∧ ShrtL xs
  | .l xs => xs.length ≤ 10000 ∧ ShrtL xs
  | .i _ => True
  | .b _ => True
  | .n => True
  | .s _ => True
  | .o => True
def ShrtL : List Dd → Prop
  | [] => True
  | d :: r => Shrt d ∧ ShrtL r
end
theorem ShrtL.mem : ∀ {ds : List Dd}, ShrtL ds → ∀ {d : Dd}, d ∈ ds → Shrt d
  | _ :: _, h, d, m => by
    rcases List.mem_cons.mp m with e | e
    · subst e; exact h.1
    · exact ShrtL.mem h.2 e
theorem PlainL.mem {k : Nat} : ∀ {ds : List Dd}, PlainL k ds → ∀ {d : Dd}, d ∈ ds → Plain k d
  | _ :: _, h, d, m => by
    rcases List.mem_cons.mp m with e | e
    · subst e; exact h.1
    · exact PlainL.mem h.2 e
def spSame (K : PySem.W.Frag) : Nat → Sp
  | 0 => fun _ _ _ _ => False
  | k + 1 => fun vs H Q _ => ∃ x y d, vs = [x, y] ∧ Im K H x d ∧ Im K H y d ∧ Plain k d ∧ Shrt d ∧ ∀ H', Same H H' → Q (.bl true) H'
end NP

set_option Elab.async false
set_option linter.all false
set_option maxRecDepth 100000
set_option maxHeartbeats 4000000
/-! pairs of a tree -/
namespace NP
open PySem PySem.Spec PyProof.Rows L2
theorem sum_set {l : List Int} {i : Nat} {a x : Int} (h : l[i]? = some a) : (l.set i x).sum = l.sum - a + x := by
  induction l generalizing i with
  | nil => simp at h
  | cons b l ih =>
    cases i with
    | zero =>
      have : b = a := by simpa using h
      subst this
      rw [List.set_cons_zero, List.sum_cons, List.sum_cons]
      omega
    | succ i =>
      rw [List.set_cons_succ, List.sum_cons, List.sum_cons, ih (by simpa using h)]
      omega
theorem sum_low {c : Int} : ∀ (n : Nat) (l : List Int), (∀ x ∈ l, 0 ≤ x) → (∀ i, i < n → ∃ x, l[i]? = some x ∧ c ≤ x) → c * n ≤ l.sum
  | 0, [], _, _ => by simp
  | 0, x :: l, h0, h => by
    rw [List.sum_cons]
    have := sum_low (c := c) 0 l (fun y hy => h0 y (List.mem_cons_of_mem _ hy)) (fun i hi => absurd hi (Nat.not_lt_zero _))
    have := h0 x List.mem_cons_self
    simp at *
    omega
  | n + 1, [], _, h => by
    obtain ⟨x, e, _⟩ := h 0 (Nat.succ_pos _)
    simp at e
  | n + 1, x :: l, h0, h => by
    rw [List.sum_cons]
    have h1 := sum_low (c := c) n l (fun y hy => h0 y (List.mem_cons_of_mem _ hy)) (fun i hi => by
      obtain ⟨y, e, hy⟩ := h (i + 1) (Nat.succ_lt_succ hi)
      exact ⟨y, by simpa using e, hy⟩)
    obtain ⟨y, e, hy⟩ := h 0 (Nat.succ_pos _)
    have : x = y := by simpa using e
    subst this
    have e : c * ((n + 1 : Nat) : Int) = c * n + c := by
      rw [show ((n + 1 : Nat) : Int) = (n : Int) + 1 by omega, Int.mul_add, Int.mul_one]
    omega
theorem atI_last {α : Type} {xs : List α} (h : xs ≠ []) : atI xs (-1) = some (xs.getLast h) := by
  have hl : 0 < xs.length := List.length_pos_iff.mpr h
  unfold atI ixN
  rw [if_neg (by decide), if_pos (by omega), List.getLast_eq_getElem]
  show xs[((-1 : Int) + xs.length).toNat]? = _
  rw [show ((-1 : Int) + xs.length).toNat = xs.length - 1 by omega, List.getElem?_eq_getElem (by omega)]
abbrev Pr := Int × Int
def pairD (p : Pr) : Dd := rowT [p.1, p.2]
theorem pairD_map (ps : List Pr) : ps.map pairD = (ps.map fun p : Pr => [p.1, p.2]).map rowT := by rw [List.map_map]; rfl
theorem noL_prs (ps : List Pr) : NoLL (ps.map pairD) := by rw [pairD_map]; exact noL_rows _
structure TreeP (many : Nat) (ps : List Pr) : Prop where
  len : ps.length + 1 = many
  up : ∀ (i : Nat) (p : Pr), ps[i]? = some p → p.2 = ((i + 1 : Nat) : Int) ∧ 0 ≤ p.1 ∧ p.1 ≤ i
def spTree (K : PySem.W.Frag) : Sp := fun vs H Q _ => ∃ (h c : Addr) (many : Nat) (most : Int), vs = [.ref h, .int many, .int most] ∧ 1 ≤ many ∧ many ≤ 16 ∧ 3 ≤ most ∧ HandOk H h c ∧
  ∀ p H' ps vs', H p = none → HandOk H' h c → Kp h H H' → H' p = some (.lst vs') → ImL K H' vs' (ps.map pairD) → TreeP many ps → Q (.ref p) H'
end NP

set_option Elab.async false
set_option linter.all false
set_option maxRecDepth 100000
set_option maxHeartbeats 4000000
/-! houses called, parts of a web -/
namespace NP
open PySem PySem.Spec PyProof.Rows L2
section
variable {K : PySem.W.Frag} {σ : L2.St} {H H' : Hp} {Q : VK} {D : Addr} {ta : TE}
def rRgL (x : V) (H : Hp) (Q : VK) : Prop := ∃ n, x = .int n ∧ RgOk 0 n ∧ ∀ q, H q = none → Q (.ref q) (upd H q (.lst (rgV 0 n)))
theorem w_listRg (q : ta σ H fun x H1 => rRgL x H1 Q) : tLstRg (tRg1 ta) σ H Q := by
  have e : (fun x H1 => rRgL x H1 Q) = fun x H1 => ∃ n, x = V.int n ∧ RgOk 0 n ∧ ∀ q, H1 q = none → Q (.ref q) (upd H1 q (.lst (rgV 0 n))) := rfl
  rw [e] at q
  exact q
theorem w_rgL {n : Nat} (hn : n ≤ 10000) (q : ∀ p H', H p = none → Same H H' → H' p = some (.lst (((List.range n).map fun i : Nat => (i : Int)).map V.int)) → Q (.ref p) H') : rRgL (.int n) H Q := by
  refine ⟨n, rfl, RgOk.of_le (by decide) (by omega) (by decide) (by omega), fun p hp => q p _ hp (same_new hp) ?_⟩
  rw [upd_same]
  unfold rgV
  rw [List.map_map]
  congr 2
  have e : ((n : Int) - 0).toNat = n := by omega
  rw [e]
  refine List.map_congr_left fun i _ => ?_
  show V.int (0 + (i : Int)) = V.int i
  rw [Int.zero_add]
/-- one more at the end of a list -/
theorem imL_push {acc : List V} {ds : List Dd} {v : V} {d : Dd} (h : H D = some (.lst acc)) (hl : ImL K H acc ds) (n : NoLL ds) (hv : Im K H v d) (nv : NoL d) : ImL K (upd H D (.lst (acc ++ [v]))) (acc ++ [v]) (ds ++ [d]) :=
  (hl.kp (Kp.upd D H _) h n).append (.cons (hv.kp (Kp.upd D H _) h nv) .nil)
end
theorem erase_map {α β : Type} {f : α → β} {l : List α} {i : Nat} : (l.map f).eraseIdx i = (l.eraseIdx i).map f := by
  rw [List.eraseIdx_eq_take_drop_succ, List.eraseIdx_eq_take_drop_succ, List.map_append, List.map_take, List.map_drop]
theorem erase_perm {α : Type} {l : List α} {j : Nat} (h : j < l.length) : (l[j] :: l.eraseIdx j).Perm l := by
  rw [List.eraseIdx_eq_take_drop_succ]
  have e : l = l.take j ++ l[j] :: l.drop (j + 1) := by
    rw [← List.drop_eq_getElem_cons h, List.take_append_drop]
  have p : (l[j] :: (l.take j ++ l.drop (j + 1))).Perm (l.take j ++ l[j] :: l.drop (j + 1)) := List.perm_middle.symm
  rw [← e] at p
  exact p
theorem nodup_rangeZ (n : Nat) : ((List.range n).map fun i : Nat => (i : Int)).Nodup := by
  rw [List.nodup_iff_pairwise_ne, List.pairwise_map]
  exact (List.nodup_range (n := n)).imp fun {a b} h e => h (by omega)
def prOf (t : Tie) : Pr := (t.1, t.2.1)
def renP (ord : List Int) (p : Pr) : Pr := (min (atZ ord p.1) (atZ ord p.2), max (atZ ord p.1) (atZ ord p.2))
def pcode (p : Pr) : Int := TS.code 1000 [p.1, p.2]
theorem pcode_eq (p : Pr) : pcode p = p.1 * 1000 + (p.2 * 1 + 0) := by
  show p.1 * (1000 : Int) ^ 1 + (p.2 * (1000 : Int) ^ 0 + 0) = _
  rw [show (1000 : Int) ^ 1 = 1000 by decide, show (1000 : Int) ^ 0 = 1 by decide]
def partsD (ss : List Int) (ts : List Tie) : Dd := .t [signsD ss, tiesD ts]
theorem noL_ties (ts : List Tie) : NoL (tiesD ts) := by
  have e2 : ts.map tieD = (ts.map fun t : Tie => [t.1, t.2.1, t.2.2]).map rowT := by rw [List.map_map]; rfl
  show NoLL (ts.map tieD)
  rw [e2]
  exact noL_rows _
theorem noL_parts (ss : List Int) (ts : List Tie) : NoL (partsD ss ts) := ⟨noL_row ss, noL_ties ts, trivial⟩
structure Called (many : Nat) (signs : Int) (ps : List Pr) (ord ss : List Int) (ts : List Tie) : Prop where
  oo : OrdOk many ord
  len : ss.length = many
  sgn : ∀ s ∈ ss, 0 ≤ s ∧ s < signs
  prs : (ts.map prOf).Perm (ps.map (renP ord))
  srt : (ts.map prOf).Pairwise fun p q => pcode p ≤ pcode q
  wts : ∀ t ∈ ts, 0 ≤ t.2.2 ∧ t.2.2 < 1000
def spCalled (K : PySem.W.Frag) : Sp := fun vs H Q _ => ∃ (h c pp w : Addr) (many : Nat) (signs : Int) (pvs : List V) (ps : List Pr) (ws : List Int), vs = [.ref h, .int many, .int signs, .ref pp, .ref w] ∧
  SqL K H pp pvs ∧ ImL K H pvs (ps.map pairD) ∧ pp ≠ h ∧ SqL K H w (ws.map V.int) ∧ w ≠ h ∧ ws ≠ [] ∧ ws.length ≤ 10 ∧ (∀ x ∈ ws, 0 ≤ x ∧ x < 1000) ∧ ps.length < 64 ∧
  (∀ p ∈ ps, 0 ≤ p.1 ∧ p.1 < many ∧ 0 ≤ p.2 ∧ p.2 < many) ∧ 1 ≤ many ∧ many ≤ 16 ∧ 1 ≤ signs ∧ signs ≤ 1000 ∧ HandOk H h c ∧
  ∀ v H' ord ss ts, HandOk H' h c → Kp h H H' → Im K H' v (partsD ss ts) → Called many signs ps ord ss ts → Q v H'
end NP

set_option Elab.async false
set_option linter.all false
set_option maxRecDepth 100000
set_option maxHeartbeats 4000000
/-! pairs that make a web -/
namespace NP
open PySem PySem.Spec PyProof.Rows L2
def Lnk (ps : List Pr) (b c : Int) : Prop := (b, c) ∈ ps ∨ (c, b) ∈ ps
inductive Con (ps : List Pr) (a : Int) : Int → Prop where
  | refl : Con ps a a
  | step {b c : Int} : Con ps a b → Lnk ps b c → Con ps a c
theorem Lnk.symm {ps : List Pr} {b c : Int} (h : Lnk ps b c) : Lnk ps c b := h.elim .inr .inl
theorem Con.trans {ps : List Pr} {a b c : Int} (h : Con ps a b) (g : Con ps b c) : Con ps a c := by
  induction g with
  | refl => exact h
  | step _ l ih => exact .step ih l
theorem Con.symm {ps : List Pr} {a b : Int} (h : Con ps a b) : Con ps b a := by
  induction h with
  | refl => exact .refl
  | step _ l ih => exact (Con.step .refl l.symm).trans ih
theorem Con.mono {ps qs : List Pr} {a b : Int} (h : Con ps a b) (s : ∀ p ∈ ps, p ∈ qs) : Con qs a b := by
  induction h with
  | refl => exact .refl
  | step _ l ih => exact .step ih (l.elim (fun z => .inl (s _ z)) (fun z => .inr (s _ z)))
structure PairsOk (many : Nat) (ps : List Pr) : Prop where
  rng : ∀ p ∈ ps, 0 ≤ p.1 ∧ p.1 < p.2 ∧ p.2 < many
  nd : ps.Nodup
  con : ∀ v : Nat, v < many → Con ps 0 v
theorem TreeP.ok {many : Nat} {ps : List Pr} (h : TreeP many ps) : PairsOk many ps := by
  refine ⟨fun p hp => ?_, ?_, fun v => ?_⟩
  · obtain ⟨i, hi⟩ := List.mem_iff_getElem?.mp hp
    obtain ⟨a, b, c⟩ := h.up i p hi
    have := (List.getElem?_eq_some_iff.mp hi).1
    have := h.len
    omega
  · rw [List.nodup_iff_pairwise_ne, List.pairwise_iff_getElem]
    intro i j hi hj hij e
    obtain ⟨a, _⟩ := h.up i _ (List.getElem?_eq_getElem hi)
    obtain ⟨b, _⟩ := h.up j _ (List.getElem?_eq_getElem hj)
    rw [e, b] at a
    omega
  · induction v using Nat.strongRecOn with
    | _ v ih =>
      intro hv
      cases v with
      | zero => exact .refl
      | succ i =>
        have hi : i < ps.length := by have := h.len; omega
        obtain ⟨a, b, c⟩ := h.up i _ (List.getElem?_eq_getElem hi)
        have := ih ps[i].1.toNat (by omega) (by omega)
        rw [show ((ps[i].1.toNat : Nat) : Int) = ps[i].1 by omega] at this
        refine .step this (.inl ?_)
        rw [← a]
        exact List.getElem_mem hi
def ringP (many : Nat) : List Pr := (List.range (many - 1)).map (fun i : Nat => ((i : Int), ((i : Int) + 1))) ++ [((0 : Int), ((many : Int) - 1))]
theorem ringP_ok {many : Nat} (h : 2 < many) : PairsOk many (ringP many) := by
  refine ⟨fun p hp => ?_, ?_, fun v => ?_⟩
  · rcases List.mem_append.mp hp with hp | hp
    · obtain ⟨i, hi, rfl⟩ := List.mem_map.mp hp
      have := List.mem_range.mp hi
      dsimp only
      omega
    · have : p = ((0 : Int), ((many : Int) - 1)) := by simpa using hp
      subst this
      dsimp only
      omega
  · unfold ringP
    rw [List.nodup_append]
    refine ⟨?_, by simp, fun a ha b hb e => ?_⟩
    · rw [List.nodup_iff_pairwise_ne, List.pairwise_map]
      refine (List.nodup_range (n := many - 1)).imp fun {a b} hne e => hne ?_
      have := congrArg Prod.fst e
      dsimp only at this
      omega
    · obtain ⟨i, hi, rfl⟩ := List.mem_map.mp ha
      have hb : b = ((0 : Int), ((many : Int) - 1)) := by simpa using hb
      subst hb
      have e1 := congrArg Prod.fst e
      have e2 := congrArg Prod.snd e
      dsimp only at e1 e2
      omega
  · induction v with
    | zero => intro _; exact .refl
    | succ i ih =>
      intro hv
      refine .step (ih (by omega)) (.inl (List.mem_append.mpr (.inl (List.mem_map.mpr ⟨i, List.mem_range.mpr (by omega), ?_⟩))))
      rfl
theorem PairsOk.more {many : Nat} {ps : List Pr} (h : PairsOk many ps) {p : Pr} (hp : 0 ≤ p.1 ∧ p.1 < p.2 ∧ p.2 < many) (n : p ∉ ps) : PairsOk many (ps ++ [p]) := by
  refine ⟨fun q hq => ?_, ?_, fun v hv => (h.con v hv).mono fun q hq => List.mem_append.mpr (.inl hq)⟩
  · rcases List.mem_append.mp hq with hq | hq
    · exact h.rng q hq
    · have : q = p := by simpa using hq
      subst this
      exact hp
  · rw [List.nodup_append]
    refine ⟨h.nd, by simp, fun a ha b hb e => ?_⟩
    have : b = p := by simpa using hb
    subst this
    subst e
    exact n ha
theorem renP_inj {many : Nat} {ord : List Int} (o : OrdOk many ord) {p q : Pr} (hp : 0 ≤ p.1 ∧ p.1 < p.2 ∧ p.2 < many) (hq : 0 ≤ q.1 ∧ q.1 < q.2 ∧ q.2 < many) (e : renP ord p = renP ord q) : p = q := by
  have e1 := congrArg Prod.fst e
  have e2 := congrArg Prod.snd e
  obtain ⟨a, b⟩ := p
  obtain ⟨c, d⟩ := q
  dsimp only [renP] at *
  have i1 := fun z => o.inj (a := a) (b := c) hp.1 (by omega) hq.1 (by omega) z
  have i2 := fun z => o.inj (a := a) (b := d) hp.1 (by omega) (by omega) (by omega) z
  have i3 := fun z => o.inj (a := b) (b := c) (by omega) (by omega) hq.1 (by omega) z
  have i4 := fun z => o.inj (a := b) (b := d) (by omega) (by omega) (by omega) (by omega) z
  have i5 := fun z => o.inj (a := a) (b := b) (by omega) (by omega) (by omega) (by omega) z
  generalize atZ ord a = A at *
  generalize atZ ord b = B at *
  generalize atZ ord c = C at *
  generalize atZ ord d = DD at *
  by_cases h1 : A = C
  · have := i1 h1
    by_cases h2 : B = DD
    · have := i4 h2
      subst_vars
      rfl
    · exfalso
      have : A ≠ B := fun z => by have := i5 z; omega
      omega
  · have h2 : A = DD := by omega
    have h3 : B = C := by omega
    have := i2 h2
    have := i3 h3
    exfalso
    omega
theorem mem_nb {ts : List Tie} {u v : Int} (h : ∀ t ∈ ts, t.1 ≠ t.2.1) (l : Lnk (ts.map prOf) u v) : v ∈ nbI ts u := by
  rcases l with l | l
  · obtain ⟨t, ht, e⟩ := List.mem_map.mp l
    refine List.mem_flatMap.mpr ⟨t, ht, ?_⟩
    have e1 : t.1 = u := congrArg Prod.fst e
    have e2 : t.2.1 = v := congrArg Prod.snd e
    unfold nbOf
    rw [if_pos e1, e2]
    exact List.mem_singleton.mpr rfl
  · obtain ⟨t, ht, e⟩ := List.mem_map.mp l
    refine List.mem_flatMap.mpr ⟨t, ht, ?_⟩
    have e1 : t.1 = v := congrArg Prod.fst e
    have e2 : t.2.1 = u := congrArg Prod.snd e
    have := h t ht
    unfold nbOf
    rw [if_neg (by omega), if_pos e2, e1]
    exact List.mem_singleton.mpr rfl
theorem con_rch {n : Nat} {ts : List Tie} (h : ∀ t ∈ ts, 0 ≤ t.1 ∧ t.1 < t.2.1 ∧ t.2.1 < n) {v : Int} (c : Con (ts.map prOf) 0 v) (hn : 0 < n) : 0 ≤ v ∧ v < n ∧ ∃ k, Rch (nearOf n ts) 0 k v.toNat := by
  induction c with
  | refl => exact ⟨Int.le_refl _, by omega, 0, rfl⟩
  | @step b c _ l ih =>
    obtain ⟨b0, b1, k, hk⟩ := ih
    have hc : 0 ≤ c ∧ c < n := by
      rcases l with l | l
      · obtain ⟨t, ht, e⟩ := List.mem_map.mp l
        have e2 : t.2.1 = c := congrArg Prod.snd e
        have := h t ht
        omega
      · obtain ⟨t, ht, e⟩ := List.mem_map.mp l
        have e2 : t.1 = c := congrArg Prod.fst e
        have := h t ht
        omega
    refine ⟨hc.1, hc.2, k + 1, .inr ⟨b.toNat, hk, _, nearOf_at (by omega), ?_⟩⟩
    have e1 : ((b.toNat : Nat) : Int) = b := by omega
    have e2 : ((c.toNat : Nat) : Int) = c := by omega
    rw [e1, e2]
    exact mem_nb (fun t ht => by have := h t ht; omega) l
theorem Called.web {many : Nat} {signs : Int} {ps : List Pr} {ord ss : List Int} {ts : List Tie} (h : Called many signs ps ord ss ts) (p : PairsOk many ps) (h1 : 1 ≤ many) (h2 : many ≤ 16) (h3 : signs ≤ 4) (h4 : ps.length < 64) : WebOk ss ts := by
  have pr : ∀ t ∈ ts, ∃ q ∈ ps, prOf t = renP ord q := fun t ht => by
    obtain ⟨q, hq, e⟩ := List.mem_map.mp (h.prs.mem_iff.mp (List.mem_map.mpr ⟨t, ht, rfl⟩))
    exact ⟨q, hq, e.symm⟩
  have rng : ∀ t ∈ ts, 0 ≤ t.1 ∧ t.1 < t.2.1 ∧ t.2.1 < many := fun t ht => by
    obtain ⟨q, hq, e⟩ := pr t ht
    obtain ⟨q0, q1, q2⟩ := p.rng q hq
    obtain ⟨_, a0, a1⟩ := h.oo.atI (a := q.1) q0 (by omega)
    obtain ⟨_, b0, b1⟩ := h.oo.atI (a := q.2) (by omega) (by omega)
    have hne : atZ ord q.1 ≠ atZ ord q.2 := fun z => by
      have := h.oo.inj q0 (by omega) (by omega) (by omega) z
      omega
    have e1 : t.1 = min (atZ ord q.1) (atZ ord q.2) := congrArg Prod.fst e
    have e2 : t.2.1 = max (atZ ord q.1) (atZ ord q.2) := congrArg Prod.snd e
    omega
  have nd : (ts.map prOf).Nodup := by
    rw [h.prs.nodup_iff, List.nodup_iff_pairwise_ne, List.pairwise_map]
    refine List.Pairwise.imp_of_mem (fun {a b} ha hb hne e => hne ?_) (List.nodup_iff_pairwise_ne.mp p.nd)
    exact renP_inj h.oo (p.rng a ha) (p.rng b hb) e
  refine ⟨by rw [h.len]; exact h1, by rw [h.len]; exact h2, fun s hs => by have := h.sgn s hs; omega, ⟨fun t ht => ?_, ?_, ?_⟩, ?_⟩
  · have := rng t ht
    have := h.wts t ht
    rw [h.len]
    omega
  · have s := h.srt
    rw [List.nodup_iff_pairwise_ne, List.pairwise_map] at nd
    rw [List.pairwise_map] at s
    have := List.Pairwise.and s nd
    refine List.Pairwise.imp_of_mem (fun {t u} ht hu z => ?_) this
    obtain ⟨z1, z2⟩ := z
    rw [pcode_eq, pcode_eq] at z1
    have r1 := rng t ht
    have r2 := rng u hu
    dsimp only [prOf] at z1
    have z2 : ¬ (t.1 = u.1 ∧ t.2.1 = u.2.1) := fun e => z2 (by unfold prOf; rw [e.1, e.2])
    show (if t.1 = u.1 then (if t.2.1 = u.2.1 then false else decide (t.2.1 < u.2.1)) else decide (t.1 < u.1)) = true
    by_cases e : t.1 = u.1
    · rw [if_pos e]
      by_cases e2 : t.2.1 = u.2.1
      · exact absurd ⟨e, e2⟩ z2
      · rw [if_neg e2]
        exact decide_eq_true (by omega)
    · rw [if_neg e]
      exact decide_eq_true (by omega)
  · have := h.prs.length_eq
    rw [List.length_map, List.length_map] at this
    omega
  · rw [h.len]
    have lk : ∀ {b c : Int}, Lnk ps b c → Lnk (ts.map prOf) (atZ ord b) (atZ ord c) := by
      have one : ∀ {b c : Int}, (b, c) ∈ ps → Lnk (ts.map prOf) (atZ ord b) (atZ ord c) := fun {b c} hm => by
        have hr : renP ord (b, c) ∈ ts.map prOf := h.prs.mem_iff.mpr (List.mem_map.mpr ⟨_, hm, rfl⟩)
        by_cases hle : atZ ord b ≤ atZ ord c
        · refine .inl ?_
          have e : renP ord (b, c) = (atZ ord b, atZ ord c) := by
            unfold renP
            dsimp only
            rw [show min (atZ ord b) (atZ ord c) = atZ ord b by omega, show max (atZ ord b) (atZ ord c) = atZ ord c by omega]
          rw [← e]; exact hr
        · refine .inr ?_
          have e : renP ord (b, c) = (atZ ord c, atZ ord b) := by
            unfold renP
            dsimp only
            rw [show min (atZ ord b) (atZ ord c) = atZ ord c by omega, show max (atZ ord b) (atZ ord c) = atZ ord b by omega]
          rw [← e]; exact hr
      intro b c l
      rcases l with l | l
      · exact one l
      · exact (one l).symm
    have cn : ∀ {v : Int}, Con ps 0 v → Con (ts.map prOf) (atZ ord 0) (atZ ord v) := fun {v} c => by
      induction c with
      | refl => exact .refl
      | step _ l ih => exact .step ih (lk l)
    intro v hv
    obtain ⟨k, hk, ek⟩ := h.oo.surj hv
    obtain ⟨j, hj, ej⟩ := h.oo.surj (v := 0) (by omega)
    have c1 := cn (p.con k hk)
    have c2 := cn (p.con j hj)
    rw [ek] at c1
    rw [ej] at c2
    have c3 : Con (ts.map prOf) 0 v := c2.symm.trans c1
    obtain ⟨_, _, m, hm⟩ := con_rch rng c3 (by omega)
    exact ⟨m, by simpa using hm⟩
/-- what is not found in a list of pairs is none of them -/
theorem not_in {ps : List Pr} {p : Pr} (h : ((ps.map fun q => toPy (pairD q)).any fun z => PyData.eqv z (toPy (pairD p))) = false) : p ∉ ps := by
  intro hp
  rw [List.any_eq_false] at h
  exact h _ (List.mem_map.mpr ⟨p, hp, rfl⟩) (plain_refl (plain_row [p.1, p.2]))
end NP
namespace NP
open PySem PySem.Spec PyProof.Rows L2
theorem units65 {k : Nat} {A : Around} (r : Room k A) : A.units + 65 < cLine := by have := r.un; omega
section
variable {K : PySem.W.Frag} {σ : L2.St} {H : Hp} {Q : VK} {D : L2.Ends} {ta : TA}
def rPar (i j : Nat) (σ : L2.St) (vs : List V) (H : Hp) (Q : L2.St → Hp → Prop) : Prop := ∃ v w, vs = [v, w] ∧ Q ((σ.set i (some v)).set j (some w)) H
theorem w_par {i j : Nat} (q : ta σ H fun vs H1 => rPar i j σ vs H1 D.nx) : tPar i j ta D σ H := q
theorem w_par2 {i j : Nat} {v w : V} {Q : L2.St → Hp → Prop} (q : Q ((σ.set i (some v)).set j (some w)) H) : rPar i j σ [v, w] H Q := ⟨v, w, rfl, q⟩
theorem w_cat {l b : Addr} {xs zs : List V} (h1 : H l = some (.lst xs)) (h2 : H b = some (.lst zs)) (hl : xs.length + zs.length ≤ 100000) (q : ∀ p H', H p = none → Same H H' → H' p = some (.lst (xs ++ zs)) → Q (.ref p) H') : rCat (.ref l) (.ref b) H Q :=
  ⟨l, b, xs, zs, rfl, rfl, h1, h2, Nat.le_trans hl (by decide), w_newL (Q := Q) q⟩
theorem w_key {R : It → Hp → Prop} (M : Int → Hp → Prop) (q : ∀ R' : It → Hp → Prop, (∀ j H2, M j H2 → R' (Itr 0 j.toNat) H2) → iRng1 ta σ H R') (k : ∀ j H2, M j H2 → R (Itr 0 j.toNat) H2) : iRng1 ta σ H R := q R k
theorem w_ifKey {c : TT} {t u : TS} (M : Bool → Hp → Prop) (q : ∀ R : Bool → Hp → Prop, (∀ b H', M b H' → R b H') → c σ H R) (k : ∀ b H', M b H' → if b = true then t D σ H' else u D σ H') : tIfS c t u D σ H := q _ k
theorem w_ifInt {t : TT} {a b : Int} (M : Bool → Hp → Prop) (q : ∀ R : Bool → Hp → Prop, (∀ c H', M c H' → R c H') → t σ H R) (k : ∀ c H', M c H' → ∀ m : Int, (m = a ∨ m = b) → Q (.int m) H') : tIf t (tC (.int a)) (tC (.int b)) σ H Q := by
  refine q _ fun c H' hM => ite_tf (fun _ => ?_) (fun _ => ?_)
  · exact k c H' hM a (.inl rfl)
  · exact k c H' hM b (.inr rfl)
theorem w_cb1Key {r : List V → Hp → VK → Prop} {te : TE} (M : V → Hp → Prop) (q : ∀ R : VK, (∀ v H', M v H' → R v H') → te σ H R) (k : ∀ v H', M v H' → r [v] H' Q) : tCB r (tCons te tNil) σ H Q := q _ k
theorem toPyL_map {α : Type} (f : α → Dd) : ∀ l : List α, toPyL (l.map f) = l.map fun a => toPy (f a)
  | [] => rfl
  | a :: r => by
    show toPy (f a) :: toPyL (r.map f) = toPy (f a) :: r.map fun a => toPy (f a)
    rw [toPyL_map f r]
/-- pair not in pairs -/
theorem w_notInPrs {pv : V} {l : Addr} {pvs : List V} {ps : List Pr} {p : Pr} (hp : Im K H pv (pairD p)) (hl : SqL K H l pvs) (hls : ImL K H pvs (ps.map pairD)) (q : ∀ b : Bool, (b = true → p ∉ ps) → Q (.bl b) H) : rNotInD K pv (.ref l) H Q := by
  have pl : PlainL 1 (ps.map pairD) := by rw [pairD_map]; exact plain_rows _
  refine ⟨_, _, hp.dp (plain_row [p.1, p.2]), .lst hl (hls.dp pl), plain_shaped (plain_row [p.1, p.2]) (by decide), ?_, q _ fun e => ?_⟩
  · have := plain_shaped (d := .l (ps.map pairD)) (k := 2) pl (by decide)
    exact this
  · refine not_in ?_
    rw [toPyL_map] at e
    simpa using e
end
def spLWeb (K : PySem.W.Frag) : Sp := fun vs H Q _ => ∃ (h c : Addr) (many : Nat) (signs which : Int), vs = [.ref h, .int many, .int signs, .int which] ∧ 1 ≤ many ∧ many ≤ 16 ∧ 1 ≤ signs ∧ signs ≤ 4 ∧ HandOk H h c ∧
  ∀ v H' ss ts, HandOk H' h c → Kp h H H' → Im K H' v (partsD ss ts) → WebOk ss ts → ss.length = many → ts.length < 64 → Q v H'
end NP

set_option Elab.async false
set_option linter.all false
set_option maxRecDepth 100000
set_option maxHeartbeats 4000000
/-! neighbours by a law's own reckoning -/
namespace NP
open PySem PySem.Spec PyProof.Rows L2
section
variable {K : PySem.W.Frag} {H : Hp} {Q : VK}
theorem kcr_sorted {X : Cx} (K : PySem.W.Frag) (h : X.K = K := by rfl) : CallR X (.builtin "sorted") (rSorted K) := by subst h; exact cr_sorted
theorem w_sortedI {a : Addr} {ns : List Int} (h : SqL K H a (ns.map V.int)) (hl : ns.length < 64) (hs : ns.Pairwise (· ≤ ·)) (q : ∀ p H', H p = none → Same H H' → H' p = some (.lst (ns.map V.int)) → Q (.ref p) H') : rSorted K [V.ref a] H Q :=
  ⟨a, ns, rfl, h, hl, fun ns' p pm ps np => by
    have e : ns' = ns := order_one id pm ps hs fun x _ y _ e => e
    subst e
    exact q p _ np (same_new np) upd_same⟩
theorem nbOf_if (t : Tie) (h : Int) (hne : t.1 ≠ t.2.1) : nbOf h t = if ([t.1, t.2.1].any fun z => z == h) = true then [t.1 + t.2.1 - h] else [] := by
  unfold nbOf
  by_cases h1 : t.1 = h
  · rw [if_pos h1, if_pos (by simp [h1])]
    congr 1
    omega
  · by_cases h2 : t.2.1 = h
    · rw [if_neg h1, if_pos h2, if_pos (by simp [h2])]
      congr 1
      omega
    · rw [if_neg h1, if_neg h2, if_neg (by simp [h1, h2])]
theorem nbI_sorted {n : Nat} {ts : List Tie} (o : TiesOk n ts) (h : Int) : (nbI ts h).Pairwise (· ≤ ·) := by
  unfold nbI
  rw [List.pairwise_flatMap]
  refine ⟨fun t ht => ?_, ?_⟩
  · unfold nbOf
    split
    · simp
    · split
      · simp
      · simp
  · refine List.Pairwise.imp_of_mem (fun {t u} ht hu z => ?_) o.asc
    intro x hx y hy
    have rt := o.rng t ht
    have ru := o.rng u hu
    have z : (if t.1 = u.1 then (if t.2.1 = u.2.1 then false else decide (t.2.1 < u.2.1)) else decide (t.1 < u.1)) = true := z
    unfold nbOf at hx hy
    have z' : t.1 < u.1 ∨ (t.1 = u.1 ∧ t.2.1 < u.2.1) := by
      by_cases e : t.1 = u.1
      · rw [if_pos e] at z
        by_cases e2 : t.2.1 = u.2.1
        · rw [if_pos e2] at z; cases z
        · rw [if_neg e2] at z
          exact .inr ⟨e, of_decide_eq_true z⟩
      · rw [if_neg e] at z
        exact .inl (of_decide_eq_true z)
    split at hx
    · split at hy
      · simp at hx hy; omega
      · split at hy
        · simp at hx hy; omega
        · cases hy
    · split at hx
      · split at hy
        · simp at hx hy; omega
        · split at hy
          · simp at hx hy; omega
          · cases hy
      · cases hx
def spLNear (K : PySem.W.Frag) : Sp := fun vs H Q _ => ∃ pv ss ts h, vs = [pv, .int h] ∧ Im K H pv (partsD ss ts) ∧ TiesOk ss.length ts ∧ ts.length < 64 ∧ ∀ p H', H p = none → Same H H' → H' p = some (.lst ((nbI ts h).map V.int)) → Q (.ref p) H'
theorem ImL.consD {vs : List V} {d : Dd} {ds : List Dd} (h : ImL K H vs (d :: ds)) : ∃ v r, vs = v :: r ∧ Im K H v d ∧ ImL K H r ds := by
  cases h with
  | cons h hl => exact ⟨_, _, rfl, h, hl⟩
theorem ImL.nilD {vs : List V} (h : ImL K H vs []) : vs = [] := by
  cases h with
  | nil => rfl
theorem Im.parts {pv : V} {ss : List Int} {ts : List Tie} (h : Im K H pv (partsD ss ts)) : ∃ pa sa ta tvs, pv = .ref pa ∧ SqT K H pa [.ref sa, .ref ta] ∧ SqT K H sa (ss.map V.int) ∧ SqT K H ta tvs ∧ ImL K H tvs (ts.map tieD) ∧ Im K H (.ref sa) (signsD ss) ∧ Im K H (.ref ta) (tiesD ts) := by
  obtain ⟨pa, pvs, rfl, h1, h2⟩ := h.tup_inv
  obtain ⟨v1, r1, rfl, i1, h3⟩ := h2.consD
  obtain ⟨v2, r2, rfl, i2, h4⟩ := h3.consD
  have := h4.nilD
  subst this
  obtain ⟨sa, svs, rfl, hs, ls⟩ := i1.tup_inv
  have e := imL_ints_inv ls
  subst e
  obtain ⟨ta, tvs, rfl, ht, lt⟩ := i2.tup_inv
  exact ⟨pa, sa, ta, tvs, rfl, h1, hs, ht, lt, i1, i2⟩
theorem tie_at {tvs : List V} {ts : List Tie} {i : Nat} {x : V} (h : ImL K H tvs (ts.map tieD)) (e : tvs[i]? = some x) : ∃ t wt, ts[i]? = some t ∧ x = .ref wt ∧ SqT K H wt [.int t.1, .int t.2.1, .int t.2.2] := by
  obtain ⟨d, hd, hm⟩ := h.at e
  rw [List.getElem?_map] at hd
  cases e : ts[i]? with
  | none => rw [e] at hd; cases hd
  | some t =>
    rw [e] at hd
    have hd := Option.some.inj hd
    subst hd
    obtain ⟨wt, rfl, hwt⟩ := hm.tie_inv
    exact ⟨t, wt, rfl, rfl, hwt⟩
end
end NP

set_option Elab.async false
set_option linter.all false
set_option maxRecDepth 100000
set_option maxHeartbeats 4000000
/-! kinds by a law's own reckoning; houses called otherwise -/
namespace NP
open PySem PySem.Spec PyProof.Rows L2
section
variable {K : PySem.W.Frag} {H : Hp} {Q : VK}
theorem eqvAll_ints : ∀ xs ys : List Int, PyData.eqvAll (toPyL (xs.map Dd.i)) (toPyL (ys.map Dd.i)) = decide (xs = ys)
  | [], [] => rfl
  | [], _ :: _ => rfl
  | _ :: _, [] => rfl
  | x :: xs, y :: ys => by
    show (decide (x = y) && PyData.eqvAll (toPyL (xs.map Dd.i)) (toPyL (ys.map Dd.i))) = _
    rw [eqvAll_ints xs ys]
    by_cases h1 : x = y
    · by_cases h2 : xs = ys
      · simp [h1, h2]
      · simp [h1, h2]
    · simp [h1]
theorem w_eqIs {a b : Addr} {xs ys : List Int} (h1 : SqL K H a (xs.map V.int)) (h2 : SqL K H b (ys.map V.int)) (q : Q (.bl (decide (xs = ys))) H) : rEqD K (.ref a) (.ref b) H Q := by
  have p : ∀ zs : List Int, Plain 1 (.l (zs.map Dd.i)) := fun zs => plainL_ints 0 zs
  refine ⟨_, _, (Im.l h1 (imL_ints xs)).dp (p xs), (Im.l h2 (imL_ints ys)).dp (p ys), plain_shaped (p xs) (by decide), plain_shaped (p ys) (by decide), ?_⟩
  have e : PyData.eqv (toPy (.l (xs.map Dd.i))) (toPy (.l (ys.map Dd.i))) = decide (xs = ys) := eqvAll_ints xs ys
  rw [e]
  exact q
def spLKind (K : PySem.W.Frag) : Sp := fun vs H Q _ => ∃ px ss ts, vs = [px] ∧ Im K H px (partsD ss ts) ∧ TiesOk ss.length ts ∧ ss.length ≤ 16 ∧ ts.length < 64 ∧ ∀ H', Same H H' → Q (.str (kindS ss.length ts)) H'
theorem isRing_eq (n : Nat) (ts : List Tie) : isRing n ts = (decide (2 < (n : Int)) && decide (((List.range n).map fun i : Nat => (((nbI ts (i : Int)).length : Nat) : Int)) = List.replicate n 2)) := by
  unfold isRing
  have e1 : decide (3 ≤ n) = decide (2 < (n : Int)) := decide_eq_decide.mpr ⟨fun h => by omega, fun h => by omega⟩
  rw [e1]
  congr 1
  rw [Bool.eq_iff_iff, decide_eq_true_eq, List.all_eq_true]
  unfold nearOf
  rw [show ((n : Nat) : Int).toNat = n by omega]
  constructor
  · intro h
    refine List.eq_replicate_iff.mpr ⟨by rw [List.length_map, List.length_range], fun x hx => ?_⟩
    obtain ⟨i, hi, rfl⟩ := List.mem_map.mp hx
    have := of_decide_eq_true (h _ (List.mem_map.mpr ⟨i, hi, rfl⟩))
    omega
  · intro h r hr
    obtain ⟨i, hi, rfl⟩ := List.mem_map.mp hr
    have := (List.eq_replicate_iff.mp h).2 _ (List.mem_map.mpr ⟨i, hi, rfl⟩)
    exact decide_eq_true (by omega)
end
end NP
namespace NP
open PySem PySem.Spec PyProof.Rows L2
def spLRen (K : PySem.W.Frag) : Sp := fun vs H Q _ => ∃ px oa ss ts ord, vs = [px, .ref oa] ∧ Im K H px (partsD ss ts) ∧ SqL K H oa (ord.map V.int) ∧ OrdOk ss.length ord ∧ ss.length ≤ 16 ∧ TiesOk ss.length ts ∧ ts.length < 64 ∧
  ∀ v H' ss' ts', Same H H' → Im K H' v (partsD ss' ts') → Ren ss.length ord ss ts ss' ts' → Q v H'
end NP

set_option Elab.async false
set_option linter.all false
set_option maxRecDepth 100000
set_option maxHeartbeats 4000000
/-! distances by a law's own reckoning -/
namespace NP
open PySem PySem.Spec PyProof.Rows L2
theorem units1 {k : Nat} {A : Around} (r : Room k A) : A.units + 1 < cLine := by have := r.un; omega
theorem putK_nd {kvs : List (Key × V)} {k : Key} {v : V} (h : (kvs.map (·.1)).Nodup) : ((putK kvs k v).map (·.1)).Nodup := by
  unfold putK
  split
  · have e : (kvs.map fun kv => if kv.1 = k then (kv.1, v) else kv).map (·.1) = kvs.map (·.1) := by
      rw [List.map_map]
      refine List.map_congr_left fun x _ => ?_
      show (if x.1 = k then (x.1, v) else x).1 = x.1
      split <;> rfl
    rw [e]
    exact h
  · rename_i hn
    rw [List.map_append, List.nodup_append]
    refine ⟨h, by simp, fun a ha b hb e => hn ?_⟩
    have : b = k := by simpa using hb
    subst this
    subst e
    obtain ⟨p, hp, e⟩ := List.mem_map.mp ha
    exact List.any_eq_true.mpr ⟨p, hp, decide_eq_true e⟩
theorem valV_mem {kvs : List (Key × V)} {p : Key × V} (h : p ∈ kvs) : ∃ x, valV kvs p.1 = some x := by
  have e := valV_any p.1 kvs
  rw [List.any_eq_true.mpr ⟨p, h, decide_eq_true rfl⟩] at e
  cases hv : valV kvs p.1 with
  | none => rw [hv] at e; cases e
  | some x => exact ⟨x, rfl⟩
theorem mem_valV {kvs : List (Key × V)} {k : Key} {x : V} (h : valV kvs k = some x) : ∃ p ∈ kvs, p.1 = k := by
  have e := valV_any k kvs
  rw [h] at e
  obtain ⟨p, hp, e⟩ := List.any_eq_true.mp e
  exact ⟨p, hp, of_decide_eq_true e⟩
def kI (v : Nat) : Key := .inl (v : Int)
theorem kI_inj {u v : Nat} (h : kI u = kI v) : u = v := by
  have : (u : Int) = v := Sum.inl.inj h
  omega
structure Lvl (rows : List (List Int)) (h s : Nat) (Pd : Nat → Prop) (kvs : List (Key × V)) : Prop where
  nd : (kvs.map (·.1)).Nodup
  snd : ∀ key x, valV kvs key = some x → ∃ v k : Nat, key = kI v ∧ x = .int k ∧ v < rows.length ∧ ((k ≤ s ∧ Dst rows h k v) ∨ (k = s + 1 ∧ ¬ Rch rows h s v ∧ Pd v))
  lvl : ∀ v k, k ≤ s → Dst rows h k v → valV kvs (kI v) = some (.int k)
  nxt : ∀ v, v < rows.length → ¬ Rch rows h s v → Pd v → valV kvs (kI v) = some (.int ((s + 1 : Nat) : Int))
section
variable {rows : List (List Int)} {h s : Nat} {Pd : Nat → Prop} {kvs : List (Key × V)}
theorem Lvl.start (hh : h < rows.length) : Lvl rows h 0 (fun _ => False) [(kI h, .int 0)] := by
  have d0 : Dst rows h 0 h := ⟨rfl, fun j hj => absurd hj (Nat.not_lt_zero _)⟩
  refine ⟨by simp, fun key x e => ?_, fun v k hk d => ?_, fun _ _ _ f => f.elim⟩
  · by_cases e2 : kI h = key
    · rw [valV_pos e2] at e
      have e := Option.some.inj e
      subst e
      exact ⟨h, 0, e2.symm, rfl, hh, .inl ⟨Nat.le_refl _, d0⟩⟩
    · rw [valV_neg e2] at e
      cases e
  · have : k = 0 := by omega
    subst this
    have : v = h := d.1
    subst this
    exact valV_pos rfl
theorem Lvl.len (l : Lvl rows h s Pd kvs) : kvs.length ≤ rows.length := by
  have := List.Nodup.length_le_of_subset (l₁ := kvs.map (·.1)) (l₂ := (List.range rows.length).map kI) l.nd fun x hx => by
    obtain ⟨p, hp, rfl⟩ := List.mem_map.mp hx
    obtain ⟨y, hy⟩ := valV_mem hp
    obtain ⟨v, k, e, _, hv, _⟩ := l.snd _ _ hy
    exact List.mem_map.mpr ⟨v, List.mem_range.mpr hv, e.symm⟩
  rw [List.length_map, List.length_map, List.length_range] at this
  exact this
theorem Lvl.imp {Pe : Nat → Prop} (l : Lvl rows h s Pd kvs) (e : ∀ v, Pd v ↔ Pe v) : Lvl rows h s Pe kvs :=
  ⟨l.nd, fun key x q => by
    obtain ⟨v, k, a, b, c, d⟩ := l.snd key x q
    exact ⟨v, k, a, b, c, d.imp id fun z => ⟨z.1, z.2.1, (e v).mp z.2.2⟩⟩, l.lvl, fun v hv n p => l.nxt v hv n ((e v).mpr p)⟩
/-- what is known of a house's value so far -/
theorem Lvl.get (l : Lvl rows h s Pd kvs) (v : Nat) : ∃ a : Nat, (valV kvs (kI v)).getD (.int ((s : Int) + 1)) = .int a ∧ a ≤ s + 1 ∧ (valV kvs (kI v) = none → a = s + 1) := by
  cases e : valV kvs (kI v) with
  | none => exact ⟨s + 1, by show V.int _ = V.int _; congr 1, Nat.le_refl _, fun _ => rfl⟩
  | some x =>
    obtain ⟨w, k, e1, rfl, hw, r⟩ := l.snd _ _ e
    refine ⟨k, rfl, ?_, fun z => by cases z⟩
    rcases r with ⟨a, _⟩ | ⟨a, _⟩ <;> omega
theorem Lvl.put (l : Lvl rows h s Pd kvs) {v : Nat} (hv : v < rows.length) {a : Nat} (ha : (valV kvs (kI v)).getD (.int ((s : Int) + 1)) = .int a) (hs : v = h ∨ ∃ u, Rch rows h s u ∧ Adj rows u v) : Lvl rows h s (fun w => Pd w ∨ w = v) (putK kvs (kI v) (.int a)) := by
  have hR1 : Rch rows h (s + 1) v := by
    rcases hs with rfl | ⟨u, hu, ad⟩
    · exact Rch.mono (k := 0) rfl (Nat.zero_le _)
    · exact .inr ⟨u, hu, ad⟩
  refine ⟨putK_nd l.nd, fun key x e => ?_, fun w k hk d => ?_, fun w hw hn hp => ?_⟩
  · rw [valV_put] at e
    by_cases hk : key = kI v
    · rw [if_pos hk] at e
      have e := Option.some.inj e
      subst e
      cases ev : valV kvs (kI v) with
      | none =>
        rw [ev] at ha
        have ha : (s : Int) + 1 = a := V.int.inj ha
        refine ⟨v, a, hk, rfl, hv, .inr ⟨by omega, fun hr => ?_, .inr rfl⟩⟩
        obtain ⟨j, hj, d⟩ := hr.least
        rw [l.lvl v j hj d] at ev
        cases ev
      | some y =>
        rw [ev] at ha
        have ha : y = .int a := ha
        subst ha
        obtain ⟨w, k, e1, e2, hw, r⟩ := l.snd _ _ ev
        have e1 := kI_inj e1
        subst e1
        have e2 : (a : Int) = k := V.int.inj e2
        have e2 : a = k := by omega
        subst e2
        exact ⟨v, a, hk, rfl, hv, r.imp id fun z => ⟨z.1, z.2.1, .inl z.2.2⟩⟩
    · rw [if_neg hk] at e
      obtain ⟨w, k, e1, e2, hw, r⟩ := l.snd _ _ e
      exact ⟨w, k, e1, e2, hw, r.imp id fun z => ⟨z.1, z.2.1, .inl z.2.2⟩⟩
  · rw [valV_put]
    have hl := l.lvl w k hk d
    by_cases e : kI w = kI v
    · rw [if_pos e]
      rw [e] at hl
      rw [hl] at ha
      exact congrArg some ha.symm
    · rw [if_neg e]
      exact hl
  · rw [valV_put]
    by_cases e : kI w = kI v
    · rw [if_pos e]
      have e' := kI_inj e
      subst e'
      cases ev : valV kvs (kI w) with
      | none =>
        rw [ev] at ha
        have ha : (s : Int) + 1 = a := V.int.inj ha
        congr 2
        omega
      | some y =>
        obtain ⟨w', k, e1, e2, hw', r⟩ := l.snd _ _ ev
        rw [ev] at ha
        have ha : y = .int a := ha
        have e1 := kI_inj e1
        subst e1
        rcases r with ⟨hk, d⟩ | ⟨hk, _⟩
        · exact absurd (d.1.mono hk) hn
        · subst e2
          have ha : (k : Int) = a := V.int.inj ha
          congr 2
          omega
    · rw [if_neg e]
      rcases hp with hp | hp
      · exact l.nxt w hw hn hp
      · exact absurd (congrArg kI hp) e
theorem Lvl.step (l : Lvl rows h s Pd kvs) (hb : ∀ k v, Rch rows h k v → v < rows.length) (e : ∀ v, Pd v ↔ ∃ u, Dst rows h s u ∧ Adj rows u v) : Lvl rows h (s + 1) (fun _ => False) kvs := by
  refine ⟨l.nd, fun key x q => ?_, fun v k hk d => ?_, fun _ _ _ f => f.elim⟩
  · obtain ⟨v, k, a, b, c, r⟩ := l.snd key x q
    refine ⟨v, k, a, b, c, .inl ?_⟩
    rcases r with ⟨hk, d⟩ | ⟨rfl, hn, p⟩
    · exact ⟨by omega, d⟩
    · exact ⟨Nat.le_refl _, Dst.next.mpr ⟨hn, (e v).mp p⟩⟩
  · by_cases h1 : k ≤ s
    · exact l.lvl v k h1 d
    · have : k = s + 1 := by omega
      subst this
      obtain ⟨hn, hu⟩ := Dst.next.mp d
      exact l.nxt v (hb _ _ d.1) hn ((e v).mpr hu)
end
/-- from any house to any other -/
theorem con_rchA {n : Nat} {ts : List Tie} (h : ∀ t ∈ ts, 0 ≤ t.1 ∧ t.1 < t.2.1 ∧ t.2.1 < n) {a v : Int} (ha : 0 ≤ a ∧ a < n) (c : Con (ts.map prOf) a v) : 0 ≤ v ∧ v < n ∧ ∃ k, Rch (nearOf n ts) a.toNat k v.toNat := by
  induction c with
  | refl => exact ⟨ha.1, ha.2, 0, rfl⟩
  | @step b c _ l ih =>
    obtain ⟨b0, b1, k, hk⟩ := ih
    have hc : 0 ≤ c ∧ c < n := by
      rcases l with l | l
      · obtain ⟨t, ht, e⟩ := List.mem_map.mp l
        have e2 : t.2.1 = c := congrArg Prod.snd e
        have := h t ht
        omega
      · obtain ⟨t, ht, e⟩ := List.mem_map.mp l
        have e2 : t.1 = c := congrArg Prod.fst e
        have := h t ht
        omega
    refine ⟨hc.1, hc.2, k + 1, .inr ⟨b.toNat, hk, _, nearOf_at (by omega), ?_⟩⟩
    have e1 : ((b.toNat : Nat) : Int) = b := by omega
    have e2 : ((c.toNat : Nat) : Int) = c := by omega
    rw [e1, e2]
    exact mem_nb (fun t ht => by have := h t ht; omega) l
theorem nb_lnk {ts : List Tie} {u v : Int} (l : v ∈ nbI ts u) : Lnk (ts.map prOf) u v := by
  obtain ⟨t, ht, hx⟩ := List.mem_flatMap.mp l
  unfold nbOf at hx
  split at hx
  · rename_i e
    have : v = t.2.1 := by simpa using hx
    subst this
    exact .inl (List.mem_map.mpr ⟨t, ht, by unfold prOf; rw [e]⟩)
  · split at hx
    · rename_i e
      have : v = t.1 := by simpa using hx
      subst this
      exact .inr (List.mem_map.mpr ⟨t, ht, by unfold prOf; rw [e]⟩)
    · cases hx
theorem rch_con {n : Nat} {ts : List Tie} {s : Nat} (hn : s < n) (h : ∀ t ∈ ts, 0 ≤ t.1 ∧ t.1 < t.2.1 ∧ t.2.1 < n) : ∀ {k v : Nat}, Rch (nearOf n ts) s k v → v < n ∧ Con (ts.map prOf) s v := by
  intro k
  induction k with
  | zero => intro v e; cases e; exact ⟨hn, .refl⟩
  | succ k ih =>
    intro v e
    rcases e with e | ⟨u, hu, r, hr, hm⟩
    · exact ih e
    · obtain ⟨u1, u2⟩ := ih hu
      rw [nearOf_at (by omega)] at hr
      have hr := Option.some.inj hr
      subst hr
      have hl := nb_lnk hm
      refine ⟨?_, .step u2 hl⟩
      rcases hl with l | l
      · obtain ⟨t, ht, e⟩ := List.mem_map.mp l
        have e2 : t.2.1 = v := congrArg Prod.snd e
        have := h t ht
        omega
      · obtain ⟨t, ht, e⟩ := List.mem_map.mp l
        have e2 : t.1 = v := congrArg Prod.fst e
        have := h t ht
        omega
theorem joined_all {n : Nat} {ts : List Tie} (o : TiesOk n ts) (j : Joined n ts) {a v : Nat} (ha : a < n) (hv : v < n) : ∃ k, Rch (nearOf n ts) a k v := by
  have rng : ∀ t ∈ ts, 0 ≤ t.1 ∧ t.1 < t.2.1 ∧ t.2.1 < n := fun t ht => by
    have := o.rng t ht
    omega
  obtain ⟨k1, h1⟩ := j a ha
  obtain ⟨k2, h2⟩ := j v hv
  have c1 := (rch_con (by omega) rng h1).2
  have c2 := (rch_con (by omega) rng h2).2
  obtain ⟨_, _, k, hk⟩ := con_rchA rng (a := a) ⟨by omega, by omega⟩ (c1.symm.trans c2)
  exact ⟨k, by simpa using hk⟩
theorem FarOk.uniq {rows : List (List Int)} {s : Nat} {f g : List Int} (hf : FarOk rows s f) (hg : FarOk rows s g) : f = g := by
  refine List.ext_getElem (by rw [hf.1, hg.1]) fun v h1 h2 => ?_
  have a := hf.2 v _ (List.getElem?_eq_getElem h1)
  have b := hg.2 v _ (List.getElem?_eq_getElem h2)
  rcases a with ⟨i, d, e⟩ | ⟨n, e⟩
  · rcases b with ⟨j, d2, e2⟩ | ⟨n2, _⟩
    · rw [e, e2, d.uniq d2]
    · exact absurd d.1 (n2 i)
  · rcases b with ⟨j, d2, e2⟩ | ⟨n2, e2⟩
    · exact absurd d2.1 (n j)
    · rw [e, e2]
/-- so many steps are enough -/
theorem dst_few {rows : List (List Int)} {s : Nat} (hb : ∀ k v, Rch rows s k v → v < rows.length) : ∀ {k v : Nat}, Dst rows s k v → k < rows.length := by
  intro k v d
  -- one house at each level up to k
  have lv : ∀ j, j ≤ k → ∃ u, Dst rows s j u := by
    intro j hj
    obtain ⟨m, hm⟩ : ∃ m, k = j + m := ⟨k - j, by omega⟩
    revert v
    subst hm
    induction m with
    | zero => intro v d; exact ⟨v, d⟩
    | succ m ih =>
      intro v d
      obtain ⟨_, u, hu, _⟩ := Dst.next.mp d
      exact ih (by omega) hu
  by_cases hk : k < rows.length
  · exact hk
  · exfalso
    have ch : ∃ f : Nat → Nat, ∀ j, j ≤ k → Dst rows s j (f j) := ⟨fun j => if h : j ≤ k then (lv j h).choose else 0, fun j hj => by
      show Dst rows s j (if h : j ≤ k then (lv j h).choose else 0)
      rw [dif_pos hj]
      exact (lv j hj).choose_spec⟩
    obtain ⟨f, hf⟩ := ch
    have := List.Nodup.length_le_of_subset (l₁ := (List.range (k + 1)).map f) (l₂ := List.range rows.length) (by
      rw [List.nodup_iff_pairwise_ne, List.pairwise_map]
      refine List.Pairwise.imp_of_mem (fun {a b} ha hb hne e => hne ?_) (List.nodup_range (n := k + 1))
      have d1 := hf a (by have := List.mem_range.mp ha; omega)
      have d2 := hf b (by have := List.mem_range.mp hb; omega)
      rw [e] at d1
      exact d1.uniq d2) fun x hx => by
        obtain ⟨j, hj, rfl⟩ := List.mem_map.mp hx
        exact List.mem_range.mpr (hb _ _ (hf j (by have := List.mem_range.mp hj; omega)).1)
    rw [List.length_map, List.length_range, List.length_range] at this
    omega
end NP
namespace NP
open PySem PySem.Spec PyProof.Rows L2
def valI (kvs : List (Key × V)) (v : Nat) : Int := match valV kvs (kI v) with | some (.int k) => k | _ => 0
theorem valI_of {kvs : List (Key × V)} {v : Nat} {k : Int} (h : valV kvs (kI v) = some (.int k)) : valI kvs v = k := by unfold valI; rw [h]
def spLFar (K : PySem.W.Frag) : Sp := fun vs H Q _ => ∃ px ss ts h, vs = [px, .int h] ∧ Im K H px (partsD ss ts) ∧ TiesOk ss.length ts ∧ Joined ss.length ts ∧ ss.length ≤ 16 ∧ ts.length < 64 ∧ 0 ≤ h ∧ h < ss.length ∧
  ∀ v H' fl, Same H H' → FarOk (nearOf ss.length ts) h.toNat fl → Im K H' v (.t (fl.map Dd.i)) → Q v H'
section
variable {K : PySem.W.Frag} {σ : L2.St} {H : Hp} {Q : VK} {D : L2.Ends} {td ty tx tv tk : TE}
def rDGet (x y : V) (H : Hp) (Q : VK) : Prop := ∃ a v, x = .ref a ∧ DGet H a y (some v) ∧ Q v H
theorem w_dget (q : td σ H fun x H1 => ty σ H1 fun y H2 => rDGet x y H2 Q) : tDGet td ty σ H Q := q
theorem w_dgetK {a : Addr} {kvs : List (Key × V)} {v : Nat} {x : V} (h : Rd H a (.dK kvs)) (e : valV kvs (kI v) = some x) (q : Q x H) : rDGet (.ref a) (.int v) H Q := ⟨a, x, rfl, .inl ⟨kvs, kI v, h, rfl, e.symm⟩, q⟩
def rDGet2 (a : Addr) (y z : V) (H : Hp) (Q : VK) : Prop := ∃ o, DGet H a y o ∧ Q (o.getD z) H
def rIsD (x : V) (H : Hp) (P : Addr → Prop) : Prop := ∃ a, x = .ref a ∧ IsD H a ∧ P a
theorem w_dget2 (q : td σ H fun x H1 => rIsD x H1 fun a => ty σ H1 fun y H2 => tx σ H2 fun z H3 => rDGet2 a y z H3 Q) : tDGet2 td ty tx σ H Q := q
def rDPut (x y v : V) (H : Hp) (Q : Hp → Prop) : Prop := ∃ a H4, x = .ref a ∧ DPut H a y v H4 ∧ Q H4
theorem w_dput (q : tv σ H fun v H1 => td σ H1 fun x H2 => ty σ H2 fun y H3 => rDPut x y v H3 (D.nx σ)) : sDPut td ty tv D σ H := q
theorem w_dputK {a : Addr} {kvs : List (Key × V)} {v : Nat} {x : V} {Q : Hp → Prop} (h : H a = some (.dK kvs)) (hl : kvs.length ≤ 1000) (q : ∀ H', H' a = some (.dK (putK kvs (kI v) x)) → Kp a H H' → Q H') : rDPut (.ref a) (.int v) x H Q :=
  ⟨a, _, rfl, .inl ⟨kvs, kI v, h, rfl, Nat.lt_of_le_of_lt hl (by decide), rfl⟩, q _ upd_same (Kp.upd _ _ _)⟩
end
end NP

set_option Elab.async false
set_option linter.all false
set_option maxRecDepth 100000
set_option maxHeartbeats 4000000
/-! what the law itself asks -/
namespace NP
open PySem PySem.Spec PyProof.Rows L2
mutual
theorem plain_up : ∀ {d : Dd} {k : Nat}, Plain k d → Plain (k + 1) d
  | .i _, _, _ => trivial
  | .b _, _, _ => trivial
  | .n, _, _ => trivial
  | .s z, k, p => by cases k <;> exact p
  | .t xs, 0, p => False.elim p
  | .l xs, 0, p => False.elim p
  | .t xs, k + 1, p => plainL_up (k := k) p
  | .l xs, k + 1, p => plainL_up (k := k) p
  | .o, k, p => False.elim (by cases k <;> exact p)
theorem plainL_up : ∀ {ds : List Dd} {k : Nat}, PlainL k ds → PlainL (k + 1) ds
  | [], _, _ => trivial
  | d :: r, k, p => ⟨plain_up p.1, plainL_up p.2⟩
end
theorem shrt_ints : ∀ ns : List Int, ShrtL (ns.map Dd.i)
  | [] => trivial
  | n :: r => ⟨trivial, shrt_ints r⟩
theorem shrt_row {ns : List Int} (h : ns.length ≤ 10000) : Shrt (.t (ns.map Dd.i)) := ⟨by rw [List.length_map]; exact h, shrt_ints ns⟩
theorem shrt_tiesL : ∀ ts : List Tie, ShrtL (ts.map tieD)
  | [] => trivial
  | t :: r => ⟨⟨show 3 ≤ 10000 by decide, shrt_ints [t.1, t.2.1, t.2.2]⟩, shrt_tiesL r⟩
theorem shrt_ties {ts : List Tie} (h : ts.length ≤ 10000) : Shrt (tiesD ts) := ⟨by rw [List.length_map]; exact h, shrt_tiesL ts⟩
section
variable {K : PySem.W.Frag} {H : Hp} {Q : VK}
theorem kcr_max {X : Cx} (K : PySem.W.Frag) (hc : X.calm = true) (h : X.K = K := by rfl) : CallR X (.builtin "max") (rMax K) := by subst h; exact cr_max hc
theorem kmt_index {X : Cx} (K : PySem.W.Frag) (h : X.K = K := by rfl) : MtR X "list.index" (rIndex K) := by subst h; exact mt_index
theorem w_maxL {a : Addr} {ns : List Int} (h : SqL K H a (ns.map V.int)) (h0 : ns ≠ []) (q : ∀ m, m ∈ ns → (∀ y ∈ ns, y ≤ m) → Q (.int m) H) : rMax K [V.ref a] H Q := ⟨a, ns, rfl, h, List.length_pos_iff.mpr h0, q⟩
theorem w_indexI {a : Addr} {ns : List Int} {z : Int} {j : Nat} (h : SqL K H a (ns.map V.int)) (nd : ns.Nodup) (hj : ns[j]? = some z) (q : Q (.int (j : Nat)) H) : rIndex K (.ref a) [.int z] H Q := by
  refine ⟨a, _, .int z, j, .int z, rfl, rfl, h, rfl, flat_ints ns, at_ints hj, by simp [eqV], fun m z' hm hz => ?_, q⟩
  obtain ⟨y, hy, rfl⟩ := ints_at hz
  have : y ≠ z := fun e => by
    subst e
    have l1 := (List.getElem?_eq_some_iff.mp hj).1
    have := (List.getElem?_inj l1 nd).mp (hj.trans hy.symm)
    omega
  simp [eqV, this]
theorem w_catT {a b : Addr} {xs ys : List V} (h1 : SqT K H a xs) (h2 : SqT K H b ys) (n1 : xs ≠ []) (n2 : ys ≠ []) (hl : xs.length + ys.length ≤ 100000) (q : ∀ p H', H p = none → Same H H' → H' p = some (.tup (xs ++ ys)) → Q (.ref p) H') : rCatT K (.ref a) (.ref b) H Q :=
  ⟨a, b, xs, ys, rfl, rfl, h1, h2, n1, Nat.le_trans hl (by decide), fun e => absurd e n2, fun _ => w_newT (Q := Q) q⟩
theorem w_eqWeb {C : Addr} {x y : V} {ss : List Int} {ts : List Tie} (h1 : WebAt K C H x ss ts) (h2 : WebAt K C H y ss ts) (q : ∀ H', Same H H' → Q (.bl true) H') : rEqG (DIns C (WebsEq K C)) x y H Q := by
  obtain ⟨a, dx, sv, tv, rfl, ha, r1⟩ := id h1
  obtain ⟨b, dy, sv2, tv2, rfl, hb, r2⟩ := id h2
  exact ⟨⟨a, b, dx, dy, _, _, rfl, rfl, ha, hb, ss, ts, h1, h2⟩, fun H' e => q H' e⟩
end
/-- who is called so -/
def backO (n : Nat) (ord : List Int) : List Int := (List.range n).map fun v : Nat => ((ord.idxOf (v : Int) : Nat) : Int)
theorem backO_len {n : Nat} {ord : List Int} : (backO n ord).length = n := by unfold backO; rw [List.length_map, List.length_range]
theorem OrdOk.idx {n : Nat} {ord : List Int} (o : OrdOk n ord) {v : Nat} (hv : v < n) : ord[ord.idxOf (v : Int)]? = some (v : Int) ∧ ord.idxOf (v : Int) < n := by
  obtain ⟨k, hk, e⟩ := o.surj hv
  have hm : (v : Int) ∈ ord := by
    rw [← e]
    exact List.mem_of_getElem? (o.atI (a := k) (by omega) (by omega)).1
  have hl := List.idxOf_lt_length_iff.mpr hm
  refine ⟨?_, by rw [← o.len]; exact hl⟩
  rw [List.getElem?_eq_getElem hl, List.getElem_idxOf]
theorem atZ_back {n : Nat} {ord : List Int} {v : Nat} (hv : v < n) : atZ (backO n ord) (v : Nat) = ((ord.idxOf (v : Int) : Nat) : Int) := by
  unfold atZ backO
  rw [List.getD_eq_getElem?_getD, show ((v : Nat) : Int).toNat = v by omega, List.getElem?_map, List.getElem?_range hv]
  rfl
theorem OrdOk.back {n : Nat} {ord : List Int} (o : OrdOk n ord) : OrdOk n (backO n ord) ∧ ∀ k, k < n → atZ (backO n ord) (atZ ord (k : Nat)) = k := by
  refine ⟨⟨backO_len, ?_, fun x hx => ?_⟩, fun k hk => ?_⟩
  · unfold backO
    rw [List.nodup_iff_pairwise_ne, List.pairwise_map]
    refine List.Pairwise.imp_of_mem (fun {a b} ha hb hne e => hne ?_) (List.nodup_range (n := n))
    have h1 := (o.idx (v := a) (List.mem_range.mp ha)).1
    have h2 := (o.idx (v := b) (List.mem_range.mp hb)).1
    have e' : ord.idxOf (a : Int) = ord.idxOf (b : Int) := by omega
    rw [e', h2] at h1
    have := Option.some.inj h1
    omega
  · obtain ⟨v, hv, rfl⟩ := List.mem_map.mp hx
    have := (o.idx (v := v) (List.mem_range.mp hv)).2
    omega
  · obtain ⟨z, e1, e2, z0, z1⟩ := o.at hk
    rw [e2]
    obtain ⟨m, rfl⟩ : ∃ m : Nat, z = m := ⟨z.toNat, by omega⟩
    rw [atZ_back (by omega)]
    have h1 := (o.idx (v := m) (by omega)).1
    have l1 := (List.getElem?_eq_some_iff.mp e1).1
    have := (List.getElem?_inj l1 o.nd).mp (e1.trans h1.symm)
    omega
theorem Ren.small {n : Nat} {ord ss s1 : List Int} {ts t1 : List Tie} (o : OrdOk n ord) (hn : n ≤ 900) (r : Ren n ord ss ts s1 t1) (ht : ∀ t ∈ ts, 0 ≤ t.1 ∧ t.1 < n ∧ 0 ≤ t.2.1 ∧ t.2.1 < n ∧ 0 ≤ t.2.2 ∧ t.2.2 < 1000) :
    ∀ t ∈ t1, 0 ≤ t.1 ∧ t.1 < n ∧ 0 ≤ t.2.1 ∧ t.2.1 < n ∧ 0 ≤ t.2.2 ∧ t.2.2 < 1000 := fun t h => by
  obtain ⟨u, hu, rfl⟩ := List.mem_map.mp (r.perm.mem_iff.mp h)
  obtain ⟨a, b, c, d, e, f⟩ := ht u hu
  obtain ⟨_, x0, x1⟩ := o.atI a b
  obtain ⟨_, y0, y1⟩ := o.atI c d
  show 0 ≤ min (atZ ord u.1) (atZ ord u.2.1) ∧ min (atZ ord u.1) (atZ ord u.2.1) < n ∧ 0 ≤ max (atZ ord u.1) (atZ ord u.2.1) ∧ max (atZ ord u.1) (atZ ord u.2.1) < n ∧ 0 ≤ u.2.2 ∧ u.2.2 < 1000
  omega
section
variable {X : Cx} (K : PySem.W.Frag) {o e : Expr} {es : List Expr} {to : TE} {t : TA} {name : Str} {apos cpos : Pos} {T id : String} {r : V → List V → Hp → VK → Prop}
theorem kpe_bm (pa : PlainAttrs T) (slot : Slot T name id) (hty : typeOf (.builtin id) = pure (.type "method_descriptor")) (hm : MtR X id r) (ho : PE X o to) (ha : PA X (e :: es) t)
    (hbase : attributeBase o name X.env (eval o X.env) = eval o X.env := by rfl)
    (hfew : ((backTo cpos (starEach (e :: es) X.env)).all (fun x => !x.1) && (backToKw cpos (keywordEach [] X.env)).all (fun x => x.1.isSome)
      && decide ((e :: es).length + ([] : List Keyword).length + (if ([] : List Keyword).isEmpty then 0 else 1) < 30)) = true := by rfl)
    (hline : (apos.endLine == cpos.line) = true := by rfl) (hs : starEach (e :: es) X.env = (false, eval e X.env) :: starEach es X.env := by rfl) (hplain : (backTo cpos (starEach es X.env)).any (·.1) = false := by rfl) (hK : X.K = K := by rfl) :
    PE X (.Call (.Attribute o name apos) (e :: es) [] cpos) (tBM K T r to t) := by
  subst hK
  exact pe_bm pa slot hty hm ho ha hbase hfew hline hs hplain
end
theorem plain_kind (n : Nat) (ts : List Tie) : Plain 3 (.s (kindS n ts)) := by
  show (PyData.str (kindS n ts)).canLay0 = true
  unfold kindS
  split
  · decide +kernel
  · split
    · decide +kernel
    · decide +kernel
def lensI (n : Nat) (ts : List Tie) : List Int := (List.range n).map fun i : Nat => (((nbI ts (i : Int)).length : Nat) : Int)
theorem slim_eq {n : Nat} {ts : List Tie} {m : Int} (h1 : m ∈ lensI n ts) (h2 : ∀ y ∈ lensI n ts, y ≤ m) : ((nearOf n ts).all fun r => decide (r.length ≤ 3)) = decide (m < 4) := by
  unfold lensI at h1 h2
  unfold nearOf
  rw [show ((n : Nat) : Int).toNat = n by omega, Bool.eq_iff_iff, decide_eq_true_eq, List.all_eq_true]
  constructor
  · intro h
    obtain ⟨i, hi, rfl⟩ := List.mem_map.mp h1
    have := of_decide_eq_true (h _ (List.mem_map.mpr ⟨i, hi, rfl⟩))
    omega
  · intro h r hr
    obtain ⟨i, hi, rfl⟩ := List.mem_map.mp hr
    have := h2 _ (List.mem_map.mpr ⟨i, hi, rfl⟩)
    exact decide_eq_true (by omega)
def spLaw (K : PySem.W.Frag) : Sp := fun vs H Q _ => ∃ (a : Addr) (ns : List Int), vs = [.ref a] ∧ SqL K H a (ns.map V.int) ∧ ns.length ≤ 63 ∧ ∀ H', Q (.bl true) H'
end NP

set_option Elab.async false
set_option linter.all false
set_option maxRecDepth 100000
set_option maxHeartbeats 4000000
/-! raising without arguments, tuple * int with 1, try with many clauses -/
namespace NP
open PySem PySem.Spec PyProof.Rows L2
section
variable {X : Cx} {C : Addr} {bmB : List Value} {B newId initId : String}
/-- X() -/
theorem pmk_own0 {x : Str} {p pos : Pos} (F : ExcBaseFacts B newId initId bmB) (q : PySem.W.excIn X.K C bmB newId = true) (gC : X.mg x = some (.ref C)) (kC : PySem.W.keepIn X.K (.ref C) = true) (r : Raises X (.ref C)) (hg : Gl X x)
    (hdb : (x == ("__debug__" : Str)) = false := by decide) : PMk X (.Call (.Name x p) [] [] pos) (fun _ H Q => Q (.ref C) none H) := by
  intro pins s σ H Q I h
  refine wpAny_Call_Name_kw (ld_glob I hg gC ?_ hdb)
  refine PySem.W.callWith_K0 I.kIn kC ?_
  show wpAny _ _ (call (.ref C) []) _ _ _
  obtain ⟨bm, N, nm, qn, bs, hdct, sn, sub, ab, col, dd, k0, k1, k2, k3, k5, mN, hC, hN, hni, T⟩ := exc_obj I.kIn q
  refine wpAny_call_exc_subT F T hC hN hni (fun h' e hm => ?_) (Nat.zero_le _)
  exact mk_of I hm r h (I.hok.gone hm.new)
end
theorem tuple_mulW1 (l : Addr) (items : Array Value) (n : Nat) (dd : Option Addr) (sl : Array (Option Value)) (u : Tok) :
    Meets (Builtin.«tuple.__mul__» ⟨[.ref l, .int 1 u], []⟩) (fun _ R s => s.heap.get? l = some { cls := .type "tuple", dict := dd, data := .seq items n, slots := sl } ∧
      R (.ok (.ret (Value.ref l))) s) :=
  .of_wp fun prog w A R s h => by
    obtain ⟨hp, g, d, tk, os⟩ := s
    obtain ⟨hl, h⟩ := h
    have f1 := AutoSeq1.idx_int
    wp_walk using wpAny_loadPart' hl
    repeat (first
      | (refine wpAny_ite_false (decide_eq_false (by decide)) ?_; wp_walk using wpAny_loadPart' hl)
      | (refine wpAny_ite_true (decide_eq_true (by simp)) ?_; wp_walk using wpAny_loadPart' hl))
    exact ⟨_, rfl, h⟩
/-- t * k, k from 1 on -/
def rRep1 (K : PySem.W.Frag) : R2 := fun x y H Q => ∃ l k xs, x = .ref l ∧ y = .int k ∧ SqT K H l xs ∧ xs ≠ [] ∧ 1 ≤ k ∧ k ≤ 1000 ∧ xs.length ≤ 1000 ∧ (k = 1 → Q (.ref l) H) ∧ (k ≠ 1 → ∀ p, H p = none → Q (.ref p) (upd H p (.tup (List.replicate k.toNat xs).flatten)))
theorem op_rep1 {X : Cx} : OpR X (binaryOp .Mult) (rRep1 X.K) := by
  intro pins s σ H x y v u Q I rx ry h
  obtain ⟨l, k, xs, rfl, rfl, hT, hne, h1, h2, hz, q1, q2⟩ := h
  by_cases e : k = 1
  · subst e
    cases rx
    obtain ⟨t, rfl⟩ := ry
    obtain ⟨its, r, ⟨⟨cls, dd, data, sl⟩, ho, hc, n, hd⟩, hs⟩ := I.tuple hT
    simp only at hc hd
    subst hc hd
    refine wpAny_binaryOp_repeat_ref (T := "tuple") (U := "int") (by decide) ⟨_, ho, rfl⟩ (fun s' => typeIs_int s' 1 t) noFill_tuple_mul F.fills_int_mul F.slot_int_rmul repeat_tuple F.slot_int_index.lookup
      (call_meets F.slot_int_rmul (typeIs_int s 1 t) F.entry_int_rmul (F.args_int_rmul_2 _ _) (int_rmul_tuple 1 t l its.toArray n dd sl)
        ⟨ho, rfl, ⟨_, ho, rfl⟩, call_meets F.slot_tuple_mul ⟨_, ho, rfl⟩ F.entry_tuple_mul (F.args_tuple_mul_2 _ _) (tuple_mulW1 l its.toArray n dd sl t) ⟨ho, ?_⟩⟩)
    exact ⟨.ref l, H, I, rfl, q1 rfl⟩
  · exact op_repT pins s σ H _ _ v u Q I rx ry ⟨l, k, xs, rfl, rfl, hT, hne, by omega, h2, hz, q2 e⟩
theorem kop_rep1 {X : Cx} (K : PySem.W.Frag) (h : X.K = K := by rfl) : OpR X (binaryOp .Mult) (rRep1 K) := by subst h; exact op_rep1
theorem kop_catA {X : Cx} (K : PySem.W.Frag) (h : X.K = K := by rfl) : OpR X (binaryOp .Add) (rCatA K) := by subst h; exact op_catA
theorem kop_neD {X : Cx} (K : PySem.W.Frag) (hu : X.A.units + 64 < cLine) (h : X.K = K := by rfl) : OpR X (compareOp .NotEq) (rNeD K) := by subst h; exact op_neD hu
theorem exm_self {K : PySem.W.Frag} {S : Addr} (sb : PySem.W.subIn K (.ref S) (.type "BaseException") = some true) (ic : PySem.W.isClsIn K S = true) (ty : PySem.W.typeIn K (.ref S) = some (.type "type")) (ss : PySem.W.subIn K (.ref S) (.ref S) = some true) :
    PySem.W.exmOne K (.ref S) (.ref S) = some true := by
  have a : (PySem.W.subIn K (.ref S) (.type "BaseException") == some true) = true := by simp [sb]
  have b : ((PySem.W.clsIn K S).isSome && PySem.W.typeIn K (.ref S) == some (.type "type")) = true := by
    have c : (PySem.W.clsIn K S).isSome = true := ic
    simp [c, ty]
  change (if _ then (if _ then PySem.W.subIn K (.ref S) (.ref S) else none) else none) = _
  rw [if_pos a, if_pos b, ss]
end NP

set_option linter.all false
set_option maxRecDepth 100000
set_option maxHeartbeats 4000000
namespace NP
open PySem PySem.Spec PyProof.Rows L2
/-! papers: how many leaves, the greatest number, digits of two -/
def NUMS : Int := 1000000000
def bel9 : Dd → Bool | .i n => decide (0 ≤ n) && decide (n < 1000000000) | _ => false
def leaf1 : Dd → Bool | .n => true | d => bel9 d
def lvL (f : Dd → Int) : List Dd → Int → Int
  | [], tot => tot
  | d :: r, tot => if f d < 0 ∨ 2000 < tot + f d then -1 else lvL f r (tot + f d)
def lvD : Nat → Dd → Int
  | 0, d => if leaf1 d then 1 else -1
  | k + 1, .t ds => if ds.length ≤ 200 then lvL (lvD k) ds 0 else -1
  | _ + 1, d => if leaf1 d then 1 else -1
/-- papers of at most that depth -/
def PapD : Nat → Dd → Prop
  | 0, d => leaf1 d = true
  | k + 1, .t ds => ds.length ≤ 200 ∧ ∀ d ∈ ds, PapD k d
  | _ + 1, d => leaf1 d = true
/-- the law's own ones -/
def SmP : Nat → Dd → Prop
  | 0, d => leaf1 d = true
  | k + 1, .t ds => ds.length ≤ 4 ∧ ∀ d ∈ ds, SmP k d
  | _ + 1, d => leaf1 d = true
theorem lvL_nn {f : Dd → Int} : ∀ {ds : List Dd} {t : Int}, 0 ≤ lvL f ds t → ∀ d ∈ ds, 0 ≤ f d
  | [], _, _ => by simp
  | d :: r, t, h => by
    unfold lvL at h
    split at h
    · omega
    · rename_i hn
      intro x hx
      rcases List.mem_cons.mp hx with e | e
      · subst e; omega
      · exact lvL_nn h x e
theorem lvD_pap : ∀ {k : Nat} {d : Dd}, 0 ≤ lvD k d → PapD k d
  | 0, d, h => by
    unfold lvD at h
    unfold PapD
    split at h
    · assumption
    · omega
  | k + 1, .t ds, h => by
    unfold lvD at h
    split at h
    · rename_i hl
      exact ⟨hl, fun d hd => lvD_pap (lvL_nn h d hd)⟩
    · omega
  | k + 1, .i n, h => by
    unfold lvD at h
    show leaf1 _ = true
    split at h
    · assumption
    · omega
  | k + 1, .n, h => rfl
  | k + 1, .b v, h => by unfold lvD at h; simp [leaf1, bel9] at h
  | k + 1, .s v, h => by unfold lvD at h; simp [leaf1, bel9] at h
  | k + 1, .l v, h => by unfold lvD at h; simp [leaf1, bel9] at h
  | k + 1, .o, h => by unfold lvD at h; simp [leaf1, bel9] at h
theorem lvL_le {f : Dd → Int} {b : Int} (hb : 0 ≤ b) : ∀ {ds : List Dd} {t : Int}, (∀ d ∈ ds, 0 ≤ f d ∧ f d ≤ b) → 0 ≤ t → t + b * ds.length ≤ 2000 → 0 ≤ lvL f ds t ∧ lvL f ds t ≤ t + b * ds.length
  | [], t, _, h0, _ => by
    unfold lvL
    simp
    exact h0
  | d :: r, t, h, h0, h1 => by
    have hd := h d (List.mem_cons_self ..)
    rw [List.length_cons, Int.natCast_add, Int.mul_add, Int.natCast_one, Int.mul_one] at h1 ⊢
    have hr : 0 ≤ b * (r.length : Int) := Int.mul_nonneg hb (Int.natCast_nonneg _)
    unfold lvL
    rw [if_neg (by omega)]
    have := lvL_le hb (ds := r) (t := t + f d) (fun x hx => h x (List.mem_cons_of_mem _ hx)) (by omega) (by omega)
    omega
theorem smP_lv : ∀ {k : Nat} {d : Dd}, k ≤ 3 → SmP k d → 0 ≤ lvD k d ∧ lvD k d ≤ 4 ^ k
  | 0, d, _, h => by
    have h : leaf1 d = true := h
    unfold lvD
    rw [if_pos h]
    decide
  | k + 1, .t ds, hk, h => by
    obtain ⟨h1, h2⟩ := h
    unfold lvD
    rw [if_pos (by omega)]
    have hb : (0 : Int) ≤ 4 ^ k := Int.pow_nonneg (by decide)
    have h4 : (4 : Int) ^ k ≤ 64 := by
      have : k ≤ 2 := by omega
      match k, this with
      | 0, _ => decide
      | 1, _ => decide
      | 2, _ => decide
    have hm : (4 : Int) ^ k * ds.length ≤ 4 ^ k * 4 := Int.mul_le_mul_of_nonneg_left (by omega) hb
    have := lvL_le hb (f := lvD k) (ds := ds) (t := 0) (fun d hd => smP_lv (by omega) (h2 d hd)) (by omega) (by omega)
    refine ⟨this.1, ?_⟩
    rw [Int.pow_succ]
    omega
  | k + 1, .i n, _, h => by
    have h : leaf1 (.i n) = true := h
    unfold lvD
    rw [if_pos h]
    refine ⟨by decide, ?_⟩
    have : (0:Int) < 4 ^ (k+1) := Int.pow_pos (by decide)
    omega
  | k + 1, .n, _, h => by
    unfold lvD
    rw [if_pos (show leaf1 .n = true from rfl)]
    refine ⟨by decide, ?_⟩
    have : (0:Int) < 4 ^ (k+1) := Int.pow_pos (by decide)
    omega
  | k + 1, .b v, _, h => by have h : leaf1 (.b v) = true := h; cases h
  | k + 1, .s v, _, h => by have h : leaf1 (.s v) = true := h; cases h
  | k + 1, .l v, _, h => by have h : leaf1 (.l v) = true := h; cases h
  | k + 1, .o, _, h => by have h : leaf1 .o = true := h; cases h
theorem smP_pap : ∀ {k : Nat} {d : Dd}, SmP k d → PapD k d
  | 0, d, h => h
  | k + 1, .t ds, h => ⟨by have := h.1; omega, fun d hd => smP_pap (h.2 d hd)⟩
  | k + 1, .i n, h => h
  | k + 1, .n, h => h
  | k + 1, .b v, h => h
  | k + 1, .s v, h => h
  | k + 1, .l v, h => h
  | k + 1, .o, h => h
theorem lvL_rep {f : Dd → Int} {d : Dd} {b : Int} (hb : 0 ≤ b) (hf : f d = b) : ∀ (n : Nat) (t : Int) (r : List Dd), 0 ≤ t → t + b * n ≤ 2000 → lvL f (List.replicate n d ++ r) t = lvL f r (t + b * n)
  | 0, t, r, _, _ => by simp
  | n + 1, t, r, h0, h1 => by
    rw [Int.natCast_add, Int.mul_add, Int.natCast_one, Int.mul_one] at h1 ⊢
    have hr : 0 ≤ b * (n : Int) := Int.mul_nonneg hb (Int.natCast_nonneg _)
    rw [List.replicate_succ, List.cons_append]
    show (if f d < 0 ∨ 2000 < t + f d then -1 else lvL f (List.replicate n d ++ r) (t + f d)) = _
    rw [hf, if_neg (by omega), lvL_rep hb hf n (t + b) r (by omega) (by omega)]
    rw [show t + b + b * (n : Int) = t + (b * n + b) by omega]
theorem lvL_rep0 {f : Dd → Int} {d : Dd} {b : Int} (hb : 0 ≤ b) (hf : f d = b) (n : Nat) (h1 : b * n ≤ 2000) : lvL f (List.replicate n d) 0 = b * n := by
  have := lvL_rep hb hf n 0 [] (by omega) (by omega)
  rw [List.append_nil] at this
  rw [this]
  unfold lvL
  omega
/-! the greatest -/
mutual
def grD : Dd → Int
  | .t xs => grL xs
  | .i n => n
  | _ => -1
def grL : List Dd → Int
  | [] => -1
  | d :: r => max (grD d) (grL r)
end
theorem grL_ge : ∀ ds : List Dd, -1 ≤ grL ds
  | [] => by unfold grL; omega
  | d :: r => by have := grL_ge r; unfold grL; omega
theorem grL_mem : ∀ {ds : List Dd} {d : Dd}, d ∈ ds → grD d ≤ grL ds
  | d :: r, x, h => by
    unfold grL
    rcases List.mem_cons.mp h with e | e
    · subst e; omega
    · have := grL_mem e; omega
theorem grL_in : ∀ {ds : List Dd}, grL ds = -1 ∨ ∃ d ∈ ds, grL ds = grD d
  | [] => by unfold grL; exact .inl rfl
  | d :: r => by
    unfold grL
    rcases grL_in (ds := r) with e | ⟨x, hx, e⟩
    · by_cases h : grD d ≤ grL r
      · left; omega
      · right; exact ⟨d, List.mem_cons_self .., by omega⟩
    · by_cases h : grD d ≤ grL r
      · right; exact ⟨x, List.mem_cons_of_mem _ hx, by omega⟩
      · right; exact ⟨d, List.mem_cons_self .., by omega⟩
/-- what is the greatest of -1 and all of these -/
theorem grL_max {ds : List Dd} {m : Int} (hm : m ∈ (-1 :: ds.map grD)) (h : ∀ y ∈ (-1 :: ds.map grD), y ≤ m) : m = grL ds := by
  apply Int.le_antisymm
  · rcases List.mem_cons.mp hm with e | e
    · rw [e]; exact grL_ge ds
    · obtain ⟨d, hd, e⟩ := List.mem_map.mp e
      rw [← e]; exact grL_mem hd
  · rcases grL_in (ds := ds) with e | ⟨d, hd, e⟩
    · rw [e]; exact h _ (List.mem_cons_self ..)
    · rw [e]; exact h _ (List.mem_cons_of_mem _ (List.mem_map.mpr ⟨d, hd, rfl⟩))
theorem grD_ge : ∀ {k : Nat} {d : Dd}, PapD k d → -1 ≤ grD d ∧ grD d < 1000000000
  | 0, d, h => leafgr h
  | k + 1, .t ds, h => by
    unfold grD
    refine ⟨grL_ge ds, ?_⟩
    rcases grL_in (ds := ds) with e | ⟨d, hd, e⟩
    · omega
    · rw [e]; exact (grD_ge (h.2 d hd)).2
  | k + 1, .i n, h => leafgr h
  | k + 1, .n, h => leafgr (d := .n) rfl
  | k + 1, .b v, h => by have h : leaf1 (.b v) = true := h; cases h
  | k + 1, .s v, h => by have h : leaf1 (.s v) = true := h; cases h
  | k + 1, .l v, h => by have h : leaf1 (.l v) = true := h; cases h
  | k + 1, .o, h => by have h : leaf1 .o = true := h; cases h
where leafgr : ∀ {d : Dd}, leaf1 d = true → -1 ≤ grD d ∧ grD d < 1000000000
  | .n, _ => by unfold grD; decide
  | .i n, h => by
    have h : (decide (0 ≤ n) && decide (n < 1000000000)) = true := h
    rw [Bool.and_eq_true, decide_eq_true_eq, decide_eq_true_eq] at h
    unfold grD
    omega
  | .b _, h => by cases h
  | .s _, h => by cases h
  | .l _, h => by cases h
  | .t _, h => by cases h
  | .o, h => by cases h
theorem grL_lt {ds : List Dd} {k : Nat} (h : ∀ d ∈ ds, PapD k d) : grL ds < 1000000000 := by
  rcases grL_in (ds := ds) with e | ⟨d, hd, e⟩
  · omega
  · rw [e]; exact (grD_ge (h d hd)).2
/-! digits of two -/
def bitsI (n : Int) : Nat := if n == 0 then 0 else n.natAbs.log2 + 1
def dg (n : Int) : Int := if n < 0 then 0 else max 1 (bitsI n : Int)
/-- halves left -/
def hl (n : Int) : Int := if n ≤ 1 then 0 else (n.toNat.log2 : Int)
theorem hl_step {n : Int} (h : 1 < n) : hl n = hl (n / 2) + 1 := by
  unfold hl
  rw [if_neg (by omega)]
  have e : (n / 2).toNat = n.toNat / 2 := by omega
  rw [Nat.log2_def, if_pos (by omega)]
  by_cases h2 : n / 2 ≤ 1
  · rw [if_pos h2]
    have : n.toNat / 2 = 1 := by omega
    rw [this]
    decide
  · rw [if_neg h2, e]
    omega
theorem dg_hl {n : Int} (h : -1 ≤ n) : dg n = (if 0 ≤ n then 1 else 0) + hl n := by
  by_cases h0 : n < 0
  · have : n = -1 := by omega
    subst this
    decide
  · by_cases h1 : n ≤ 1
    · have : n = 0 ∨ n = 1 := by omega
      rcases this with e | e <;> subst e <;> decide
    · have e : bitsI n = n.toNat.log2 + 1 := by
        unfold bitsI
        have q : (n == 0) = false := beq_eq_false_iff_ne.mpr (by omega)
        have : n.natAbs = n.toNat := by omega
        rw [q, this]
        rfl
      unfold dg hl
      rw [e, if_neg h0, if_neg h1, if_pos (by omega)]
      omega
theorem dg_mono {a b : Int} (h : a ≤ b) : dg a ≤ dg b := by
  unfold dg
  by_cases h0 : a < 0
  · rw [if_pos h0]
    split <;> omega
  · rw [if_neg h0, if_neg (by omega)]
    have : bitsI a ≤ bitsI b := by
      unfold bitsI
      by_cases ha : a = 0
      · simp [ha]
      · have hb : b ≠ 0 := by omega
        rw [if_neg (by simpa using ha), if_neg (by simpa using hb)]
        have hab : a.natAbs ≤ b.natAbs := by omega
        have ha' : a.natAbs ≠ 0 := by omega
        have h1 := Nat.log2_self_le ha'
        have : a.natAbs.log2 ≤ b.natAbs.log2 := (Nat.le_log2 (by omega)).mpr (Nat.le_trans h1 hab)
        omega
    omega
theorem dg_nn (n : Int) : 0 ≤ dg n := by
  unfold dg
  split <;> omega
theorem dg_neg : dg (-1) = 0 := by decide
/-- the greatest of the digits -/
theorem dg_max {ds : List Dd} {m : Int} (hm : m ∈ ds.map fun d => dg (grD d)) (h : ∀ y ∈ ds.map (fun d => dg (grD d)), y ≤ m) : m = dg (grL ds) := by
  obtain ⟨d, hd, e⟩ := List.mem_map.mp hm
  apply Int.le_antisymm
  · rw [← e]; exact dg_mono (grL_mem hd)
  · rcases grL_in (ds := ds) with e2 | ⟨x, hx, e2⟩
    · rw [e2, dg_neg, ← e]; exact dg_nn _
    · rw [e2]; exact h _ (List.mem_map.mpr ⟨x, hx, rfl⟩)
theorem lvD_one {k : Nat} {d : Dd} (ht : isT d = false) (h : leaf1 d = true) : lvD k d = 1 := by
  cases k <;> cases d <;> first | (cases ht; done) | (unfold lvD; rw [if_pos h])
theorem lvD_neg {k : Nat} {d : Dd} (ht : isT d = false) (h : leaf1 d = false) : lvD k d = -1 := by
  cases k <;> cases d <;> first | (cases ht; done) | (unfold lvD; rw [if_neg (by rw [h]; decide)])
theorem lvD_t0 {ds : List Dd} : lvD 0 (.t ds) = -1 := rfl
theorem lvD_t {k : Nat} {ds : List Dd} : lvD (k + 1) (.t ds) = if ds.length ≤ 200 then lvL (lvD k) ds 0 else -1 := rfl
/-- no paper, neither at depth 3 nor at depth 2 -/
def BadD (d : Dd) : Prop := lvD 3 d < 0 ∧ lvD 2 d < 0
instance (d : Dd) : Decidable (BadD d) := by unfold BadD; infer_instance
theorem bad_many : BadD (.t (List.replicate 11 (.t (List.replicate 200 .n)))) := by decide +kernel
theorem bad_long : BadD (.t (List.replicate 201 (.i 0))) := by decide +kernel
theorem bad_pair {d : Dd} (h : BadD d) : lvD 3 (.t [.i 0, d]) < 0 := by
  rw [lvD_t, show (if [Dd.i 0, d].length ≤ 200 then lvL (lvD 2) [.i 0, d] 0 else -1) = lvL (lvD 2) [.i 0, d] 0 from if_pos (show 2 ≤ 200 by decide)]
  have e : lvL (lvD 2) [.i 0, d] 0 = if lvD 2 d < 0 ∨ 2000 < 1 + lvD 2 d then -1 else lvL (lvD 2) [] (1 + lvD 2 d) := rfl
  rw [e, if_pos (.inl h.2)]
  decide
theorem drop_at {α : Type} {l : List α} {i : Nat} {x : α} (h : l[i]? = some x) : l.drop i = x :: l.drop (i + 1) := by
  obtain ⟨hi, rfl⟩ := List.getElem?_eq_some_iff.mp h
  exact List.drop_eq_getElem_cons hi
end NP

set_option Elab.async false
set_option linter.all false
set_option maxRecDepth 100000
set_option maxHeartbeats 4000000
/-! data that stay while the pot changes -/
namespace NP
open PySem PySem.Spec PyProof.Rows L2
section
variable {K : PySem.W.Frag} {h c : Addr} {H H1 : Hp}
def ImS (K : PySem.W.Frag) (h : Addr) (H : Hp) (v : V) (d : Dd) : Prop := ∀ H', Kp h H H' → Im K H' v d
def ImSL (K : PySem.W.Frag) (h : Addr) (H : Hp) (vs : List V) (ds : List Dd) : Prop := ∀ H', Kp h H H' → ImL K H' vs ds
theorem ImS.im {v : V} {d : Dd} (a : ImS K h H v d) : Im K H v d := a H (Kp.refl H)
theorem ImSL.im {v : List V} {d : List Dd} (a : ImSL K h H v d) : ImL K H v d := a H (Kp.refl H)
theorem ImS.kp {v : V} {d : Dd} (a : ImS K h H v d) (k : Kp h H H1) : ImS K h H1 v d := fun H' k' => a H' (k.trans k')
theorem ImS.same {v : V} {d : Dd} (a : ImS K h H v d) (k : Same H H1) : ImS K h H1 v d := a.kp (Kp.of_same k)
theorem ImSL.kp {v : List V} {d : List Dd} (a : ImSL K h H v d) (k : Kp h H H1) : ImSL K h H1 v d := fun H' k' => a H' (k.trans k')
theorem ImSL.same {v : List V} {d : List Dd} (a : ImSL K h H v d) (k : Same H H1) : ImSL K h H1 v d := a.kp (Kp.of_same k)
theorem ImSL.nil : ImSL K h H [] [] := fun _ _ => .nil
theorem ImSL.cons {v : V} {d : Dd} {vs : List V} {ds : List Dd} (a : ImS K h H v d) (b : ImSL K h H vs ds) : ImSL K h H (v :: vs) (d :: ds) := fun H' k => .cons (a H' k) (b H' k)
theorem ImSL.append {vs us : List V} {ds es : List Dd} (a : ImSL K h H vs ds) (b : ImSL K h H us es) : ImSL K h H (vs ++ us) (ds ++ es) := fun H' k => (a H' k).append (b H' k)
theorem ImSL.take {vs : List V} {ds : List Dd} (n : Nat) (a : ImSL K h H vs ds) : ImSL K h H (vs.take n) (ds.take n) := fun H' k => (a H' k).take n
theorem ImSL.drop {vs : List V} {ds : List Dd} (n : Nat) (a : ImSL K h H vs ds) : ImSL K h H (vs.drop n) (ds.drop n) := fun H' k => (a H' k).drop n
theorem ImSL.rep {v : V} {d : Dd} (a : ImS K h H v d) : ∀ n : Nat, ImSL K h H (List.replicate n v) (List.replicate n d)
  | 0 => ImSL.nil
  | n + 1 => ImSL.cons a (ImSL.rep a n)
theorem ImS.i (n : Int) : ImS K h H (.int n) (.i n) := fun _ _ => .i n
theorem ImS.b (n : Bool) : ImS K h H (.bl n) (.b n) := fun _ _ => .b n
theorem ImS.n : ImS K h H .non .n := fun _ _ => .n
theorem ImS.s (z : Str) : ImS K h H (.str z) (.s z) := fun _ _ => .s z
theorem ImS.tup {a : Addr} {vs : List V} {ds : List Dd} (n : a ≠ h) (e : H a = some (.tup vs)) (l : ImSL K h H vs ds) : ImS K h H (.ref a) (.t ds) := fun H' k => .t (SqT.of (k _ _ n e)) (l H' k)
theorem ImS.lst {a : Addr} {vs : List V} {ds : List Dd} (n : a ≠ h) (e : H a = some (.lst vs)) (l : ImSL K h H vs ds) : ImS K h H (.ref a) (.l ds) := fun H' k => .l (SqL.of (k _ _ n e)) (l H' k)
theorem nok_dict : NoKind K (.type "dict") := ⟨kit_ty (r := false) (by decide +kernel), kit_ty (r := false) (by decide +kernel), kit_ty (r := false) (by decide +kernel), kit_ty (r := false) (by decide +kernel)⟩
theorem ImS.dic {a : Addr} {kvs : List (Key × V)} (n : a ≠ h) (e : H a = some (.dK kvs)) : ImS K h H (.ref a) .o := fun H' k => .o ⟨(fun z => by cases z), fun H2 s => .base (.dK (s _ _ (k _ _ n e)))⟩ nok_dict
theorem noLL_of : ∀ {ds : List Dd}, (∀ d ∈ ds, NoL d) → NoLL ds
  | [], _ => trivial
  | d :: r, h => ⟨h d (List.mem_cons_self ..), noLL_of fun x hx => h x (List.mem_cons_of_mem _ hx)⟩
theorem smP_noL : ∀ {k : Nat} {d : Dd}, SmP k d → NoL d
  | 0, .n, _ => trivial
  | 0, .i n, _ => trivial
  | 0, .b v, h => by cases h
  | 0, .s v, h => by cases h
  | 0, .l v, h => by cases h
  | 0, .t v, h => by cases h
  | 0, .o, h => by cases h
  | k + 1, .t ds, h => noLL_of fun d hd => smP_noL (h.2 d hd)
  | k + 1, .n, _ => trivial
  | k + 1, .i n, _ => trivial
  | k + 1, .b v, h => by have h : leaf1 (.b v) = true := h; cases h
  | k + 1, .s v, h => by have h : leaf1 (.s v) = true := h; cases h
  | k + 1, .l v, h => by have h : leaf1 (.l v) = true := h; cases h
  | k + 1, .o, h => by have h : leaf1 .o = true := h; cases h
theorem ImS.of {v : V} {d : Dd} (o : HandOk H h c) (n : NoL d) (i : Im K H v d) : ImS K h H v d := fun _ k => let ⟨_, e⟩ := o.at; i.kp k e n
theorem ImSL.of {v : List V} {d : List Dd} (o : HandOk H h c) (n : NoLL d) (i : ImL K H v d) : ImSL K h H v d := fun _ k => let ⟨_, e⟩ := o.at; i.kp k e n
theorem w_callS {sp : Sp} {E : L2.St → XK} {t : TA} {σ : L2.St} {Q : VK} (q : t σ H fun vs H1 => sp vs H1 Q (E σ)) : tCallS sp E t σ H Q := q
theorem w_repT {l : Addr} {k : Int} {xs : List V} {Q : VK} (e : SqT K H l xs) (ne : xs ≠ []) (k1 : 2 ≤ k) (k2 : k ≤ 1000) (hl : xs.length ≤ 1000)
    (q : ∀ p H', H p = none → Same H H' → H' p = some (.tup (List.replicate k.toNat xs).flatten) → Q (.ref p) H') : rRep1 K (.ref l) (.int k) H Q :=
  ⟨l, k, xs, rfl, rfl, e, ne, by omega, k2, hl, fun z => by omega, fun _ p hp => q p _ hp (same_new hp) upd_same⟩
theorem w_repA {l : Addr} {k : Int} {xs : List V} {Q : VK} (e : H l = some (.tup xs)) (ne : xs ≠ []) (k1 : 1 ≤ k) (k2 : k ≤ 1000) (hl : xs.length ≤ 1000)
    (q : ∀ p H', (p = l ∨ H p = none) → Same H H' → H' p = some (.tup (List.replicate k.toNat xs).flatten) → Q (.ref p) H') : rRep1 K (.ref l) (.int k) H Q :=
  ⟨l, k, xs, rfl, rfl, SqT.of e, ne, k1, k2, hl, fun z => q l H (.inl rfl) (Same.refl H) (by subst z; simpa using e), fun _ p hp => q p _ (.inr hp) (same_new hp) upd_same⟩
theorem w_catA {a b : Addr} {xs ys : List V} {Q : VK} (e1 : H a = some (.tup xs)) (e2 : H b = some (.tup ys)) (hl : xs.length + ys.length ≤ 100000)
    (q : ∀ p H', (p = a ∨ p = b ∨ H p = none) → Same H H' → H' p = some (.tup (xs ++ ys)) → Q (.ref p) H') : rCatA K (.ref a) (.ref b) H Q :=
  ⟨a, b, xs, ys, rfl, rfl, SqT.of e1, SqT.of e2, Nat.le_trans hl (by decide), fun z => q b H (.inr (.inl rfl)) (Same.refl H) (by subst z; exact e2), fun _ z => q a H (.inl rfl) (Same.refl H) (by subst z; rw [List.append_nil]; exact e1),
    fun _ _ p hp => q p _ (.inr (.inr hp)) (same_new hp) upd_same⟩
theorem w_slT {a : Addr} {xs : List V} {lo hi : Option Int} {Q : VK} (e : SqT K H a xs) (nw : ¬ (HT.sIx xs.length 0 lo = 0 ∧ HT.sIx xs.length xs.length hi = xs.length))
    (q : ∀ p H', H p = none → Same H H' → H' p = some (.tup (cutV xs lo hi)) → Q (.ref p) H') : rSlT K (.ref a) lo hi H Q :=
  ⟨a, xs, rfl, e, nw, fun p hp => q p _ hp (same_new hp) upd_same⟩
theorem cut_take {xs : List V} {n : Nat} (h : n ≤ xs.length) : cutV xs none (some (n : Int)) = xs.take n := by
  unfold cutV
  rw [HT.sIx_nat, HT.sIx_none, List.drop_zero, Nat.min_eq_left h, Nat.sub_zero]
theorem cut_drop {xs : List V} {n : Nat} (h : n ≤ xs.length) : cutV xs (some (n : Int)) none = xs.drop n := by
  unfold cutV
  rw [HT.sIx_nat, HT.sIx_none, Nat.min_eq_left h, List.take_of_length_le (by rw [List.length_drop]; omega)]
theorem w_neD {x y : V} {d : Dd} {k : Nat} {Q : VK} (hx : Im K H x d) (hy : Im K H y d) (p : Plain k d) (hk : k ≤ 64) (q : Q (.bl false) H) : rNeD K x y H Q :=
  ⟨_, _, hx.dp p, hy.dp p, plain_shaped p hk, plain_shaped p hk, by rw [plain_refl p]; exact q⟩
def tD (n : Int) : Dd := .t [.s "told", .i n]
def pD : Dd := .t [.s "papers", .n]
theorem plain_tD (n : Int) : Plain 1 (tD n) := ⟨(show (PyData.str ("told" : Str)).canLay0 = true by decide +kernel), trivial, trivial⟩
theorem plain_pD : Plain 1 pD := ⟨(show (PyData.str ("papers" : Str)).canLay0 = true by decide +kernel), trivial, trivial⟩
theorem im_tD {p : Addr} {n : Int} (e : H p = some (.tup [.str "told", .int n])) : Im K H (.ref p) (tD n) := .t (SqT.of e) (.cons (.s _) (.cons (.i n) .nil))
theorem im_pD {p : Addr} (e : H p = some (.tup [.str "papers", .non])) : Im K H (.ref p) pD := .t (SqT.of e) (.cons (.s _) (.cons .n .nil))
theorem w_dnewN {σ : L2.St} {Q : VK} (q : ∀ p H', H p = none → Same H H' → H' p = some (.dK []) → Q (.ref p) H') : tDNewK σ H Q := fun p hp => q p _ hp (same_new hp) upd_same
theorem rep_flat1 {α : Type} (n : Nat) (x : α) : (List.replicate n [x]).flatten = List.replicate n x := flat1 n x
def papB (d : Dd) : Bool := decide (0 ≤ lvD 3 d)
/-- what digits_of takes -/
def okP : Dd → Bool
  | .t ds => decide (1 ≤ ds.length) && (decide (ds.length ≤ 100) && ds.all papB)
  | _ => false
theorem fresh_ne {x : Addr} (o : HandOk H h c) (s : Same H H1) (n : H1 x = none) : x ≠ h := fun e => ((o.same s).new n).1 e.symm
/-- a choice as a value, told once -/
def tIfK (t : TT) (ta tb : TE) : TE := tIf t ta tb
theorem pe_ifK {X : Cx} {a b d : Expr} {pos : Pos} {t : TT} {ta tb : TE} (h1 : PT X d t) (h2 : PE X a ta) (h3 : PE X b tb) : PE X (.IfExp d a b pos) (tIfK t ta tb) := pe_ifExp h1 h2 h3
theorem w_ifK {t : TT} {ta tb : TE} {σ : L2.St} {Q : VK} (M : V → Hp → Prop) (q : ∀ R : VK, (∀ v H', M v H' → R v H') → t σ H fun b H1 => if b = true then ta σ H1 R else tb σ H1 R) (k : ∀ v H', M v H' → Q v H') : tIfK t ta tb σ H Q := q Q k
theorem okP_spoilt {ds : List Dd} {i : Nat} {d : Dd} (e : ds[i]? = some d) (b : lvD 3 d < 0) : okP (.t ds) = false := by
  show (decide (1 ≤ ds.length) && (decide (ds.length ≤ 100) && ds.all papB)) = false
  have : ds.all papB = false := by
    rw [List.all_eq_false]
    exact ⟨d, List.mem_of_getElem? e, by unfold papB; rw [decide_eq_false (by omega)]; decide⟩
  rw [this, Bool.and_false, Bool.and_false]
theorem okP_long {ds : List Dd} (h : 100 < ds.length) : okP (.t ds) = false := by
  show (decide (1 ≤ ds.length) && (decide (ds.length ≤ 100) && ds.all papB)) = false
  rw [decide_eq_false (show ¬ ds.length ≤ 100 by omega), Bool.false_and, Bool.and_false]
def zz200 : Dd := .t (List.replicate 200 (.i 0))
def great1 : Dd := .t (List.replicate 2 (.t (List.replicate 10 zz200)))
def great2 : Dd := .t (List.replicate 2 (.t (List.replicate 10 zz200)) ++ [.t (List.replicate 10 zz200 ++ [.i 0])])
def deep1 : Dd := .t [.t [.t [.t [.i 0]]]]
theorem great1_ok : okP great1 = true := by decide +kernel
theorem great1_dg : dg (grD great1) = 1 := by decide +kernel
theorem great2_ok : okP great2 = false := by decide +kernel
theorem deep1_ok : okP deep1 = true := by decide +kernel
theorem deep1_dg : dg (grD deep1) = 1 := by decide +kernel
theorem none1_ok : okP (.t [.n]) = true := by decide +kernel
theorem none1_dg : dg (grD (.t [.n])) = 0 := by decide +kernel
theorem w_star {te : TE} {t : TA} {σ : L2.St} {Q : List V → Hp → Prop} (q : te σ H fun x H1 => ∃ p xs, x = V.ref p ∧ (SqT K H1 p xs ∨ SqL K H1 p xs) ∧ t σ H1 fun ys H2 => Q (xs ++ ys) H2) : StX.tStar K te t σ H Q := q
theorem w_bits {te : TE} {σ : L2.St} {Q : VK} (q : te σ H fun x H1 => ∃ i, x = .int i ∧ Q (.int (bitsI i : Nat)) H1) : L2.tBits te σ H Q := q
/-! total += some -/
theorem w_aug {i : Nat} {te : TE} {f : Int → Int → Int} {D : L2.Ends} {σ : L2.St} {x : Int} (hh : σ[i]? = some (some (.int x))) (q : te σ H fun y H1 => ∃ j, y = .int j ∧ D.nx (σ.set i (some (.int (f x j)))) H1) : tAug i te (ipI f) D σ H := by
  refine ⟨_, hh, ?_⟩
  have e : (fun (y : V) (H1 : Hp) => ∃ j, y = .int j ∧ D.nx (σ.set i (some (.int (f x j)))) H1) = fun y H1 => ipI f (.int x) y H1 fun z H2 => D.nx (σ.set i (some z)) H2 := by
    funext y H1
    exact propext ⟨fun ⟨j, e, q⟩ => ⟨x, j, rfl, e, q⟩, fun ⟨a, j, ea, e, q⟩ => ⟨j, e, by injection ea with ea; subst ea; exact q⟩⟩
  rw [e] at q
  exact q
def spLv (K : PySem.W.Frag) : Nat → Sp
  | 0 => fun _ _ _ _ => False
  | k + 1 => fun vs H Q _ => ∃ x d, vs = [.int (k : Int), x] ∧ Im K H x d ∧ Q (.int (lvD k d)) H
def spPapB (K : PySem.W.Frag) : Sp := fun vs H Q _ => ∃ x d, vs = [x] ∧ Im K H x d ∧ Q (.bl (papB d)) H
def papsB (n : Int) : Dd → Bool
  | .t ds => decide ((ds.length : Int) = n) && ds.all papB
  | _ => false
def spPapsB (K : PySem.W.Frag) : Sp := fun vs H Q _ => ∃ n x d, vs = [.int n, x] ∧ Im K H x d ∧ n ≤ 100 ∧ ∀ H', Same H H' → Q (.bl (papsB n d)) H'
def spGr (K : PySem.W.Frag) : Nat → Sp
  | 0 => fun _ _ _ _ => False
  | k + 1 => fun vs H Q _ => ∃ x d, vs = [x] ∧ Im K H x d ∧ PapD k d ∧ ∀ H', Same H H' → Q (.int (grD d)) H'
def spDig (K : PySem.W.Frag) (C : Addr) : Sp := fun vs H Q E => ∃ x d, vs = [x] ∧ Im K H x d ∧ ∀ H', Same H H' → if okP d = true then Q (.int (dg (grD d))) H' else E (.ref C) none H'
def spSaid (K : PySem.W.Frag) : Sp := fun vs H Q _ => ∃ x d, vs = [x] ∧ Im K H x d ∧ ∀ p H', Same H H' → H' p = some (.tup (if okP d = true then [.str "told", .int (dg (grD d))] else [.str "papers", .non])) → Q (.ref p) H'
def spPp (K : PySem.W.Frag) : Nat → Sp
  | 0 => fun _ _ _ _ => False
  | k + 1 => fun vs H Q _ => ∃ h c, vs = [.ref h, .int (k : Int)] ∧ HandOk H h c ∧ ∀ v d H', SmP k d → HandOk H' h c → Kp h H H' → ImS K h H' v d → Q v H'
def spDg : Sp := fun vs H Q _ => ∃ n, vs = [.int n] ∧ -1 ≤ n ∧ n < 1000000000 ∧ Q (.int (dg n)) H
end
end NP

set_option Elab.async false
set_option linter.all false
set_option maxRecDepth 100000
set_option maxHeartbeats 4000000
namespace N53
open PySem PySem.Spec PyProof.Rows L2 NP
def topS (i : Nat) : Stmt := PySem.Challenge.pw_nearpapers_k53_digits_of_papers.main.body.getD i (.Pass ⟨0, 0, 0, 0⟩)
abbrev sis_number : Stmt := topS 4
theorem scis_number : FnScope ["thing"] ["thing"] (defScope sis_number) := ⟨rfl, rfl, rfl, by decide +kernel, rfl, by decide +kernel, by decide +kernel⟩
abbrev sis_below : Stmt := topS 5
theorem scis_below : FnScope ["bound", "thing"] ["bound", "thing"] (defScope sis_below) := ⟨rfl, rfl, rfl, by decide +kernel, rfl, by decide +kernel, by decide +kernel⟩
abbrev sleaves_of : Stmt := topS 11
theorem scleaves_of : FnScope ["deep", "thing", "total", "item", "some"] ["deep", "thing"] (defScope sleaves_of) := ⟨rfl, rfl, rfl, by decide +kernel, rfl, by decide +kernel, by decide +kernel⟩
abbrev sis_paper : Stmt := topS 12
theorem scis_paper : FnScope ["thing"] ["thing"] (defScope sis_paper) := ⟨rfl, rfl, rfl, by decide +kernel, rfl, by decide +kernel, by decide +kernel⟩
abbrev sis_papers : Stmt := topS 13
theorem scis_papers : FnScope ["many", "thing", "item"] ["many", "thing"] (defScope sis_papers) := ⟨rfl, rfl, rfl, by decide +kernel, rfl, by decide +kernel, by decide +kernel⟩
abbrev sgreatest_in : Stmt := topS 16
theorem scgreatest_in : FnScope ["paper", "item"] ["paper"] (defScope sgreatest_in) := ⟨rfl, rfl, rfl, by decide +kernel, rfl, by decide +kernel, by decide +kernel⟩
abbrev sdigits_of : Stmt := topS 17
theorem scdigits_of : FnScope ["papers", "greatest"] ["papers"] (defScope sdigits_of) := ⟨rfl, rfl, rfl, by decide +kernel, rfl, by decide +kernel, by decide +kernel⟩
abbrev s_law_pot : Stmt := topS 19
theorem sc_law_pot : FnScope ["script", "cells", "cell"] ["script"] (defScope s_law_pot) := ⟨rfl, rfl, rfl, by decide +kernel, rfl, by decide +kernel, by decide +kernel⟩
abbrev s_law_draw : Stmt := topS 20
theorem sc_law_draw : FnScope ["pot", "many", "cell", "digit", "number"] ["pot", "many"] (defScope s_law_draw) := ⟨rfl, rfl, rfl, by decide +kernel, rfl, by decide +kernel, by decide +kernel⟩
abbrev s_law_any : Stmt := topS 21
theorem sc_law_any : FnScope ["pot", "things"] ["pot", "things"] (defScope s_law_any) := ⟨rfl, rfl, rfl, by decide +kernel, rfl, by decide +kernel, by decide +kernel⟩
abbrev s_law_paper : Stmt := topS 22
theorem sc_law_paper : FnScope ["pot", "deep", "way", "size", "k"] ["pot", "deep"] (defScope s_law_paper) := ⟨rfl, rfl, rfl, by decide +kernel, rfl, by decide +kernel, by decide +kernel⟩
abbrev s_law_greatest : Stmt := topS 23
theorem sc_law_greatest : FnScope ["paper", "one"] ["paper"] (defScope s_law_greatest) := ⟨rfl, rfl, rfl, by decide +kernel, rfl, by decide +kernel, by decide +kernel⟩
abbrev s_law_digits : Stmt := topS 24
theorem sc_law_digits : FnScope ["number", "found", "turn"] ["number"] (defScope s_law_digits) := ⟨rfl, rfl, rfl, by decide +kernel, rfl, by decide +kernel, by decide +kernel⟩
abbrev s_law_said : Stmt := topS 25
theorem sc_law_said : FnScope ["thing"] ["thing"] (defScope s_law_said) := ⟨rfl, rfl, rfl, by decide +kernel, rfl, by decide +kernel, by decide +kernel⟩
abbrev slaw : Stmt := topS 26
theorem sclaw : FnScope ["script", "pot", "turn", "many", "papers", "house", "told", "due", "paper", "bad", "wrong", "at", "spoilt", "things", "great"] ["script"] (defScope slaw) := ⟨rfl, rfl, rfl, by decide +kernel, rfl, by decide +kernel, by decide +kernel⟩
structure Tx (K : PySem.W.Frag) (mg : Str → Option Value) : Type where
  mabs : mg "abs" = none
  mall : mg "all" = none
  mbool : mg "bool" = none
  mint : mg "int" = none
  misinstance : mg "isinstance" = none
  mlen : mg "len" = none
  mlist : mg "list" = none
  mmax : mg "max" = none
  mmin : mg "min" = none
  mrange : mg "range" = none
  mtuple : mg "tuple" = none
  tNUMBERS : Tok
  gNUMBERS : mg "NUMBERS" = some (.int 1000000000 tNUMBERS)
  tMOST_ITEMS : Tok
  gMOST_ITEMS : mg "MOST_ITEMS" = some (.int 200 tMOST_ITEMS)
  tMOST_LEAVES : Tok
  gMOST_LEAVES : mg "MOST_LEAVES" = some (.int 2000 tMOST_LEAVES)
  tMOST_DEEP : Tok
  gMOST_DEEP : mg "MOST_DEEP" = some (.int 3 tMOST_DEEP)
  tMOST_PAPERS : Tok
  gMOST_PAPERS : mg "MOST_PAPERS" = some (.int 100 tMOST_PAPERS)
  fis_number : Df K mg "is_number" sis_number ["thing"]
  fis_below : Df K mg "is_below" sis_below ["bound", "thing"]
  fleaves_of : Df K mg "leaves_of" sleaves_of ["deep", "thing"]
  fis_paper : Df K mg "is_paper" sis_paper ["thing"]
  fis_papers : Df K mg "is_papers" sis_papers ["many", "thing"]
  fgreatest_in : Df K mg "greatest_in" sgreatest_in ["paper"]
  fdigits_of : Df K mg "digits_of" sdigits_of ["papers"]
  f_law_pot : Df K mg "_law_pot" s_law_pot ["script"]
  f_law_draw : Df K mg "_law_draw" s_law_draw ["pot", "many"]
  f_law_any : Df K mg "_law_any" s_law_any ["pot", "things"]
  f_law_paper : Df K mg "_law_paper" s_law_paper ["pot", "deep"]
  f_law_greatest : Df K mg "_law_greatest" s_law_greatest ["paper"]
  f_law_digits : Df K mg "_law_digits" s_law_digits ["number"]
  f_law_said : Df K mg "_law_said" s_law_said ["thing"]
  flaw : Df K mg "law" slaw ["script"]
  CNearError : Addr
  gNearError : mg "NearError" = some (.ref CNearError)
  CNoPapers : Addr
  gNoPapers : mg "NoPapers" = some (.ref CNoPapers)
  xNoPapers : PySem.W.excIn K CNoPapers [.type "ValueError", .type "Exception", .type "BaseException", .type "object"] "ValueError.__new__" = true
  kNoPapers : PySem.W.keepIn K (.ref CNoPapers) = true
  bNoPapers : PySem.W.subIn K (.ref CNoPapers) (.type "BaseException") = some true
  tNoPapers : PySem.W.typeIn K (.ref CNoPapers) = some (.type "type")
  eNoPapers : PySem.W.exmOne K (.ref CNoPapers) (.ref CNoPapers) = some true
end N53

set_option Elab.async false
set_option linter.all false
set_option maxRecDepth 100000
set_option maxHeartbeats 4000000
namespace N53
open PySem PySem.Spec PyProof.Rows L2 NP
local macro_rules | `(tactic| walk_at "hs0") => `(tactic| dsimp only [cxOf, Cx.nox, Cx.wish, L2.start, List.map, List.length, Nat.reduceAdd, Nat.reduceSub, List.replicate_succ, List.replicate_zero, List.cons_append, List.nil_append])
local macro_rules | `(tactic| walk_at "hs") => `(tactic| first
  | (with_reducible refine w_seq ?_) | (with_reducible refine w_asg ?_) | (with_reducible refine w_ret ?_) | (with_reducible refine w_drop ?_) | (with_reducible refine w_ifS ?_) | (with_reducible refine w_next ?_)
  | ((with_reducible refine w_var (v := ?_) ?hv ?_); (case hv => exact rfl)) | (with_reducible refine w_c ?_) | (with_reducible refine w_op ?_) | (with_reducible refine w_un ?_) | (with_reducible refine w_cb ?_) | (with_reducible refine w_nil ?_) | (with_reducible refine w_cons ?_)
  | (with_reducible refine w_call ?_) | (with_reducible refine w_tup ?_) | (with_reducible refine w_lst ?_) | (with_reducible refine w_if ?_) | (with_reducible refine w_andV ?_) | (with_reducible refine w_orV ?_) | (with_reducible refine w_notV ?_)
  | (with_reducible refine w_sl ?_) | (with_reducible refine w_noPart ?_) | (with_reducible refine w_part ?_) | (with_reducible refine w_test ?_) | (with_reducible refine w_B ?_) | (with_reducible refine w_and ?_) | (with_reducible refine w_or ?_) | (with_reducible refine w_not ?_)
  | (with_reducible refine w_gName ?_) | (with_reducible refine w_gSub ?_) | (with_reducible refine w_eqI ?_) | (with_reducible refine w_neI ?_) | (with_reducible refine w_rI0 ?_) | (with_reducible refine w_rU ?_) | (with_reducible refine w_bl ?_) | (with_reducible refine w_int ?_)
  | (with_reducible refine w_lc ?_) | (with_reducible refine w_yes ?_) | (with_reducible refine w_iList ?_) | (with_reducible refine w_iTup ?_) | (with_reducible refine w_iRng1 ?_) | (with_reducible refine w_iRng2 ?_) | (with_reducible refine w_for ?_)
  | (with_reducible refine w_intI ?_) | (with_reducible refine w_abs ?_) | (with_reducible refine w_min2 ?_) | (with_reducible refine w_max2 ?_) | (with_reducible refine w_intB ?_)
  | ((with_reducible refine w_ixLH (v := ?_) (xs := ?_) ?hh ?ha ?_); (case hh => assumption); (case ha => exact rfl))
  | ((with_reducible refine w_ixTH (v := ?_) (xs := ?_) ?hh ?ha ?_); (case hh => assumption); (case ha => exact rfl))
  | ((with_reducible refine w_lenLH (xs := ?_) ?hh ?_); (case hh => assumption))
  | ((with_reducible refine w_lenTH (xs := ?_) ?hh ?_); (case hh => assumption))
  | ((with_reducible refine w_rI ?hc ?_); (case hc => first | exact .inl ⟨by omega, by omega⟩ | exact .inr ⟨by omega, by omega⟩ | exact ⟨by decide, by decide, by decide⟩ | exact ⟨by omega, by omega⟩ | (show (0 : Int) < _; omega)))
  | (with_reducible refine iteT ?_) | (with_reducible refine iteF ?_)
  | ((with_reducible refine w_isiI (d := ?_) ?hh ?_); (case hh => assumption); (try dsimp only [isI, Bool.not_true, Bool.not_false]))
  | ((with_reducible refine w_isiB (d := ?_) ?hh ?_); (case hh => assumption); (try dsimp only [isB, Bool.not_true, Bool.not_false]))
  | ((with_reducible refine w_isiT (d := ?_) ?hh ?_); (case hh => assumption); (try dsimp only [isT, Bool.not_true, Bool.not_false]))
  | ((with_reducible refine w_isiL (d := ?_) ?hh ?_); (case hh => assumption); (try dsimp only [isL, Bool.not_true, Bool.not_false]))
  | (with_reducible refine w_gCons ?_) | (with_reducible refine w_gNil ?_) | (with_reducible refine w_bm ?_) | (with_reducible refine w_bm0 ?_) | (with_reducible refine w_truQ ?_) | (with_reducible refine w_iEnumT ?_) | (with_reducible refine w_iZipA ?_) | (with_reducible refine w_listRg ?_) | (with_reducible refine w_par ?_) | (with_reducible refine w_dc ?_) | (with_reducible refine w_din ?_) | (with_reducible refine w_iEnumL ?_) | (with_reducible refine w_dget ?_) | (with_reducible refine w_dget2 ?_) | (with_reducible refine w_dput ?_) | (with_reducible refine w_par2 ?_) | (with_reducible refine w_lenSetT ?_) | (with_reducible refine w_fld ?_) | (with_reducible refine w_sfld ?_) | (with_reducible refine w_chain ?_) | (with_reducible refine w_make ?_) | (with_reducible refine w_isN0 ?_) | (with_reducible refine w_notN0 ?_) | ((with_reducible refine w_isN1 ?hh ?_); (case hh => first | assumption | exact fun z => by cases z)) | ((with_reducible refine w_notN1 ?hh ?_); (case hh => first | assumption | exact fun z => by cases z))
  | (with_reducible refine iteNF ?_) | (with_reducible refine iteNT ?_))

section
variable {P : Program} {w : World} {K : PySem.W.Frag} {mg : Str → Option Value} {base : Heap}
theorem ok_hand (T : Tx K mg) : FnOk P w K mg base CX0 1 T.f_law_pot.a T.f_law_pot.d ["script"] (spHand K) := by
  refine T.f_law_pot.F.ok sc_law_pot (fun vs H Q E h => ?_) (fun cdv A outer s H vs Q E hr h => ?_)
  · obtain ⟨a, ns, rfl, _⟩ := h
    rfl
  · obtain ⟨a, ns, rfl, hS, hl, q⟩ := h
    refine ⟨_, (pss_cons (ps_setLc (i := 1) (own := [("cell", 2)]) rfl sc_law_pot.nd rfl rfl (sw_true rfl rfl rfl (by decide +kernel)) (kpi_list K (pe_slice (ksl_list K) (pv 0) po_none (po_some pe_int))) (blkOk_by (own := [("cell", 2)]) (N := ["script", "cells", "cell"]) (sc := defScope s_law_pot) (by decide +kernel)) (fun _ _ _ _ _ => (pg_name (i := 2) sc_law_pot.nd rfl (.inl rfl))) (fun _ _ _ _ _ => pts_nil) (fun _ _ _ _ _ => (pe_callB callQ_abs (by rfl) T.mabs (by decide +kernel) (pa_cons (pe_callTy callQ_int (by rfl) T.mint (by decide +kernel) (pa_cons (pv 2) pa_nil)) pa_nil))))
      (pss_one (ps_ret (pe_lst (pa_cons (pv 1) (pa_cons pe_int (pa_cons pe_int (pa_cons (pe_op op_add pe_int (pe_callB (kcall_len K) (by rfl) T.mlen PySem.boot_len (pa_cons (pv 1) pa_nil))) (pa_cons pe_int pa_nil))))))))), ?_⟩
    walk_at "hs0"
    repeat walk_at "hs"
    -- script[:63]
    refine w_slL hS fun b H1 hb sm1 hB => ?_
    rw [cut_front (k := 63) (by rw [List.length_map]; omega)] at hB
    refine w_srcL (SqL.of hB) fun D nD => lc_list (xs := ns.map V.int) (fun n H' => Same H1 H' ∧ H' D = some (.lst (((ns.take n).map fun z => if z < 0 then -z else z).map V.int))) ⟨same_new nD, upd_same⟩ (fun n H' _ hp => SqL.of (hp.1 _ _ hB)) (fun n x H' hx hp => ?_) (fun H' hp => ?_)
    · obtain ⟨z, hz, rfl⟩ := map_at hx
      obtain ⟨sm, hD⟩ := hp
      repeat walk_at "hs"
      refine ⟨rfl, ?_⟩
      refine w_yes (ite_tf (fun _ => ?_) (fun z => by cases z))
      repeat walk_at "hs"
      refine ⟨_, hD, ?_, ?_, ?_⟩
      · simp only [List.length_map, List.length_take]
        exact small1000 (by omega)
      · intro q o hq
        rw [upd_ne (ne_of_none hq nD)]
        exact sm _ _ hq
      · rw [upd_same, take_succ_at hz, List.map_append, List.map_append]
        rfl
    · obtain ⟨sm, hD⟩ := hp
      rw [List.length_map, List.take_length] at hD
      repeat walk_at "hs"
      refine w_lstN ?_ fun p H3 np sm3 hP => ?_
      · exact (by decide : 5 ≤ 100000)
      refine q p D H3 ?_ (sm1.free nD) ((sm1.trans sm).trans sm3) ⟨_, 0, 0, _, 0, hP, sm3 _ _ hD, ?_, ?_, ?_, by decide, ?_, by decide, ?_, ?_, by decide⟩
      · exact (sm1.trans sm).free np
      · exact ne_of_none hD np
      · rw [List.length_map]
        exact hl
      · intro x hx
        obtain ⟨z, _, rfl⟩ := List.mem_map.mp hx
        by_cases hz : z < 0
        · rw [if_pos hz]; omega
        · rw [if_neg hz]; omega
      · exact Int.natCast_nonneg _
      · rw [List.length_map]; omega
      · rw [List.length_map, List.length_map]; omega
theorem ok_draw (T : Tx K mg) : FnOk P w K mg base CX0 1 T.f_law_draw.a T.f_law_draw.d ["pot", "many"] spDraw := by
  refine T.f_law_draw.F.ok sc_law_draw (fun vs H Q E h => ?_) (fun cdv A outer s H vs Q E hr h => ?_)
  · obtain ⟨a, m, _, rfl, _⟩ := h
    rfl
  · obtain ⟨h, c, many, rfl, m1, m2, ⟨cs, pp, z, m, k, hH, hC, hne, hlen, hcs, p0, p1, z0, mm0, mm1, k0⟩, q⟩ := h
    have hO : HandOk H h c := ⟨cs, pp, z, m, k, hH, hC, hne, hlen, hcs, p0, p1, z0, mm0, mm1, k0⟩
    refine ⟨_, (Evl.pss_cut (ps_if (PW.pt (pw_and (pt_cmpR op_eq (pe_ix (kix_list K) (pv 0) pe_int (fun _ _ => rfl)) pe_int (nomark _)) (pw_and1 (pt_cmpR op_lt (pe_ix (kix_list K) (pv 0) pe_int (fun _ _ => rfl)) (pe_callB (kcall_len K) (by rfl) T.mlen PySem.boot_len (pa_cons (pe_ix (kix_list K) (pv 0) pe_int (fun _ _ => rfl)) pa_nil)) (nomark _))))) (pss_cons (ps_set (i := 2) sc_law_draw.nd rfl (.inl rfl) (pe_ix (kix_list K) (pe_ix (kix_list K) (pv 0) pe_int (fun _ _ => rfl)) (pe_ix (kix_list K) (pv 0) pe_int (fun _ _ => rfl)) (fun _ _ => rfl)))
      (pss_cons (ps_asg (pe_op op_add (pe_ix (kix_list K) (pv 0) pe_int (fun _ _ => rfl)) pe_int) (pg_sub (pv 0) pe_int set_list))
      (pss_cons (ps_asg (pe_op op_mod (pe_callTy callQ_int (by rfl) T.mint (by decide +kernel) (pa_cons (pe_op op_add (pe_op op_add (pe_op op_mul (pe_ix (kix_list K) (pv 0) pe_int (fun _ _ => rfl)) pe_int) (pv 2)) pe_int) pa_nil)) pe_int) (pg_sub (pv 0) pe_int set_list))
      (pss_one (ps_if (pt_cmpR op_ge (pv 2) (pe_op op_pow pe_int pe_int) (nomark _)) (pss_one (ps_asg (pv 2) (pg_sub (pv 0) pe_int set_list))) pss_nil))))) pss_nil)
      (pss_cons (ps_if (pt_cmpR op_gt (pe_ix (kix_list K) (pv 0) pe_int (fun _ _ => rfl)) pe_int (nomark _)) (pss_cons (ps_set (i := 3) sc_law_draw.nd rfl (.inl rfl) (pe_op op_mod (pe_callTy callQ_int (by rfl) T.mint (by decide +kernel) (pa_cons (pe_ix (kix_list K) (pv 0) pe_int (fun _ _ => rfl)) pa_nil)) (pv 1)))
      (pss_cons (ps_asg (pe_op op_fdiv (pe_ix (kix_list K) (pv 0) pe_int (fun _ _ => rfl)) (pv 1)) (pg_sub (pv 0) pe_int set_list))
      (pss_one (ps_ret (pv 3))))) pss_nil)
      (pss_cons (ps_asg (pe_op op_add (pe_ix (kix_list K) (pv 0) pe_int (fun _ _ => rfl)) pe_int) (pg_sub (pv 0) pe_int set_list))
      (pss_cons (ps_set (i := 4) sc_law_draw.nd rfl (.inl rfl) (pe_op op_mod (pe_callTy callQ_int (by rfl) T.mint (by decide +kernel) (pa_cons (pe_op op_mul (pe_callTy callQ_int (by rfl) T.mint (by decide +kernel) (pa_cons (pe_op op_add (pe_ix (kix_list K) (pv 0) pe_int (fun _ _ => rfl)) (pe_op op_mul pe_int (pe_ix (kix_list K) (pv 0) pe_int (fun _ _ => rfl)))) pa_nil)) pe_int) pa_nil)) pe_int))
      (pss_cons (ps_set (i := 4) sc_law_draw.nd rfl (.inl rfl) (pe_op op_mod (pe_callTy callQ_int (by rfl) T.mint (by decide +kernel) (pa_cons (pe_op op_mul (pv 4) (pe_op op_add (pe_op op_fdiv (pv 4) pe_int) pe_int)) pa_nil)) pe_int))
      (pss_cons (ps_set (i := 4) sc_law_draw.nd rfl (.inl rfl) (pe_op op_mod (pe_callTy callQ_int (by rfl) T.mint (by decide +kernel) (pa_cons (pe_op op_mul (pv 4) (pe_op op_add (pe_op op_fdiv (pv 4) pe_int) pe_int)) pa_nil)) pe_int))
      (pss_one (ps_ret (pe_op op_mod (pe_callTy callQ_int (by rfl) T.mint (by decide +kernel) (pa_cons (pe_op op_fdiv (pv 4) pe_int) pa_nil)) (pv 1)))))))))), ?_⟩
    walk_at "hs0"
    refine Evl.q_cut (M := fun σ' H' => (∃ c', σ' = [some (.ref h), some (.int many), c', none, none]) ∧ HandOk H' h c ∧ Kp h H H') ?_ fun σ' H' hM => ?_
    · repeat walk_at "hs"
      refine ite_d (fun hz => ?_) (fun hz => ⟨⟨none, rfl⟩, hO, Kp.refl H⟩)
      repeat walk_at "hs"
      refine ite_d (fun hp => ?_) (fun hp => ⟨⟨none, rfl⟩, hO, Kp.refl H⟩)
      rw [List.length_map] at hp
      have hpl : pp.toNat < cs.length := by omega
      have hat : atI (cs.map V.int) pp = some (.int cs[pp.toNat]) := by
        have := atI_nat (xs := cs.map V.int) (j := pp.toNat) (v := .int cs[pp.toNat]) (by rw [List.getElem?_map, List.getElem?_eq_getElem hpl]; rfl)
        rwa [show ((pp.toNat : Nat) : Int) = pp by omega] at this
      have hc0 : 0 ≤ cs[pp.toNat] := hcs _ (List.getElem_mem hpl)
      repeat walk_at "hs"
      refine w_ixLH hC hat ?_
      repeat walk_at "hs"
      refine w_setLH hH rfl fun H1 h1 k1 => ?_
      repeat walk_at "hs"
      refine w_setLH h1 rfl fun H2 h2 k2 => ?_
      repeat walk_at "hs"
      have hC2 := k2 _ _ hne (k1 _ _ hne hC)
      have b1 : 0 ≤ (m * 69621 + cs[pp.toNat] + 11) % 2147483629 := Int.emod_nonneg _ (by decide)
      have b2 : (m * 69621 + cs[pp.toNat] + 11) % 2147483629 < 2147483629 := Int.emod_lt_of_pos _ (by decide)
      refine ite_d (fun hg => ?_) (fun hg => ?_)
      · repeat walk_at "hs"
        refine w_setLH h2 rfl fun H3 h3 k3 => ?_
        exact ⟨⟨_, rfl⟩, ⟨cs, _, _, _, _, h3, k3 _ _ hne hC2, hne, hlen, hcs, by omega, by omega, hc0, b1, b2, k0⟩, (k1.trans k2).trans k3⟩
      · repeat walk_at "hs"
        exact ⟨⟨_, rfl⟩, ⟨cs, _, _, _, _, h2, hC2, hne, hlen, hcs, by omega, by omega, z0, b1, b2, k0⟩, k1.trans k2⟩
    · obtain ⟨⟨c', rfl⟩, ⟨cs, pp, z, m, k, hH, hC, hne, hlen, hcs, p0, p1, z0, mm0, mm1, k0⟩, kp⟩ := hM
      repeat walk_at "hs"
      have e0 : ∀ a : Int, 0 ≤ a % many := fun a => Int.emod_nonneg _ (by omega)
      have e1 : ∀ a : Int, a % many < many := fun a => Int.emod_lt_of_pos _ (by omega)
      refine ite_d (fun hz => ?_) (fun hz => ?_)
      · repeat walk_at "hs"
        refine w_setLH hH rfl fun H1 h1 k1 => ?_
        repeat walk_at "hs"
        exact q _ _ (e0 _) (e1 _) ⟨cs, _, _, _, _, h1, k1 _ _ hne hC, hne, hlen, hcs, p0, p1, Int.ediv_nonneg z0 (by omega), mm0, mm1, k0⟩ (kp.trans k1)
      · repeat walk_at "hs"
        refine w_setLH hH rfl fun H1 h1 k1 => ?_
        repeat walk_at "hs"
        exact q _ _ (e0 _) (e1 _) ⟨cs, _, _, _, _, h1, k1 _ _ hne hC, hne, hlen, hcs, p0, p1, z0, mm0, mm1, by omega⟩ (kp.trans k1)
theorem ok_any (T : Tx K mg) : FnOk P w K mg base CX0 2 T.f_law_any.a T.f_law_any.d ["pot", "things"] (spAny K) := by
  have G_law_draw : FnOk P w K mg base CX0 1 T.f_law_draw.a T.f_law_draw.d ["pot", "many"] spDraw := ok_draw T
  refine T.f_law_any.F.ok sc_law_any (fun vs H Q E h => ?_) (fun cdv A outer s H vs Q E hr h => ?_)
  · obtain ⟨a, m, _, _, rfl, _⟩ := h
    rfl
  · obtain ⟨h, c, p, xs, rfl, hS, hne, hxs, hlen, hO, q⟩ := h
    refine ⟨_, (pss_one (ps_ret (pe_ix (kix_list K) (pv 1) (pe_call G_law_draw (hr.mono (by first | decide | omega)) (by rfl) T.f_law_draw.g T.f_law_draw.F.kp T.f_law_draw.b .nil pass0 (pa_cons (pv 0) (pa_cons (pe_callB (kcall_len K) (by rfl) T.mlen PySem.boot_len (pa_cons (pv 1) pa_nil)) pa_nil))) (fun _ _ => rfl)))), ?_⟩
    walk_at "hs0"
    repeat walk_at "hs"
    refine w_lenL hS ?_
    repeat walk_at "hs"
    have hl : 0 < xs.length := List.length_pos_iff.mpr hxs
    refine ⟨h, c, _, rfl, by omega, by omega, hO, fun d H' d0 d1 hO' kp => ?_⟩
    obtain ⟨v, hv, ha⟩ := atI_in d0 d1
    exact w_ixL (kp.seq hne hS) ha (q v H' hv hO' kp)
end
end N53

set_option Elab.async false
set_option linter.all false
set_option maxRecDepth 100000
set_option maxHeartbeats 4000000
namespace N53
open PySem PySem.Spec PyProof.Rows L2 NP
local macro_rules | `(tactic| walk_at "hs0") => `(tactic| dsimp only [cxOf, Cx.nox, Cx.wish, L2.start, List.map, List.length, Nat.reduceAdd, Nat.reduceSub, List.replicate_succ, List.replicate_zero, List.cons_append, List.nil_append])
local macro_rules | `(tactic| walk_at "hs") => `(tactic| first
  | (with_reducible refine w_seq ?_) | (with_reducible refine w_asg ?_) | (with_reducible refine w_ret ?_) | (with_reducible refine w_drop ?_) | (with_reducible refine w_ifS ?_) | (with_reducible refine w_next ?_)
  | ((with_reducible refine w_var (v := ?_) ?hv ?_); (case hv => exact rfl)) | (with_reducible refine w_c ?_) | (with_reducible refine w_op ?_) | (with_reducible refine w_un ?_) | (with_reducible refine w_cb ?_) | (with_reducible refine w_nil ?_) | (with_reducible refine w_cons ?_)
  | (with_reducible refine w_call ?_) | (with_reducible refine w_tup ?_) | (with_reducible refine w_lst ?_) | (with_reducible refine w_if ?_) | (with_reducible refine w_andV ?_) | (with_reducible refine w_orV ?_) | (with_reducible refine w_notV ?_)
  | (with_reducible refine w_sl ?_) | (with_reducible refine w_noPart ?_) | (with_reducible refine w_part ?_) | (with_reducible refine w_test ?_) | (with_reducible refine w_B ?_) | (with_reducible refine w_and ?_) | (with_reducible refine w_or ?_) | (with_reducible refine w_not ?_)
  | (with_reducible refine w_gName ?_) | (with_reducible refine w_gSub ?_) | (with_reducible refine w_eqI ?_) | (with_reducible refine w_neI ?_) | (with_reducible refine w_rI0 ?_) | (with_reducible refine w_rU ?_) | (with_reducible refine w_bl ?_) | (with_reducible refine w_int ?_)
  | (with_reducible refine w_lc ?_) | (with_reducible refine w_yes ?_) | (with_reducible refine w_iList ?_) | (with_reducible refine w_iTup ?_) | (with_reducible refine w_iRng1 ?_) | (with_reducible refine w_iRng2 ?_) | (with_reducible refine w_for ?_)
  | (with_reducible refine w_intI ?_) | (with_reducible refine w_abs ?_) | (with_reducible refine w_min2 ?_) | (with_reducible refine w_max2 ?_) | (with_reducible refine w_intB ?_)
  | ((with_reducible refine w_ixLH (v := ?_) (xs := ?_) ?hh ?ha ?_); (case hh => assumption); (case ha => exact rfl))
  | ((with_reducible refine w_ixTH (v := ?_) (xs := ?_) ?hh ?ha ?_); (case hh => assumption); (case ha => exact rfl))
  | ((with_reducible refine w_lenLH (xs := ?_) ?hh ?_); (case hh => assumption))
  | ((with_reducible refine w_lenTH (xs := ?_) ?hh ?_); (case hh => assumption))
  | ((with_reducible refine w_rI ?hc ?_); (case hc => first | exact .inl ⟨by omega, by omega⟩ | exact .inr ⟨by omega, by omega⟩ | exact ⟨by decide, by decide, by decide⟩ | exact ⟨by omega, by omega⟩ | (show (0 : Int) < _; omega)))
  | (with_reducible refine iteT ?_) | (with_reducible refine iteF ?_)
  | ((with_reducible refine w_isiI (d := ?_) ?hh ?_); (case hh => assumption); (try dsimp only [isI, Bool.not_true, Bool.not_false]))
  | ((with_reducible refine w_isiB (d := ?_) ?hh ?_); (case hh => assumption); (try dsimp only [isB, Bool.not_true, Bool.not_false]))
  | ((with_reducible refine w_isiT (d := ?_) ?hh ?_); (case hh => assumption); (try dsimp only [isT, Bool.not_true, Bool.not_false]))
  | ((with_reducible refine w_isiL (d := ?_) ?hh ?_); (case hh => assumption); (try dsimp only [isL, Bool.not_true, Bool.not_false]))
  | (with_reducible refine w_gCons ?_) | (with_reducible refine w_gNil ?_) | (with_reducible refine w_bm ?_) | (with_reducible refine w_bm0 ?_) | (with_reducible refine w_truQ ?_) | (with_reducible refine w_iEnumT ?_) | (with_reducible refine w_iZipA ?_) | (with_reducible refine w_listRg ?_) | (with_reducible refine w_par ?_) | (with_reducible refine w_dc ?_) | (with_reducible refine w_din ?_) | (with_reducible refine w_iEnumL ?_) | (with_reducible refine w_dget ?_) | (with_reducible refine w_dget2 ?_) | (with_reducible refine w_dput ?_) | (with_reducible refine w_par2 ?_) | (with_reducible refine w_lenSetT ?_) | (with_reducible refine w_fld ?_) | (with_reducible refine w_sfld ?_) | (with_reducible refine w_chain ?_) | (with_reducible refine w_make ?_) | (with_reducible refine w_isN0 ?_) | (with_reducible refine w_notN0 ?_) | ((with_reducible refine w_isN1 ?hh ?_); (case hh => first | assumption | exact fun z => by cases z)) | ((with_reducible refine w_notN1 ?hh ?_); (case hh => first | assumption | exact fun z => by cases z))
  | (with_reducible refine iteNF ?_) | (with_reducible refine iteNT ?_))

section
variable {P : Program} {w : World} {K : PySem.W.Frag} {mg : Str → Option Value} {base : Heap}
theorem pp_step (T : Tx K mg) {k : Nat} (G_law_paper : FnOk P w K mg base CX0 (k + 2) T.f_law_paper.a T.f_law_paper.d ["pot", "deep"] (spPp K k)) : FnOk P w K mg base CX0 (k + 3) T.f_law_paper.a T.f_law_paper.d ["pot", "deep"] (spPp K (k + 1)) := by
  have G_law_draw : FnOk P w K mg base CX0 1 T.f_law_draw.a T.f_law_draw.d ["pot", "many"] spDraw := ok_draw T
  have G_law_any : FnOk P w K mg base CX0 2 T.f_law_any.a T.f_law_any.d ["pot", "things"] (spAny K) := ok_any T
  refine T.f_law_paper.F.ok sc_law_paper (fun vs H Q E h => ?_) (fun cdv A outer s H vs Q E hr h => ?_)
  · obtain ⟨x, d, rfl, _⟩ := h
    rfl
  · obtain ⟨h, c, rfl, hO, q⟩ := h
    refine ⟨_, (Evl.pss_cut (ps_set (i := 2) sc_law_paper.nd rfl (.inl rfl) (pe_call G_law_draw (hr.mono (by omega)) (by rfl) T.f_law_draw.g T.f_law_draw.F.kp T.f_law_draw.b .nil pass0 (pa_cons (pv 0) (pa_cons (pe_ifExp (pt_cmpR op_gt (pv 1) pe_int (nomark _)) pe_int pe_int) pa_nil))))
      (pss_cons (ps_if (pt_cmpR op_eq (pv 2) pe_int (nomark _)) (pss_one (ps_ret pe_non)) pss_nil)
      (pss_cons (ps_if (pt_cmpR op_eq (pv 2) pe_int (nomark _)) (pss_one (ps_ret (pe_callB (callQ_min2 rfl) (by rfl) T.mmin (by decide +kernel) (pa_cons (pe_op op_sub (pe_op op_pow pe_int pe_int) pe_int) (pa_cons (pe_call G_law_draw (hr.mono (by omega)) (by rfl) T.f_law_draw.g T.f_law_draw.F.kp T.f_law_draw.b .nil pass0 (pa_cons (pv 0) (pa_cons (pe_call G_law_any (hr.mono (by omega)) (by rfl) T.f_law_any.g T.f_law_any.F.kp T.f_law_any.b .nil pass0 (pa_cons (pv 0) (pa_cons (pe_lst (pa_cons pe_int (pa_cons pe_int (pa_cons pe_int (pa_cons pe_int (pa_cons (pe_op op_pow pe_int pe_int) pa_nil)))))) pa_nil))) pa_nil))) pa_nil))))) pss_nil)
      (pss_cons (ps_set (i := 3) sc_law_paper.nd rfl (.inl rfl) (pe_call G_law_any (hr.mono (by omega)) (by rfl) T.f_law_any.g T.f_law_any.F.kp T.f_law_any.b .nil pass0 (pa_cons (pv 0) (pa_cons (pe_lst (pa_cons pe_int (pa_cons pe_int (pa_cons pe_int (pa_cons pe_int (pa_cons pe_int pa_nil)))))) pa_nil))))
      (pss_one (ps_ret (pe_callTy (kcall_tuple K) (by rfl) T.mtuple (by decide +kernel) (pa_cons (pe_lc (own := [("k", 4)]) rfl sc_law_paper.nd (pi_range1 rfl T.mrange (pa_cons (pv 3) pa_nil)) (blkOk_by (own := [("k", 4)]) (N := ["pot", "deep", "way", "size", "k"]) (sc := defScope s_law_paper) (by decide +kernel)) (fun _ _ _ _ _ => (pg_name (i := 4) sc_law_paper.nd rfl (.inl rfl))) (fun _ _ _ _ _ => pts_nil) (fun _ _ _ _ _ => (pe_call G_law_paper (hr.mono (Nat.le_refl _)) (by rfl) T.f_law_paper.g T.f_law_paper.F.kp T.f_law_paper.b .nil pass0 (pa_cons (pv 0) (pa_cons (pe_op op_sub (pv 1) pe_int) pa_nil))))) pa_nil)))))))), ?_⟩
    walk_at "hs0"
    refine Evl.q_cut (M := fun σ' H' => ∃ way : Int, σ' = [some (.ref h), some (.int (k : Int)), some (.int way), none, none] ∧ HandOk H' h c ∧ Kp h H H' ∧ 0 ≤ way ∧ way < 4 ∧ (2 ≤ way → 0 < k)) ?_ fun σ' H1 hM => ?_
    · repeat walk_at "hs"
      refine ite_d (fun hk => ?_) (fun hk => ?_)
      · repeat walk_at "hs"
        refine ⟨h, c, 4, rfl, by decide, by decide, hO, fun d H' d0 d1 hO' kp => ?_⟩
        repeat walk_at "hs"
        exact ⟨d, rfl, hO', kp, d0, d1, fun _ => by omega⟩
      · repeat walk_at "hs"
        refine ⟨h, c, 2, rfl, by decide, by decide, hO, fun d H' d0 d1 hO' kp => ?_⟩
        repeat walk_at "hs"
        exact ⟨d, rfl, hO', kp, d0, by omega, fun _ => by omega⟩
    · obtain ⟨way, rfl, hO1, k1, w0, w1, w2⟩ := hM
      repeat walk_at "hs"
      refine ite_d (fun c0 => ?_) (fun c0 => ?_)
      · repeat walk_at "hs"
        refine q _ .n H1 ?_ hO1 k1 ImS.n
        cases k <;> exact rfl
      repeat walk_at "hs"
      refine ite_d (fun c1 => ?_) (fun c1 => ?_)
      · repeat walk_at "hs"
        refine w_lstN (by exact (by decide : 5 ≤ 100000)) fun l H2 n2 s2 h2 => ?_
        repeat walk_at "hs"
        have nl : l ≠ h := fun e => (hO1.new (D := l) n2).1 e.symm
        refine ⟨h, c, l, _, rfl, SqL.of h2, nl, by simp, by exact (by decide : 5 < 1073741824), hO1.same s2, fun v H3 hv hO3 k3 => ?_⟩
        obtain ⟨m, rfl, m1, m2⟩ : ∃ m : Int, v = .int m ∧ 1 ≤ m ∧ m < 1073741824 := by
          have e9 : (10 : Int) ^ Int.toNat 9 = 1000000000 := by decide
          rw [e9] at hv
          simp only [List.mem_cons, List.not_mem_nil, or_false] at hv
          rcases hv with e | e | e | e | e <;> exact ⟨_, e, by decide, by decide⟩
        repeat walk_at "hs"
        refine ⟨h, c, m, rfl, m1, m2, hO3, fun d H4 d0 d1 hO4 k4 => ?_⟩
        repeat walk_at "hs"
        have e9 : (10 : Int) ^ Int.toNat 9 - 1 = 999999999 := by decide
        rw [e9]
        have hl : leaf1 (.i (if d < 999999999 then d else 999999999)) = true := by
          show (decide (0 ≤ _) && decide (_ < (1000000000 : Int))) = true
          rw [Bool.and_eq_true, decide_eq_true_eq, decide_eq_true_eq]
          split <;> omega
        refine q _ (.i (if d < 999999999 then d else 999999999)) H4 ?_ hO4 (((k1.addS s2).trans k3).trans k4) (ImS.i _)
        cases k <;> exact hl
      · repeat walk_at "hs"
        refine w_lstN (by exact (by decide : 5 ≤ 100000)) fun l H2 n2 s2 h2 => ?_
        repeat walk_at "hs"
        have nl : l ≠ h := fun e => (hO1.new (D := l) n2).1 e.symm
        refine ⟨h, c, l, _, rfl, SqL.of h2, nl, by simp, by exact (by decide : 5 < 1073741824), hO1.same s2, fun v H3 hv hO3 k3 => ?_⟩
        obtain ⟨m, rfl, m1, m2⟩ : ∃ m : Int, v = .int m ∧ 0 ≤ m ∧ m ≤ 4 := by
          simp only [List.mem_cons, List.not_mem_nil, or_false] at hv
          rcases hv with e | e | e | e | e <;> exact ⟨_, e, by decide, by decide⟩
        repeat walk_at "hs"
        cases k with
        | zero => exact absurd (w2 (by omega)) (by decide)
        | succ k =>
        have k03 := (k1.addS s2).trans k3
        refine w_rng1 ⟨m1, by omega⟩ fun D nD => ?_
        obtain ⟨Dh, Dc⟩ := hO3.new nD
        refine lc_it (n := m.toNat) walk_range (fun i H' => HandOk H' h c ∧ Kp h H3 H' ∧ ∃ acc ds, H' D = some (.lst acc) ∧ ImL K H' acc ds ∧ ds.length = i ∧ ∀ d ∈ ds, SmP k d)
          ⟨hO3.same (same_new nD), Kp.of_same (same_new nD), [], [], upd_same, .nil, rfl, fun _ h => by cases h⟩ (fun _ _ _ _ => trivial) (fun i x H4 H5 hi p y => ?_) (fun H4 p => ?_)
        · obtain ⟨hO4, k4, acc, ds, hD, iacc, ln, hds⟩ := p
          obtain ⟨rfl, rfl⟩ := y
          repeat walk_at "hs"
          refine ⟨rfl, ?_⟩
          repeat walk_at "hs"
          refine ⟨h, c, ?_, hO4, fun v d H6 sp hO6 k6 im => ?_⟩
          · rw [show (((k + 1 : Nat) : Int) - 1) = (k : Int) by omega]; rfl
          have hD6 := k6 _ _ (Ne.symm Dh) hD
          have nds : NoLL ds := noLL_of fun d hd => smP_noL (hds d hd)
          obtain ⟨ys, hh⟩ := hO4.at
          refine ⟨acc, hD6, ?_, hO6.kp (Kp.upd _ _ _) Dh Dc, ?_, _, ds ++ [d], upd_same, imL_push hD6 (iacc.kp k6 hh nds) nds im.im (smP_noL sp), by rw [List.length_append, ln]; rfl, ?_⟩
          · rw [iacc.len, ln]
            exact Nat.lt_of_le_of_lt (show i ≤ 4 by omega) (by decide)
          · exact (k4.trans k6).add (Kp.upd _ _ _) nD
          · intro x hx
            rcases List.mem_append.mp hx with e | e
            · exact hds x e
            · rw [List.mem_singleton] at e; subst e; exact sp
        · obtain ⟨hO4, k4, acc, ds, hD, iacc, ln, hds⟩ := p
          repeat walk_at "hs"
          refine w_tupL (SqL.of hD) fun t H5 n5 s5 h5 => ?_
          have nt : t ≠ h := fun e => (hO4.new (D := t) n5).1 e.symm
          refine q _ (.t ds) H5 ⟨by omega, hds⟩ (hO4.same s5) ((k03.trans k4).addS s5) (ImS.tup nt h5 ?_)
          exact ImSL.of (hO4.same s5) (noLL_of fun d hd => smP_noL (hds d hd)) (iacc.same s5)
theorem ok_law_paper (T : Tx K mg) : ∀ k, FnOk P w K mg base CX0 (k + 3) T.f_law_paper.a T.f_law_paper.d ["pot", "deep"] (spPp K (k + 1))
  | 0 => pp_step T ⟨fun _ _ _ _ h => h.elim, fun _ _ _ _ _ _ _ _ _ _ _ _ _ h => h.elim⟩
  | k + 1 => pp_step T (ok_law_paper T k)
theorem lg_step (T : Tx K mg) {k : Nat} (G_law_greatest : FnOk P w K mg base CX0 k T.f_law_greatest.a T.f_law_greatest.d ["paper"] (spGr K k)) : FnOk P w K mg base CX0 (k + 1) T.f_law_greatest.a T.f_law_greatest.d ["paper"] (spGr K (k + 1)) := by
  refine T.f_law_greatest.F.ok sc_law_greatest (fun vs H Q E h => ?_) (fun cdv A outer s H vs Q E hr h => ?_)
  · obtain ⟨x, d, rfl, _⟩ := h
    rfl
  · obtain ⟨x, d, rfl, hx, hp, q⟩ := h
    refine ⟨_, (pss_cons (ps_if (pt_val (pe_callB (kcall_isi K) (by rfl) T.misinstance (by decide +kernel) (pa_cons (pv 0) (pa_cons (pe_bltn (v := .ty "tuple") (by rfl) T.mtuple (by decide +kernel) rfl) pa_nil)))) (pss_one (ps_ret (pe_callB (kcr_max K rfl) (by rfl) T.mmax (by decide +kernel) (pa_cons (pe_op op_cat (pe_lst (pa_cons (pe_un un_neg pe_int) pa_nil)) (pe_lc (own := [("one", 1)]) rfl sc_law_greatest.nd (kpi_tup K (pv 0)) (blkOk_by (own := [("one", 1)]) (N := ["paper", "one"]) (sc := defScope s_law_greatest) (by decide +kernel)) (fun _ _ _ _ _ => (pg_name (i := 1) sc_law_greatest.nd rfl (.inl rfl))) (fun _ _ _ _ _ => pts_nil) (fun _ _ _ _ _ => (pe_call G_law_greatest (hr.mono (Nat.le_refl _)) (by rfl) T.f_law_greatest.g T.f_law_greatest.F.kp T.f_law_greatest.b .nil pass0 (pa_cons (pv 1) pa_nil))))) pa_nil)))) pss_nil)
      (pss_one (ps_ret (pe_ifExp (pt_cmpR op_isNQ (pv 0) pe_non (nomark _)) (pe_un un_neg pe_int) (pv 0))))), ?_⟩
    walk_at "hs0"
    have hx' := hx
    cases hx with
    | n =>
      repeat walk_at "hs"
      exact q H (Same.refl H)
    | i n =>
      repeat walk_at "hs"
      exact q H (Same.refl H)
    | @t a vs ds hT hL =>
      cases k with
      | zero => cases hp
      | succ k =>
      obtain ⟨hp1, hp2⟩ := hp
      repeat walk_at "hs"
      refine w_lstN ?_ fun b H0 n0 s0 h0 => ?_
      · exact (by decide : 1 ≤ 100000)
      repeat walk_at "hs"
      refine w_srcT (Same.tupS s0 hT) fun D hD => lc_ys walk_tup (ds.map fun d => V.int (grD d)) (by rw [List.length_map, hL.len]) (by rw [hL.len]; omega) hD (fun H' e => Same.tupS (s0.trans e) hT) (fun i x H1 H' hi s1 y => ?_) (fun H' s2 h2 => ?_)
      · obtain ⟨rfl, hxi⟩ := y
        obtain ⟨d, hd, him⟩ := hL.at hxi
        refine ⟨Same.refl _, fun Q' q' => ?_⟩
        repeat walk_at "hs"
        exact ⟨x, d, rfl, him.same (s0.trans s1), hp2 d (List.mem_of_getElem? hd), fun H5 s5 => q' _ _ (by rw [List.getElem?_map, hd]; rfl) s5⟩
      · repeat walk_at "hs"
        refine w_cat (s2 _ _ h0) h2 ?_ fun p H3 n3 s3 h3 => ?_
        · rw [List.length_map, List.length_singleton]; omega
        repeat walk_at "hs"
        refine w_maxL (ns := -1 :: ds.map grD) ?_ (by simp) fun m m1 m2 => ?_
        · have e : ([V.int (-1)] ++ ds.map fun d => V.int (grD d)) = (-1 :: ds.map grD).map V.int := by rw [List.map_cons, List.map_map]; rfl
          rw [e] at h3
          exact SqL.of h3
        · rw [grL_max m1 m2]
          exact q H3 ((s0.trans s2).trans s3)
    | _ => cases k <;> cases hp
theorem ok_law_greatest (T : Tx K mg) : ∀ k, FnOk P w K mg base CX0 (k + 1) T.f_law_greatest.a T.f_law_greatest.d ["paper"] (spGr K (k + 1))
  | 0 => lg_step T ⟨fun _ _ _ _ h => h.elim, fun _ _ _ _ _ _ _ _ _ _ _ _ _ h => h.elim⟩
  | k + 1 => lg_step T (ok_law_greatest T k)
theorem ok_law_digits (T : Tx K mg) : FnOk P w K mg base CX0 1 T.f_law_digits.a T.f_law_digits.d ["number"] spDg := by
  refine T.f_law_digits.F.ok sc_law_digits (fun vs H Q E h => ?_) (fun cdv A outer s H vs Q E hr h => ?_)
  · obtain ⟨n, rfl, _⟩ := h
    rfl
  · obtain ⟨n, rfl, n0, n1, q⟩ := h
    refine ⟨_, (pss_cons (ps_set (i := 1) sc_law_digits.nd rfl (.inl rfl) (pe_callTy callQ_int (by rfl) T.mint (by decide +kernel) (pa_cons (pe_cmpR op_ge (pv 0) pe_int (nomark _)) pa_nil)))
      (pss_cons (ps_for PassesOwn.never rfl (pi_range1 rfl T.mrange (pa_cons pe_int pa_nil)) (pg_name (i := 2) sc_law_digits.nd rfl (.inl rfl)) (pss_one (ps_if (pt_cmpR op_gt (pv 0) pe_int (nomark _)) (pss_one (ps_par (i := 0) (j := 1) (by rfl) sc_law_digits.nd rfl rfl (by decide) rfl rfl (pa_cons (pe_op op_fdiv (pv 0) pe_int) (pa_cons (pe_op op_add (pv 1) pe_int) pa_nil)) (by rfl))) pss_nil)))
      (pss_one (ps_ret (pv 1))))), ?_⟩
    walk_at "hs0"
    repeat walk_at "hs"
    refine w_rng1 (by omega) ?_
    refine for_it walk_range (fun i σ' H' => H' = H ∧ ∃ (x f : Int) (x2 : Option V), σ' = [some (.int x), some (.int f), x2] ∧ dg n = f + hl x ∧ (x ≤ 1 ∨ x * 2 ^ i < 1000000000))
      ⟨rfl, n, _, none, rfl, ?_, .inr (by simpa using n1)⟩ (fun _ _ _ _ _ => trivial) (fun i x σ' H2 H3 hi p y => ?_) (fun σ' H2 p => ?_)
    · rw [dg_hl n0]
      by_cases z : 0 ≤ n
      · rw [if_pos z, decide_eq_true z, if_pos rfl]
      · rw [if_neg z, decide_eq_false z, if_neg (by decide)]
    · obtain ⟨rfl, x, f, x2, rfl, e, b⟩ := p
      obtain ⟨rfl, rfl⟩ := y
      repeat walk_at "hs"
      refine ite_d (fun g => ?_) (fun g => ?_)
      · repeat walk_at "hs"
        refine ⟨rfl, _, _, _, rfl, ?_, ?_⟩
        · rw [e, hl_step g]; omega
        · rcases b with b | b
          · omega
          · right
            rw [Int.pow_succ]
            have : x / 2 * 2 ≤ x := by omega
            have p2 : (0 : Int) ≤ 2 ^ i := Int.pow_nonneg (by decide)
            have : x / 2 * (2 ^ i * 2) = x / 2 * 2 * 2 ^ i := by
              rw [Int.mul_comm (2 ^ i) 2, Int.mul_assoc]
            rw [this]
            exact Int.lt_of_le_of_lt (Int.mul_le_mul_of_nonneg_right (by omega) p2) b
      · repeat walk_at "hs"
        exact ⟨rfl, _, _, _, rfl, e, .inl (by omega)⟩
    · obtain ⟨rfl, x, f, x2, rfl, e, b⟩ := p
      have hx : x ≤ 1 := by
        rcases b with b | b
        · exact b
        · rw [show ((40 : Int).toNat) = 40 by decide] at b
          omega
      unfold hl at e
      rw [if_pos hx] at e
      repeat walk_at "hs"
      rw [e, Int.add_zero] at q
      exact q
end
end N53

set_option Elab.async false
set_option linter.all false
set_option maxRecDepth 100000
set_option maxHeartbeats 4000000
namespace N53
open PySem PySem.Spec PyProof.Rows L2 NP
local macro_rules | `(tactic| walk_at "hs0") => `(tactic| dsimp only [cxOf, Cx.nox, Cx.wish, L2.start, List.map, List.length, Nat.reduceAdd, Nat.reduceSub, List.replicate_succ, List.replicate_zero, List.cons_append, List.nil_append])
local macro_rules | `(tactic| walk_at "hs") => `(tactic| first
  | (with_reducible refine w_seq ?_) | (with_reducible refine w_asg ?_) | (with_reducible refine w_ret ?_) | (with_reducible refine w_drop ?_) | (with_reducible refine w_ifS ?_) | (with_reducible refine w_next ?_)
  | ((with_reducible refine w_var (v := ?_) ?hv ?_); (case hv => exact rfl)) | (with_reducible refine w_c ?_) | (with_reducible refine w_op ?_) | (with_reducible refine w_un ?_) | (with_reducible refine w_cb ?_) | (with_reducible refine w_nil ?_) | (with_reducible refine w_cons ?_)
  | (with_reducible refine w_call ?_) | (with_reducible refine w_tup ?_) | (with_reducible refine w_lst ?_) | (with_reducible refine w_if ?_) | (with_reducible refine w_andV ?_) | (with_reducible refine w_orV ?_) | (with_reducible refine w_notV ?_)
  | (with_reducible refine w_sl ?_) | (with_reducible refine w_noPart ?_) | (with_reducible refine w_part ?_) | (with_reducible refine w_test ?_) | (with_reducible refine w_B ?_) | (with_reducible refine w_and ?_) | (with_reducible refine w_or ?_) | (with_reducible refine w_not ?_)
  | (with_reducible refine w_gName ?_) | (with_reducible refine w_gSub ?_) | (with_reducible refine w_eqI ?_) | (with_reducible refine w_neI ?_) | (with_reducible refine w_rI0 ?_) | (with_reducible refine w_rU ?_) | (with_reducible refine w_bl ?_) | (with_reducible refine w_int ?_)
  | (with_reducible refine w_lc ?_) | (with_reducible refine w_yes ?_) | (with_reducible refine w_iList ?_) | (with_reducible refine w_iTup ?_) | (with_reducible refine w_iRng1 ?_) | (with_reducible refine w_iRng2 ?_) | (with_reducible refine w_for ?_)
  | (with_reducible refine w_intI ?_) | (with_reducible refine w_abs ?_) | (with_reducible refine w_min2 ?_) | (with_reducible refine w_max2 ?_) | (with_reducible refine w_intB ?_)
  | ((with_reducible refine w_ixLH (v := ?_) (xs := ?_) ?hh ?ha ?_); (case hh => assumption); (case ha => exact rfl))
  | ((with_reducible refine w_ixTH (v := ?_) (xs := ?_) ?hh ?ha ?_); (case hh => assumption); (case ha => exact rfl))
  | ((with_reducible refine w_lenLH (xs := ?_) ?hh ?_); (case hh => assumption))
  | ((with_reducible refine w_lenTH (xs := ?_) ?hh ?_); (case hh => assumption))
  | ((with_reducible refine w_rI ?hc ?_); (case hc => first | exact .inl ⟨by omega, by omega⟩ | exact .inr ⟨by omega, by omega⟩ | exact ⟨by decide, by decide, by decide⟩ | exact ⟨by omega, by omega⟩ | (show (0 : Int) < _; omega)))
  | (with_reducible refine iteT ?_) | (with_reducible refine iteF ?_)
  | ((with_reducible refine w_isiI (d := ?_) ?hh ?_); (case hh => assumption); (try dsimp only [isI, Bool.not_true, Bool.not_false]))
  | ((with_reducible refine w_isiB (d := ?_) ?hh ?_); (case hh => assumption); (try dsimp only [isB, Bool.not_true, Bool.not_false]))
  | ((with_reducible refine w_isiT (d := ?_) ?hh ?_); (case hh => assumption); (try dsimp only [isT, Bool.not_true, Bool.not_false]))
  | ((with_reducible refine w_isiL (d := ?_) ?hh ?_); (case hh => assumption); (try dsimp only [isL, Bool.not_true, Bool.not_false]))
  | (with_reducible refine w_gCons ?_) | (with_reducible refine w_gNil ?_) | (with_reducible refine w_bm ?_) | (with_reducible refine w_bm0 ?_) | (with_reducible refine w_truQ ?_) | (with_reducible refine w_iEnumT ?_) | (with_reducible refine w_iZipA ?_) | (with_reducible refine w_listRg ?_) | (with_reducible refine w_par ?_) | (with_reducible refine w_dc ?_) | (with_reducible refine w_din ?_) | (with_reducible refine w_iEnumL ?_) | (with_reducible refine w_dget ?_) | (with_reducible refine w_dget2 ?_) | (with_reducible refine w_dput ?_) | (with_reducible refine w_par2 ?_) | (with_reducible refine w_lenSetT ?_) | (with_reducible refine w_fld ?_) | (with_reducible refine w_sfld ?_) | (with_reducible refine w_chain ?_) | (with_reducible refine w_make ?_) | (with_reducible refine w_isN0 ?_) | (with_reducible refine w_notN0 ?_) | ((with_reducible refine w_isN1 ?hh ?_); (case hh => first | assumption | exact fun z => by cases z)) | ((with_reducible refine w_notN1 ?hh ?_); (case hh => first | assumption | exact fun z => by cases z))
  | (with_reducible refine iteNF ?_) | (with_reducible refine iteNT ?_))

section
variable {P : Program} {w : World} {K : PySem.W.Frag} {mg : Str → Option Value} {base : Heap}
theorem ok_is_number (T : Tx K mg) : FnOk P w K mg base CX0 1 T.fis_number.a T.fis_number.d ["thing"] (spNum K) := by
  refine T.fis_number.F.ok scis_number (fun vs H Q E h => ?_) (fun cdv A outer s H vs Q E hr h => ?_)
  · obtain ⟨x, d, rfl, _⟩ := h
    rfl
  · obtain ⟨x, d, rfl, hx, q⟩ := h
    refine ⟨_, (pss_one (ps_ret (pe_and (pe_callB (kcall_isi K) (by rfl) T.misinstance (by decide +kernel) (pa_cons (pv 0) (pa_cons (pe_bltn (v := .ty "int") (by rfl) T.mint (by decide +kernel) rfl) pa_nil))) (pe_and (pe_not (pe_callB (kcall_isi K) (by rfl) T.misinstance (by decide +kernel) (pa_cons (pv 0) (pa_cons (pe_bltn (v := .ty "bool") (by rfl) T.mbool (by decide +kernel) rfl) pa_nil)))) (pe_one (pe_cmpR op_ge (pv 0) pe_int (nomark _))))))), ?_⟩
    walk_at "hs0"
    have hx' := hx
    cases hx with
    | i n =>
      repeat walk_at "hs"
      exact q
    | b v =>
      repeat walk_at "hs"
      exact q
    | n => (repeat walk_at "hs"); exact q
    | s z => (repeat walk_at "hs"); exact q
    | t a b => (repeat walk_at "hs"); exact q
    | l a b => (repeat walk_at "hs"); exact q
    | o a b => (repeat walk_at "hs"); exact q
theorem ok_is_below (T : Tx K mg) : FnOk P w K mg base CX0 2 T.fis_below.a T.fis_below.d ["bound", "thing"] (spBelow K) := by
  have Gis_number : FnOk P w K mg base CX0 1 T.fis_number.a T.fis_number.d ["thing"] (spNum K) := ok_is_number T
  refine T.fis_below.F.ok scis_below (fun vs H Q E h => ?_) (fun cdv A outer s H vs Q E hr h => ?_)
  · obtain ⟨k, x, d, rfl, _⟩ := h
    rfl
  · obtain ⟨k, x, d, rfl, hx, q⟩ := h
    refine ⟨_, (pss_one (ps_ret (pe_and (pe_call Gis_number (hr.mono (by first | decide | omega)) (by rfl) T.fis_number.g T.fis_number.F.kp T.fis_number.b .nil pass0 (pa_cons (pv 1) pa_nil)) (pe_one (pe_cmpR op_lt (pv 1) (pv 0) (nomark _)))))), ?_⟩
    walk_at "hs0"
    repeat walk_at "hs"
    refine ⟨x, d, rfl, hx, ?_⟩
    cases hx with
    | i n =>
      refine w_bl (ite_tf (fun e => ?_) (fun e => ?_))
      · repeat walk_at "hs"
        have e' : belowD k (.i n) = decide (n < k) := by
          show (decide (0 ≤ n) && decide (n < k)) = _
          rw [show decide (0 ≤ n) = true from e]; rfl
        rw [e'] at q
        exact q
      · have e' : belowD k (.i n) = false := by
          show (decide (0 ≤ n) && decide (n < k)) = _
          rw [show decide (0 ≤ n) = false from e]; rfl
        rw [e'] at q
        exact q
    | _ => exact w_bl (ite_tf (fun e => by cases e) (fun e => q))
end
end N53

set_option Elab.async false
set_option linter.all false
set_option maxRecDepth 100000
set_option maxHeartbeats 4000000
namespace N53
open PySem PySem.Spec PyProof.Rows L2 NP
local macro_rules | `(tactic| walk_at "hs0") => `(tactic| dsimp only [cxOf, Cx.nox, Cx.wish, L2.start, List.map, List.length, Nat.reduceAdd, Nat.reduceSub, List.replicate_succ, List.replicate_zero, List.cons_append, List.nil_append])
local macro_rules | `(tactic| walk_at "hs") => `(tactic| first
  | (with_reducible refine w_seq ?_) | (with_reducible refine w_asg ?_) | (with_reducible refine w_ret ?_) | (with_reducible refine w_drop ?_) | (with_reducible refine w_ifS ?_) | (with_reducible refine w_next ?_)
  | ((with_reducible refine w_var (v := ?_) ?hv ?_); (case hv => exact rfl)) | (with_reducible refine w_c ?_) | (with_reducible refine w_op ?_) | (with_reducible refine w_un ?_) | (with_reducible refine w_cb ?_) | (with_reducible refine w_nil ?_) | (with_reducible refine w_cons ?_)
  | (with_reducible refine w_call ?_) | (with_reducible refine w_tup ?_) | (with_reducible refine w_lst ?_) | (with_reducible refine w_if ?_) | (with_reducible refine w_andV ?_) | (with_reducible refine w_orV ?_) | (with_reducible refine w_notV ?_)
  | (with_reducible refine w_sl ?_) | (with_reducible refine w_noPart ?_) | (with_reducible refine w_part ?_) | (with_reducible refine w_test ?_) | (with_reducible refine w_B ?_) | (with_reducible refine w_and ?_) | (with_reducible refine w_or ?_) | (with_reducible refine w_not ?_)
  | (with_reducible refine w_gName ?_) | (with_reducible refine w_gSub ?_) | (with_reducible refine w_eqI ?_) | (with_reducible refine w_neI ?_) | (with_reducible refine w_rI0 ?_) | (with_reducible refine w_rU ?_) | (with_reducible refine w_bl ?_) | (with_reducible refine w_int ?_)
  | (with_reducible refine w_lc ?_) | (with_reducible refine w_yes ?_) | (with_reducible refine w_iList ?_) | (with_reducible refine w_iTup ?_) | (with_reducible refine w_iRng1 ?_) | (with_reducible refine w_iRng2 ?_) | (with_reducible refine w_for ?_)
  | (with_reducible refine w_intI ?_) | (with_reducible refine w_abs ?_) | (with_reducible refine w_min2 ?_) | (with_reducible refine w_max2 ?_) | (with_reducible refine w_intB ?_)
  | ((with_reducible refine w_ixLH (v := ?_) (xs := ?_) ?hh ?ha ?_); (case hh => assumption); (case ha => exact rfl))
  | ((with_reducible refine w_ixTH (v := ?_) (xs := ?_) ?hh ?ha ?_); (case hh => assumption); (case ha => exact rfl))
  | ((with_reducible refine w_lenLH (xs := ?_) ?hh ?_); (case hh => assumption))
  | ((with_reducible refine w_lenTH (xs := ?_) ?hh ?_); (case hh => assumption))
  | ((with_reducible refine w_rI ?hc ?_); (case hc => first | exact .inl ⟨by omega, by omega⟩ | exact .inr ⟨by omega, by omega⟩ | exact ⟨by decide, by decide, by decide⟩ | exact ⟨by omega, by omega⟩ | (show (0 : Int) < _; omega)))
  | (with_reducible refine iteT ?_) | (with_reducible refine iteF ?_)
  | ((with_reducible refine w_isiI (d := ?_) ?hh ?_); (case hh => assumption); (try dsimp only [isI, Bool.not_true, Bool.not_false]))
  | ((with_reducible refine w_isiB (d := ?_) ?hh ?_); (case hh => assumption); (try dsimp only [isB, Bool.not_true, Bool.not_false]))
  | ((with_reducible refine w_isiT (d := ?_) ?hh ?_); (case hh => assumption); (try dsimp only [isT, Bool.not_true, Bool.not_false]))
  | ((with_reducible refine w_isiL (d := ?_) ?hh ?_); (case hh => assumption); (try dsimp only [isL, Bool.not_true, Bool.not_false]))
  | (with_reducible refine w_gCons ?_) | (with_reducible refine w_gNil ?_) | (with_reducible refine w_bm ?_) | (with_reducible refine w_bm0 ?_) | (with_reducible refine w_truQ ?_) | (with_reducible refine w_iEnumT ?_) | (with_reducible refine w_iZipA ?_) | (with_reducible refine w_listRg ?_) | (with_reducible refine w_par ?_) | (with_reducible refine w_dc ?_) | (with_reducible refine w_din ?_) | (with_reducible refine w_iEnumL ?_) | (with_reducible refine w_dget ?_) | (with_reducible refine w_dget2 ?_) | (with_reducible refine w_dput ?_) | (with_reducible refine w_par2 ?_) | (with_reducible refine w_lenSetT ?_) | (with_reducible refine w_fld ?_) | (with_reducible refine w_sfld ?_) | (with_reducible refine w_chain ?_) | (with_reducible refine w_make ?_) | (with_reducible refine w_isN0 ?_) | (with_reducible refine w_notN0 ?_) | ((with_reducible refine w_isN1 ?hh ?_); (case hh => first | assumption | exact fun z => by cases z)) | ((with_reducible refine w_notN1 ?hh ?_); (case hh => first | assumption | exact fun z => by cases z))
  | (with_reducible refine iteNF ?_) | (with_reducible refine iteNT ?_))

section
variable {P : Program} {w : World} {K : PySem.W.Frag} {mg : Str → Option Value} {base : Heap}
theorem lv_step (T : Tx K mg) {k : Nat} (Gleaves_of : FnOk P w K mg base CX0 (k + 2) T.fleaves_of.a T.fleaves_of.d ["deep", "thing"] (spLv K k)) : FnOk P w K mg base CX0 (k + 3) T.fleaves_of.a T.fleaves_of.d ["deep", "thing"] (spLv K (k + 1)) := by
  have Gis_below : FnOk P w K mg base CX0 2 T.fis_below.a T.fis_below.d ["bound", "thing"] (spBelow K) := ok_is_below T
  refine T.fleaves_of.F.ok scleaves_of (fun vs H Q E h => ?_) (fun cdv A outer s H vs Q E hr h => ?_)
  · obtain ⟨x, d, rfl, _⟩ := h
    rfl
  · obtain ⟨x, d, rfl, hx, q⟩ := h
    refine ⟨_, (pss_cons (ps_if (PW.pt (pw_or (pt_cmpR op_isNQ (pv 1) pe_non (nomark _)) (pw_or1 (pt_val (pe_call Gis_below (hr.mono (by omega)) (by rfl) T.fis_below.g T.fis_below.F.kp T.fis_below.b .nil pass0 (pa_cons (pe_glob (v := .int 1000000000) rfl T.gNUMBERS ⟨_, rfl⟩) (pa_cons (pv 1) pa_nil))))))) (pss_one (ps_ret pe_int)) pss_nil)
      (pss_cons (ps_if (PW.pt (pw_or (pt_cmpR op_eq (pv 0) pe_int (nomark _)) (pw_or (pt_not (pt_val (pe_callB (kcall_isi K) (by rfl) T.misinstance (by decide +kernel) (pa_cons (pv 1) (pa_cons (pe_bltn (v := .ty "tuple") (by rfl) T.mtuple (by decide +kernel) rfl) pa_nil))))) (pw_or1 (pt_cmpR op_gt (pe_callB (kcall_len K) (by rfl) T.mlen PySem.boot_len (pa_cons (pv 1) pa_nil)) (pe_glob (v := .int 200) rfl T.gMOST_ITEMS ⟨_, rfl⟩) (nomark _)))))) (pss_one (ps_ret (pe_un un_neg pe_int))) pss_nil)
      (pss_cons (ps_set (i := 2) scleaves_of.nd rfl (.inl rfl) pe_int)
      (pss_cons (ps_for PassesOwn.never rfl (kpi_tup K (pv 1)) (pg_name (i := 3) scleaves_of.nd rfl (.inl rfl)) (pss_cons (ps_set (i := 4) scleaves_of.nd rfl (.inl rfl) (pe_call Gleaves_of (hr.mono (Nat.le_refl _)) (by rfl) T.fleaves_of.g T.fleaves_of.F.kp T.fleaves_of.b .nil pass0 (pa_cons (pe_op op_sub (pv 0) pe_int) (pa_cons (pv 3) pa_nil))))
      (pss_cons (ps_aug (i := 2) scleaves_of.nd rfl (.inl rfl) (pv 4) ip_add)
      (pss_one (ps_if (PW.pt (pw_or (pt_cmpR op_lt (pv 4) pe_int (nomark _)) (pw_or1 (pt_cmpR op_gt (pv 2) (pe_glob (v := .int 2000) rfl T.gMOST_LEAVES ⟨_, rfl⟩) (nomark _))))) (pss_one (ps_ret (pe_un un_neg pe_int))) pss_nil)))))
      (pss_one (ps_ret (pv 2))))))), ?_⟩
    walk_at "hs0"
    have hx' := hx
    cases hx with
    | n =>
      repeat walk_at "hs"
      rw [lvD_one rfl rfl] at q
      exact q
    | i n =>
      repeat walk_at "hs"
      refine ⟨_, _, _, rfl, hx', w_bl (ite_tf (fun e => ?_) (fun e => ?_))⟩
      · repeat walk_at "hs"
        rw [lvD_one rfl (show leaf1 (.i n) = true from e)] at q
        exact q
      · rw [lvD_neg rfl (show leaf1 (.i n) = false from e)] at q
        repeat walk_at "hs"
        refine ite_d (fun z => ?_) (fun z => ?_)
        · repeat walk_at "hs"
          exact q
        · repeat walk_at "hs"
          exact q
    | @t a vs ds h1 h2 =>
      repeat walk_at "hs"
      refine ⟨_, _, _, rfl, hx', w_bl ?_⟩
      refine ite_tf (fun e => by cases e) (fun e => ?_)
      repeat walk_at "hs"
      refine ite_d (fun z => ?_) (fun z => ?_)
      · have z : k = 0 := by omega
        subst z
        repeat walk_at "hs"
        exact q
      · obtain ⟨j, rfl⟩ : ∃ j, k = j + 1 := ⟨k - 1, by omega⟩
        rw [lvD_t] at q
        repeat walk_at "hs"
        refine w_lenT h1 ?_
        rw [h2.len]
        repeat walk_at "hs"
        refine ite_d (fun z2 => ?_) (fun z2 => ?_)
        · rw [if_neg (by omega)] at q
          repeat walk_at "hs"
          exact q
        · rw [if_pos (by omega)] at q
          repeat walk_at "hs"
          refine w_srcT h1 ?_
          refine for_it (walk_tup (xs := vs)) (fun i σ' H2 => H2 = H ∧ ∃ (tot : Int) (x3 x4 : Option V), σ' = [some (.int ((j + 1 : Nat) : Int)), some (.ref a), some (.int tot), x3, x4] ∧ lvL (lvD j) ds 0 = lvL (lvD j) (ds.drop i) tot)
            ⟨rfl, 0, none, none, rfl, by rw [List.drop_zero]⟩ (fun i σ' H2 _ p => by obtain ⟨rfl, _⟩ := p; exact h1) (fun i x σ' H2 H3 hi p y => ?_) (fun σ' H2 p => ?_)
          · obtain ⟨rfl, tot, x3, x4, rfl, el⟩ := p
            obtain ⟨rfl, hxi⟩ := y
            obtain ⟨d, hd, him⟩ := h2.at hxi
            rw [drop_at hd] at el
            repeat walk_at "hs"
            refine ⟨x, d, ?_, him, ?_⟩
            · rw [show (((j + 1 : Nat) : Int) - 1) = (j : Int) by omega]; rfl
            repeat walk_at "hs"
            refine w_aug rfl ?_
            have el2 : lvL (lvD j) (d :: ds.drop (i + 1)) tot = if lvD j d < 0 ∨ 2000 < tot + lvD j d then -1 else lvL (lvD j) (ds.drop (i + 1)) (tot + lvD j d) := rfl
            rw [el2] at el
            repeat walk_at "hs"
            refine ite_d (fun c1 => ?_) (fun c1 => ?_)
            · rw [if_pos (.inl c1)] at el
              rw [el] at q
              repeat walk_at "hs"
              exact q
            · repeat walk_at "hs"
              refine ite_d (fun c2 => ?_) (fun c2 => ?_)
              · rw [if_pos (.inr c2)] at el
                rw [el] at q
                repeat walk_at "hs"
                exact q
              · rw [if_neg (by omega)] at el
                repeat walk_at "hs"
                exact ⟨rfl, _, _, _, rfl, el⟩
          · obtain ⟨rfl, tot, x3, x4, rfl, el⟩ := p
            rw [h2.len, List.drop_length] at el
            repeat walk_at "hs"
            rw [el] at q
            exact q
    | o h1 h2 =>
      have nn := h1.1
      repeat walk_at "hs"
      refine ⟨_, _, _, rfl, hx', w_bl ?_⟩
      refine ite_tf (fun e => by cases e) (fun e => ?_)
      rw [lvD_neg rfl rfl] at q
      repeat walk_at "hs"
      refine ite_d (fun z => ?_) (fun z => ?_)
      · repeat walk_at "hs"
        exact q
      · repeat walk_at "hs"
        exact q
    | _ =>
      repeat walk_at "hs"
      refine ⟨_, _, _, rfl, hx', w_bl ?_⟩
      refine ite_tf (fun e => by cases e) (fun e => ?_)
      rw [lvD_neg rfl rfl] at q
      repeat walk_at "hs"
      refine ite_d (fun z => ?_) (fun z => ?_)
      · repeat walk_at "hs"
        exact q
      · repeat walk_at "hs"
        exact q
theorem ok_leaves_of (T : Tx K mg) : ∀ k, FnOk P w K mg base CX0 (k + 3) T.fleaves_of.a T.fleaves_of.d ["deep", "thing"] (spLv K (k + 1))
  | 0 => lv_step T ⟨fun _ _ _ _ h => h.elim, fun _ _ _ _ _ _ _ _ _ _ _ _ _ h => h.elim⟩
  | k + 1 => lv_step T (ok_leaves_of T k)
theorem ok_is_paper (T : Tx K mg) : FnOk P w K mg base CX0 7 T.fis_paper.a T.fis_paper.d ["thing"] (spPapB K) := by
  have Gleaves_of : FnOk P w K mg base CX0 6 T.fleaves_of.a T.fleaves_of.d ["deep", "thing"] (spLv K 4) := ok_leaves_of T 3
  refine T.fis_paper.F.ok scis_paper (fun vs H Q E h => ?_) (fun cdv A outer s H vs Q E hr h => ?_)
  · obtain ⟨x, d, rfl, _⟩ := h
    rfl
  · obtain ⟨x, d, rfl, hx, q⟩ := h
    refine ⟨_, (pss_one (ps_ret (pe_cmpR op_ge (pe_call Gleaves_of (hr.mono (by first | decide | omega)) (by rfl) T.fleaves_of.g T.fleaves_of.F.kp T.fleaves_of.b .nil pass0 (pa_cons (pe_glob (v := .int 3) rfl T.gMOST_DEEP ⟨_, rfl⟩) (pa_cons (pv 0) pa_nil))) pe_int (nomark _)))), ?_⟩
    walk_at "hs0"
    repeat walk_at "hs"
    refine ⟨x, d, rfl, hx, ?_⟩
    repeat walk_at "hs"
    exact q
theorem ok_is_papers (T : Tx K mg) : FnOk P w K mg base CX0 8 T.fis_papers.a T.fis_papers.d ["many", "thing"] (spPapsB K) := by
  have Gis_paper : FnOk P w K mg base CX0 7 T.fis_paper.a T.fis_paper.d ["thing"] (spPapB K) := ok_is_paper T
  refine T.fis_papers.F.ok scis_papers (fun vs H Q E h => ?_) (fun cdv A outer s H vs Q E hr h => ?_)
  · obtain ⟨n, x, d, rfl, _⟩ := h
    rfl
  · obtain ⟨n, x, d, rfl, hx, hn, q⟩ := h
    refine ⟨_, (pss_one (ps_ret (pe_and (pe_callB (kcall_isi K) (by rfl) T.misinstance (by decide +kernel) (pa_cons (pv 1) (pa_cons (pe_bltn (v := .ty "tuple") (by rfl) T.mtuple (by decide +kernel) rfl) pa_nil))) (pe_and (pe_cmpR op_eq (pe_callB (kcall_len K) (by rfl) T.mlen PySem.boot_len (pa_cons (pv 1) pa_nil)) (pv 0) (nomark _)) (pe_one (pe_callB (kcall_all K rfl) (by rfl) T.mall (by decide +kernel) (pa_cons (pe_lc (own := [("item", 2)]) rfl scis_papers.nd (kpi_tup K (pv 1)) (blkOk_by (own := [("item", 2)]) (N := ["many", "thing", "item"]) (sc := defScope sis_papers) (by decide +kernel)) (fun _ _ _ _ _ => (pg_name (i := 2) scis_papers.nd rfl (.inl rfl))) (fun _ _ _ _ _ => pts_nil) (fun _ _ _ _ _ => (pe_call Gis_paper (hr.mono (by first | decide | omega)) (by rfl) T.fis_paper.g T.fis_paper.F.kp T.fis_paper.b .nil pass0 (pa_cons (pv 2) pa_nil)))) pa_nil))))))), ?_⟩
    walk_at "hs0"
    have hx' := hx
    cases hx with
    | @t a vs ds hT hL =>
      repeat walk_at "hs"
      refine w_lenT hT ?_
      rw [hL.len]
      repeat walk_at "hs"
      refine ite_d (fun e => ?_) (fun e => ?_)
      · repeat walk_at "hs"
        refine w_srcT hT fun D hD => lc_ys walk_tup (ds.map fun d => V.bl (papB d)) (by rw [List.length_map, hL.len]) (by rw [hL.len]; omega) hD (fun H' e => Same.tupS e hT) (fun i x H1 H' hi s1 y => ?_) (fun H' s2 h2 => ?_)
        · obtain ⟨rfl, hxi⟩ := y
          obtain ⟨d, hd, him⟩ := hL.at hxi
          refine ⟨Same.refl _, fun Q' q' => ?_⟩
          repeat walk_at "hs"
          exact ⟨x, d, rfl, him.same s1, q' _ _ (by rw [List.getElem?_map, hd]; rfl) (Same.refl _)⟩
        · repeat walk_at "hs"
          refine w_all (ds.map papB) (by rw [List.map_map]; exact h2) ?_
          rw [show (ds.map papB).all id = papsB n (.t ds) by
            show _ = (decide ((ds.length : Int) = n) && ds.all papB)
            rw [decide_eq_true e, List.all_map]; rfl]
          exact q H' s2
      · have e2 : papsB n (.t ds) = false := by
          show (decide ((ds.length : Int) = n) && ds.all papB) = false
          rw [decide_eq_false e]; rfl
        have := q H (Same.refl H)
        rw [e2] at this
        exact this
    | _ =>
      repeat walk_at "hs"
      exact q H (Same.refl H)
end
end N53

set_option Elab.async false
set_option linter.all false
set_option maxRecDepth 100000
set_option maxHeartbeats 4000000
namespace N53
open PySem PySem.Spec PyProof.Rows L2 NP
local macro_rules | `(tactic| walk_at "hs0") => `(tactic| dsimp only [cxOf, Cx.nox, Cx.wish, L2.start, List.map, List.length, Nat.reduceAdd, Nat.reduceSub, List.replicate_succ, List.replicate_zero, List.cons_append, List.nil_append])
local macro_rules | `(tactic| walk_at "hs") => `(tactic| first
  | (with_reducible refine w_seq ?_) | (with_reducible refine w_asg ?_) | (with_reducible refine w_ret ?_) | (with_reducible refine w_drop ?_) | (with_reducible refine w_ifS ?_) | (with_reducible refine w_next ?_)
  | ((with_reducible refine w_var (v := ?_) ?hv ?_); (case hv => exact rfl)) | (with_reducible refine w_c ?_) | (with_reducible refine w_op ?_) | (with_reducible refine w_un ?_) | (with_reducible refine w_cb ?_) | (with_reducible refine w_nil ?_) | (with_reducible refine w_cons ?_)
  | (with_reducible refine w_call ?_) | (with_reducible refine w_tup ?_) | (with_reducible refine w_lst ?_) | (with_reducible refine w_if ?_) | (with_reducible refine w_andV ?_) | (with_reducible refine w_orV ?_) | (with_reducible refine w_notV ?_)
  | (with_reducible refine w_sl ?_) | (with_reducible refine w_noPart ?_) | (with_reducible refine w_part ?_) | (with_reducible refine w_test ?_) | (with_reducible refine w_B ?_) | (with_reducible refine w_and ?_) | (with_reducible refine w_or ?_) | (with_reducible refine w_not ?_)
  | (with_reducible refine w_gName ?_) | (with_reducible refine w_gSub ?_) | (with_reducible refine w_eqI ?_) | (with_reducible refine w_neI ?_) | (with_reducible refine w_rI0 ?_) | (with_reducible refine w_rU ?_) | (with_reducible refine w_bl ?_) | (with_reducible refine w_int ?_)
  | (with_reducible refine w_lc ?_) | (with_reducible refine w_yes ?_) | (with_reducible refine w_iList ?_) | (with_reducible refine w_iTup ?_) | (with_reducible refine w_iRng1 ?_) | (with_reducible refine w_iRng2 ?_) | (with_reducible refine w_for ?_)
  | (with_reducible refine w_intI ?_) | (with_reducible refine w_abs ?_) | (with_reducible refine w_min2 ?_) | (with_reducible refine w_max2 ?_) | (with_reducible refine w_intB ?_)
  | ((with_reducible refine w_ixLH (v := ?_) (xs := ?_) ?hh ?ha ?_); (case hh => assumption); (case ha => exact rfl))
  | ((with_reducible refine w_ixTH (v := ?_) (xs := ?_) ?hh ?ha ?_); (case hh => assumption); (case ha => exact rfl))
  | ((with_reducible refine w_lenLH (xs := ?_) ?hh ?_); (case hh => assumption))
  | ((with_reducible refine w_lenTH (xs := ?_) ?hh ?_); (case hh => assumption))
  | ((with_reducible refine w_rI ?hc ?_); (case hc => first | exact .inl ⟨by omega, by omega⟩ | exact .inr ⟨by omega, by omega⟩ | exact ⟨by decide, by decide, by decide⟩ | exact ⟨by omega, by omega⟩ | (show (0 : Int) < _; omega)))
  | (with_reducible refine iteT ?_) | (with_reducible refine iteF ?_)
  | ((with_reducible refine w_isiI (d := ?_) ?hh ?_); (case hh => assumption); (try dsimp only [isI, Bool.not_true, Bool.not_false]))
  | ((with_reducible refine w_isiB (d := ?_) ?hh ?_); (case hh => assumption); (try dsimp only [isB, Bool.not_true, Bool.not_false]))
  | ((with_reducible refine w_isiT (d := ?_) ?hh ?_); (case hh => assumption); (try dsimp only [isT, Bool.not_true, Bool.not_false]))
  | ((with_reducible refine w_isiL (d := ?_) ?hh ?_); (case hh => assumption); (try dsimp only [isL, Bool.not_true, Bool.not_false]))
  | (with_reducible refine w_gCons ?_) | (with_reducible refine w_gNil ?_) | (with_reducible refine w_bm ?_) | (with_reducible refine w_bm0 ?_) | (with_reducible refine w_truQ ?_) | (with_reducible refine w_iEnumT ?_) | (with_reducible refine w_iZipA ?_) | (with_reducible refine w_listRg ?_) | (with_reducible refine w_par ?_) | (with_reducible refine w_dc ?_) | (with_reducible refine w_din ?_) | (with_reducible refine w_iEnumL ?_) | (with_reducible refine w_dget ?_) | (with_reducible refine w_dget2 ?_) | (with_reducible refine w_dput ?_) | (with_reducible refine w_par2 ?_) | (with_reducible refine w_lenSetT ?_) | (with_reducible refine w_fld ?_) | (with_reducible refine w_sfld ?_) | (with_reducible refine w_chain ?_) | (with_reducible refine w_make ?_) | (with_reducible refine w_isN0 ?_) | (with_reducible refine w_notN0 ?_) | ((with_reducible refine w_isN1 ?hh ?_); (case hh => first | assumption | exact fun z => by cases z)) | ((with_reducible refine w_notN1 ?hh ?_); (case hh => first | assumption | exact fun z => by cases z))
  | (with_reducible refine iteNF ?_) | (with_reducible refine iteNT ?_))

section
variable {P : Program} {w : World} {K : PySem.W.Frag} {mg : Str → Option Value} {base : Heap}
theorem gr_step (T : Tx K mg) {k : Nat} (Ggreatest_in : FnOk P w K mg base CX0 k T.fgreatest_in.a T.fgreatest_in.d ["paper"] (spGr K k)) : FnOk P w K mg base CX0 (k + 1) T.fgreatest_in.a T.fgreatest_in.d ["paper"] (spGr K (k + 1)) := by
  refine T.fgreatest_in.F.ok scgreatest_in (fun vs H Q E h => ?_) (fun cdv A outer s H vs Q E hr h => ?_)
  · obtain ⟨x, d, rfl, _⟩ := h
    rfl
  · obtain ⟨x, d, rfl, hx, hp, q⟩ := h
    refine ⟨_, (pss_cons (ps_if (pt_val (pe_callB (kcall_isi K) (by rfl) T.misinstance (by decide +kernel) (pa_cons (pv 0) (pa_cons (pe_bltn (v := .ty "tuple") (by rfl) T.mtuple (by decide +kernel) rfl) pa_nil)))) (pss_one (ps_ret (pe_callB (kcr_max K rfl) (by rfl) T.mmax (by decide +kernel) (pa_cons (pe_lst (pa_cons (pe_un un_neg pe_int) (StX.pa_star (pe_lc (own := [("item", 1)]) rfl scgreatest_in.nd (kpi_tup K (pv 0)) (blkOk_by (own := [("item", 1)]) (N := ["paper", "item"]) (sc := defScope sgreatest_in) (by decide +kernel)) (fun _ _ _ _ _ => (pg_name (i := 1) scgreatest_in.nd rfl (.inl rfl))) (fun _ _ _ _ _ => pts_nil) (fun _ _ _ _ _ => (pe_call Ggreatest_in (hr.mono (Nat.le_refl _)) (by rfl) T.fgreatest_in.g T.fgreatest_in.F.kp T.fgreatest_in.b .nil pass0 (pa_cons (pv 1) pa_nil)))) pa_nil))) pa_nil)))) pss_nil)
      (pss_one (ps_ret (pe_ifExp (pt_cmpR op_isNQ (pv 0) pe_non (nomark _)) (pe_un un_neg pe_int) (pv 0))))), ?_⟩
    walk_at "hs0"
    have hx' := hx
    cases hx with
    | n =>
      repeat walk_at "hs"
      exact q H (Same.refl H)
    | i n =>
      repeat walk_at "hs"
      exact q H (Same.refl H)
    | @t a vs ds hT hL =>
      cases k with
      | zero => cases hp
      | succ k =>
      obtain ⟨hp1, hp2⟩ := hp
      repeat walk_at "hs"
      refine w_star ?_
      repeat walk_at "hs"
      refine w_srcT hT fun D hD => lc_ys walk_tup (ds.map fun d => V.int (grD d)) (by rw [List.length_map, hL.len]) (by rw [hL.len]; omega) hD (fun H' e => Same.tupS e hT) (fun i x H1 H' hi s1 y => ?_) (fun H' s2 h2 => ?_)
      · obtain ⟨rfl, hxi⟩ := y
        obtain ⟨d, hd, him⟩ := hL.at hxi
        refine ⟨Same.refl _, fun Q' q' => ?_⟩
        repeat walk_at "hs"
        exact ⟨x, d, rfl, him.same s1, hp2 d (List.mem_of_getElem? hd), fun H5 s5 => q' _ _ (by rw [List.getElem?_map, hd]; rfl) s5⟩
      · refine ⟨D, _, rfl, .inr (SqL.of h2), ?_⟩
        repeat walk_at "hs"
        refine w_lstN ?_ fun p H3 n3 s3 h3 => ?_
        · rw [List.append_nil, List.length_cons, List.length_map]; omega
        repeat walk_at "hs"
        refine w_maxL (ns := -1 :: ds.map grD) ?_ (by simp) fun m m1 m2 => ?_
        · rw [List.append_nil] at h3
          have e : (V.int (-1) :: ds.map fun d => V.int (grD d)) = (-1 :: ds.map grD).map V.int := by rw [List.map_cons, List.map_map]; rfl
          rw [e] at h3
          exact SqL.of h3
        · rw [grL_max m1 m2]
          exact q H3 (s2.trans s3)
    | _ => cases k <;> cases hp
theorem ok_greatest_in (T : Tx K mg) : ∀ k, FnOk P w K mg base CX0 (k + 1) T.fgreatest_in.a T.fgreatest_in.d ["paper"] (spGr K (k + 1))
  | 0 => gr_step T ⟨fun _ _ _ _ h => h.elim, fun _ _ _ _ _ _ _ _ _ _ _ _ _ h => h.elim⟩
  | k + 1 => gr_step T (ok_greatest_in T k)
theorem papB_pap {d : Dd} (h : papB d = true) : PapD 3 d := lvD_pap (of_decide_eq_true h)
theorem ok_digits_of (T : Tx K mg) : FnOk P w K mg base (L2.CX P w) 9 T.fdigits_of.a T.fdigits_of.d ["papers"] (spDig K T.CNoPapers) := by
  have Gis_papers : FnOk P w K mg base CX0 8 T.fis_papers.a T.fis_papers.d ["many", "thing"] (spPapsB K) := ok_is_papers T
  have Ggreatest_in : FnOk P w K mg base CX0 5 T.fgreatest_in.a T.fgreatest_in.d ["paper"] (spGr K 5) := ok_greatest_in T 4
  refine T.fdigits_of.F.okX scdigits_of (fun vs H Q E h => ?_) (fun cdv A outer s H vs Q E hr h => ?_)
  · obtain ⟨x, d, rfl, _⟩ := h
    rfl
  · obtain ⟨x, d, rfl, hx, q⟩ := h
    refine ⟨_, (pss_cons (ps_if (PW.pt (pw_or (pt_not (pt_val (pe_callB (kcall_isi K) (by rfl) T.misinstance (by decide +kernel) (pa_cons (pv 0) (pa_cons (pe_bltn (v := .ty "tuple") (by rfl) T.mtuple (by decide +kernel) rfl) pa_nil))))) (pw_or (pt_not (pt_chain op_le op_le pe_int (pe_callB (kcall_len K) (by rfl) T.mlen PySem.boot_len (pa_cons (pv 0) pa_nil)) (pe_glob (v := .int 100) rfl T.gMOST_PAPERS ⟨_, rfl⟩))) (pw_or1 (pt_not (pt_val (pe_call Gis_papers (hr.mono (by first | decide | omega)) (by rfl) T.fis_papers.g T.fis_papers.F.kp T.fis_papers.b .nil pass0 (pa_cons (pe_callB (kcall_len K) (by rfl) T.mlen PySem.boot_len (pa_cons (pv 0) pa_nil)) (pa_cons (pv 0) pa_nil))))))))) (pss_one (ps_raise rfl (takes_of rfl rfl rfl rfl) (pmk_own0 PySem.F.excBase_ValueError T.xNoPapers T.gNoPapers T.kNoPapers (raises_own T.bNoPapers T.tNoPapers) rfl))) pss_nil)
      (pss_cons (ps_set (i := 1) scdigits_of.nd rfl (.inl rfl) (pe_call Ggreatest_in (hr.mono (by first | decide | omega)) (by rfl) T.fgreatest_in.g T.fgreatest_in.F.kp T.fgreatest_in.b .nil pass0 (pa_cons (pv 0) pa_nil)))
      (pss_one (ps_ret (pe_ifExp (pt_cmpR op_lt (pv 1) pe_int (nomark _)) pe_int (pe_callB (callQ_max2 rfl) (by rfl) T.mmax (by decide +kernel) (pa_cons pe_int (pa_cons (pe_bits (pv 1)) pa_nil)))))))), ?_⟩
    walk_at "hs0"
    have hx' := hx
    cases hx with
    | @t a vs ds hT hL =>
      repeat walk_at "hs"
      refine w_lenT hT ?_
      rw [hL.len]
      repeat walk_at "hs"
      have qbad : okP (.t ds) = false → ∀ H', Same H H' → E (.ref T.CNoPapers) none H' := fun e H' sm => by
        have := q H' sm
        rw [e] at this
        exact this
      have ok3 : okP (.t ds) = (decide (1 ≤ ds.length) && (decide (ds.length ≤ 100) && ds.all papB)) := rfl
      refine ite_d (fun l1 => ?_) (fun l1 => ?_)
      · repeat walk_at "hs"
        refine ite_nd (fun l2 => ?_) (fun l2 => ?_)
        · repeat walk_at "hs"
          refine qbad ?_ H (Same.refl H)
          rw [ok3, decide_eq_false (show ¬ ds.length ≤ 100 by omega), Bool.false_and, Bool.and_false]
        · repeat walk_at "hs"
          refine w_lenT hT ?_
          rw [hL.len]
          repeat walk_at "hs"
          refine ⟨_, _, _, rfl, hx', by omega, fun H1 s1 => ?_⟩
          have e1 : papsB (ds.length : Nat) (.t ds) = ds.all papB := by
            show (decide (((ds.length : Nat) : Int) = ds.length) && ds.all papB) = _
            rw [decide_eq_true rfl, Bool.true_and]
          have e2 : okP (.t ds) = ds.all papB := by
            rw [ok3, decide_eq_true (show 1 ≤ ds.length by omega), decide_eq_true (show ds.length ≤ 100 by omega), Bool.true_and, Bool.true_and]
          rw [e1, ← e2]
          repeat walk_at "hs"
          cases eo : okP (.t ds) with
          | false =>
            repeat walk_at "hs"
            exact qbad eo H1 s1
          | true =>
            rw [e2] at eo
            have hp : PapD 4 (.t ds) := ⟨by omega, fun d hd => papB_pap (List.all_eq_true.mp eo d hd)⟩
            repeat walk_at "hs"
            refine ⟨_, _, rfl, hx'.same s1, hp, fun H2 s2 => ?_⟩
            have q2 := q H2 (s1.trans s2)
            rw [e2, eo, if_pos rfl] at q2
            repeat walk_at "hs"
            refine ite_d (fun g => ?_) (fun g => ?_)
            · repeat walk_at "hs"
              unfold dg at q2
              rw [if_pos g] at q2
              exact q2
            · repeat walk_at "hs"
              refine w_bits ?_
              repeat walk_at "hs"
              unfold dg at q2
              rw [if_neg g] at q2
              rw [show (max 1 (bitsI (grD (.t ds)) : Int)) = if (bitsI (grD (.t ds)) : Int) > 1 then (bitsI (grD (.t ds)) : Int) else 1 by split <;> omega] at q2
              exact q2
      · repeat walk_at "hs"
        refine qbad ?_ H (Same.refl H)
        rw [ok3, decide_eq_false (show ¬ 1 ≤ ds.length by omega), Bool.false_and]
    | _ =>
      repeat walk_at "hs"
      exact q H (Same.refl H)
end
end N53

set_option Elab.async false
set_option linter.all false
set_option maxRecDepth 100000
set_option maxHeartbeats 4000000
namespace N53
open PySem PySem.Spec PyProof.Rows L2 NP
local macro_rules | `(tactic| walk_at "hs0") => `(tactic| dsimp only [cxOf, Cx.nox, Cx.wish, L2.start, List.map, List.length, Nat.reduceAdd, Nat.reduceSub, List.replicate_succ, List.replicate_zero, List.cons_append, List.nil_append])
local macro_rules | `(tactic| walk_at "hs") => `(tactic| first
  | (with_reducible refine w_seq ?_) | (with_reducible refine w_asg ?_) | (with_reducible refine w_ret ?_) | (with_reducible refine w_drop ?_) | (with_reducible refine w_ifS ?_) | (with_reducible refine w_next ?_)
  | ((with_reducible refine w_var (v := ?_) ?hv ?_); (case hv => exact rfl)) | (with_reducible refine w_c ?_) | (with_reducible refine w_op ?_) | (with_reducible refine w_un ?_) | (with_reducible refine w_cb ?_) | (with_reducible refine w_nil ?_) | (with_reducible refine w_cons ?_)
  | (with_reducible refine w_call ?_) | (with_reducible refine w_tup ?_) | (with_reducible refine w_lst ?_) | (with_reducible refine w_if ?_) | (with_reducible refine w_andV ?_) | (with_reducible refine w_orV ?_) | (with_reducible refine w_notV ?_)
  | (with_reducible refine w_sl ?_) | (with_reducible refine w_noPart ?_) | (with_reducible refine w_part ?_) | (with_reducible refine w_test ?_) | (with_reducible refine w_B ?_) | (with_reducible refine w_and ?_) | (with_reducible refine w_or ?_) | (with_reducible refine w_not ?_)
  | (with_reducible refine w_gName ?_) | (with_reducible refine w_gSub ?_) | (with_reducible refine w_eqI ?_) | (with_reducible refine w_neI ?_) | (with_reducible refine w_rI0 ?_) | (with_reducible refine w_rU ?_) | (with_reducible refine w_bl ?_) | (with_reducible refine w_int ?_)
  | (with_reducible refine w_lc ?_) | (with_reducible refine w_yes ?_) | (with_reducible refine w_iList ?_) | (with_reducible refine w_iTup ?_) | (with_reducible refine w_iRng1 ?_) | (with_reducible refine w_iRng2 ?_) | (with_reducible refine w_for ?_)
  | (with_reducible refine w_intI ?_) | (with_reducible refine w_abs ?_) | (with_reducible refine w_min2 ?_) | (with_reducible refine w_max2 ?_) | (with_reducible refine w_intB ?_)
  | ((with_reducible refine w_ixLH (v := ?_) (xs := ?_) ?hh ?ha ?_); (case hh => assumption); (case ha => exact rfl))
  | ((with_reducible refine w_ixTH (v := ?_) (xs := ?_) ?hh ?ha ?_); (case hh => assumption); (case ha => exact rfl))
  | ((with_reducible refine w_lenLH (xs := ?_) ?hh ?_); (case hh => assumption))
  | ((with_reducible refine w_lenTH (xs := ?_) ?hh ?_); (case hh => assumption))
  | ((with_reducible refine w_rI ?hc ?_); (case hc => first | exact .inl ⟨by omega, by omega⟩ | exact .inr ⟨by omega, by omega⟩ | exact ⟨by decide, by decide, by decide⟩ | exact ⟨by omega, by omega⟩ | (show (0 : Int) < _; omega)))
  | (with_reducible refine iteT ?_) | (with_reducible refine iteF ?_)
  | ((with_reducible refine w_isiI (d := ?_) ?hh ?_); (case hh => assumption); (try dsimp only [isI, Bool.not_true, Bool.not_false]))
  | ((with_reducible refine w_isiB (d := ?_) ?hh ?_); (case hh => assumption); (try dsimp only [isB, Bool.not_true, Bool.not_false]))
  | ((with_reducible refine w_isiT (d := ?_) ?hh ?_); (case hh => assumption); (try dsimp only [isT, Bool.not_true, Bool.not_false]))
  | ((with_reducible refine w_isiL (d := ?_) ?hh ?_); (case hh => assumption); (try dsimp only [isL, Bool.not_true, Bool.not_false]))
  | (with_reducible refine w_gCons ?_) | (with_reducible refine w_gNil ?_) | (with_reducible refine w_bm ?_) | (with_reducible refine w_bm0 ?_) | (with_reducible refine w_truQ ?_) | (with_reducible refine w_iEnumT ?_) | (with_reducible refine w_iZipA ?_) | (with_reducible refine w_listRg ?_) | (with_reducible refine w_par ?_) | (with_reducible refine w_dc ?_) | (with_reducible refine w_din ?_) | (with_reducible refine w_iEnumL ?_) | (with_reducible refine w_dget ?_) | (with_reducible refine w_dget2 ?_) | (with_reducible refine w_dput ?_) | (with_reducible refine w_par2 ?_) | (with_reducible refine w_lenSetT ?_) | (with_reducible refine w_fld ?_) | (with_reducible refine w_sfld ?_) | (with_reducible refine w_chain ?_) | (with_reducible refine w_make ?_) | (with_reducible refine w_isN0 ?_) | (with_reducible refine w_notN0 ?_) | ((with_reducible refine w_isN1 ?hh ?_); (case hh => first | assumption | exact fun z => by cases z)) | ((with_reducible refine w_notN1 ?hh ?_); (case hh => first | assumption | exact fun z => by cases z))
  | (with_reducible refine iteNF ?_) | (with_reducible refine iteNT ?_))

section
variable {P : Program} {w : World} {K : PySem.W.Frag} {mg : Str → Option Value} {base : Heap}
theorem ok_law_said (T : Tx K mg) : FnOk P w K mg base CX0 10 T.f_law_said.a T.f_law_said.d ["thing"] (spSaid K) := by
  have Gdigits_of : FnOk P w K mg base (L2.CX P w) 9 T.fdigits_of.a T.fdigits_of.d ["papers"] (spDig K T.CNoPapers) := ok_digits_of T
  refine T.f_law_said.F.ok sc_law_said (fun vs H Q E h => ?_) (fun cdv A outer s H vs Q E hr h => ?_)
  · obtain ⟨x, d, rfl, _⟩ := h
    rfl
  · obtain ⟨x, d, rfl, hx, q⟩ := h
    refine ⟨_, (pss_one (ps_try_many rfl rfl takes0 (fun W pn xe tk _ => (pss_one (ps_ret (pe_tup (pa_cons pe_str (pa_cons (pe_callS Gdigits_of (hr.mono (by first | decide | omega)) (by rfl) T.fdigits_of.g T.fdigits_of.F.kp T.fdigits_of.b (fun σ => passAt tk σ) (by exact (pa_cons (pv 0) pa_nil))) pa_nil)))))) (.cons ⟨rfl, by decide, .inl T.gNoPapers⟩ (fun a oe cls d pn _ _ => (pss_one (ps_ret (pe_tup (pa_cons pe_str (pa_cons pe_non pa_nil)))))) (.cons ⟨rfl, by decide, .inl T.gNearError⟩ (fun a oe cls d pn _ _ => (pss_one (ps_ret (pe_tup (pa_cons pe_str (pa_cons pe_non pa_nil)))))) .nil)))), ?_⟩
    walk_at "hs0"
    repeat walk_at "hs"
    refine w_callS ?_
    repeat walk_at "hs"
    refine ⟨x, d, rfl, hx, fun H1 s1 => ?_⟩
    have q1 := fun p H' (sm : Same H1 H') => q p H' (s1.trans sm)
    clear q
    cases e : okP d with
    | true =>
      rw [e] at q1
      rw [if_pos rfl]
      repeat walk_at "hs"
      refine w_tupN ?_ fun p H2 n2 s2 h2 => ?_
      · exact (by decide : 2 ≤ 100000)
      exact q1 p H2 s2 h2
    | false =>
      rw [e] at q1
      rw [if_neg Bool.false_ne_true]
      refine ⟨true, T.eNoPapers, (fun _ a ha => ?_), (fun z => nomatch z)⟩
      repeat walk_at "hs"
      refine w_tupN ?_ fun p H2 n2 s2 h2 => ?_
      · exact (by decide : 2 ≤ 100000)
      exact q1 p H2 s2 h2
end
end N53

set_option Elab.async false
set_option linter.all false
set_option maxRecDepth 100000
set_option maxHeartbeats 4000000
namespace N53
open PySem PySem.Spec PyProof.Rows L2 NP
local macro_rules | `(tactic| walk_at "hs0") => `(tactic| dsimp only [cxOf, Cx.nox, Cx.wish, L2.start, List.map, List.length, Nat.reduceAdd, Nat.reduceSub, List.replicate_succ, List.replicate_zero, List.cons_append, List.nil_append])
local macro_rules | `(tactic| walk_at "hs") => `(tactic| first
  | (with_reducible refine w_seq ?_) | (with_reducible refine w_asg ?_) | (with_reducible refine w_ret ?_) | (with_reducible refine w_drop ?_) | (with_reducible refine w_ifS ?_) | (with_reducible refine w_next ?_)
  | ((with_reducible refine w_var (v := ?_) ?hv ?_); (case hv => exact rfl)) | (with_reducible refine w_c ?_) | (with_reducible refine w_op ?_) | (with_reducible refine w_un ?_) | (with_reducible refine w_cb ?_) | (with_reducible refine w_nil ?_) | (with_reducible refine w_cons ?_)
  | (with_reducible refine w_call ?_) | (with_reducible refine w_tup ?_) | (with_reducible refine w_lst ?_) | (with_reducible refine w_if ?_) | (with_reducible refine w_andV ?_) | (with_reducible refine w_orV ?_) | (with_reducible refine w_notV ?_)
  | (with_reducible refine w_sl ?_) | (with_reducible refine w_noPart ?_) | (with_reducible refine w_part ?_) | (with_reducible refine w_test ?_) | (with_reducible refine w_B ?_) | (with_reducible refine w_and ?_) | (with_reducible refine w_or ?_) | (with_reducible refine w_not ?_)
  | (with_reducible refine w_gName ?_) | (with_reducible refine w_gSub ?_) | (with_reducible refine w_eqI ?_) | (with_reducible refine w_neI ?_) | (with_reducible refine w_rI0 ?_) | (with_reducible refine w_rU ?_) | (with_reducible refine w_bl ?_) | (with_reducible refine w_int ?_)
  | (with_reducible refine w_lc ?_) | (with_reducible refine w_yes ?_) | (with_reducible refine w_iList ?_) | (with_reducible refine w_iTup ?_) | (with_reducible refine w_iRng1 ?_) | (with_reducible refine w_iRng2 ?_) | (with_reducible refine w_for ?_)
  | (with_reducible refine w_intI ?_) | (with_reducible refine w_abs ?_) | (with_reducible refine w_min2 ?_) | (with_reducible refine w_max2 ?_) | (with_reducible refine w_intB ?_)
  | ((with_reducible refine w_ixLH (v := ?_) (xs := ?_) ?hh ?ha ?_); (case hh => assumption); (case ha => exact rfl))
  | ((with_reducible refine w_ixTH (v := ?_) (xs := ?_) ?hh ?ha ?_); (case hh => assumption); (case ha => exact rfl))
  | ((with_reducible refine w_lenLH (xs := ?_) ?hh ?_); (case hh => assumption))
  | ((with_reducible refine w_lenTH (xs := ?_) ?hh ?_); (case hh => assumption))
  | ((with_reducible refine w_rI ?hc ?_); (case hc => first | exact .inl ⟨by omega, by omega⟩ | exact .inr ⟨by omega, by omega⟩ | exact ⟨by decide, by decide, by decide⟩ | exact ⟨by omega, by omega⟩ | (show (0 : Int) < _; omega)))
  | (with_reducible refine iteT ?_) | (with_reducible refine iteF ?_)
  | ((with_reducible refine w_isiI (d := ?_) ?hh ?_); (case hh => assumption); (try dsimp only [isI, Bool.not_true, Bool.not_false]))
  | ((with_reducible refine w_isiB (d := ?_) ?hh ?_); (case hh => assumption); (try dsimp only [isB, Bool.not_true, Bool.not_false]))
  | ((with_reducible refine w_isiT (d := ?_) ?hh ?_); (case hh => assumption); (try dsimp only [isT, Bool.not_true, Bool.not_false]))
  | ((with_reducible refine w_isiL (d := ?_) ?hh ?_); (case hh => assumption); (try dsimp only [isL, Bool.not_true, Bool.not_false]))
  | (with_reducible refine w_gCons ?_) | (with_reducible refine w_gNil ?_) | (with_reducible refine w_bm ?_) | (with_reducible refine w_bm0 ?_) | (with_reducible refine w_truQ ?_) | (with_reducible refine w_iEnumT ?_) | (with_reducible refine w_iZipA ?_) | (with_reducible refine w_listRg ?_) | (with_reducible refine w_par ?_) | (with_reducible refine w_dc ?_) | (with_reducible refine w_din ?_) | (with_reducible refine w_iEnumL ?_) | (with_reducible refine w_dget ?_) | (with_reducible refine w_dget2 ?_) | (with_reducible refine w_dput ?_) | (with_reducible refine w_par2 ?_) | (with_reducible refine w_lenSetT ?_) | (with_reducible refine w_fld ?_) | (with_reducible refine w_sfld ?_) | (with_reducible refine w_chain ?_) | (with_reducible refine w_make ?_) | (with_reducible refine w_isN0 ?_) | (with_reducible refine w_notN0 ?_) | ((with_reducible refine w_isN1 ?hh ?_); (case hh => first | assumption | exact fun z => by cases z)) | ((with_reducible refine w_notN1 ?hh ?_); (case hh => first | assumption | exact fun z => by cases z))
  | (with_reducible refine iteNF ?_) | (with_reducible refine iteNT ?_))

section
variable {P : Program} {w : World} {K : PySem.W.Frag} {mg : Str → Option Value} {base : Heap}
theorem ok_law (T : Tx K mg) : FnOk P w K mg base CX0 11 T.flaw.a T.flaw.d ["script"] (spLaw K) := by
  have G_law_pot : FnOk P w K mg base CX0 1 T.f_law_pot.a T.f_law_pot.d ["script"] (spHand K) := ok_hand T
  have G_law_draw : FnOk P w K mg base CX0 1 T.f_law_draw.a T.f_law_draw.d ["pot", "many"] spDraw := ok_draw T
  have G_law_any : FnOk P w K mg base CX0 2 T.f_law_any.a T.f_law_any.d ["pot", "things"] (spAny K) := ok_any T
  have G_law_paper : FnOk P w K mg base CX0 6 T.f_law_paper.a T.f_law_paper.d ["pot", "deep"] (spPp K 4) := ok_law_paper T 3
  have G_law_greatest : FnOk P w K mg base CX0 4 T.f_law_greatest.a T.f_law_greatest.d ["paper"] (spGr K 4) := ok_law_greatest T 3
  have G_law_digits : FnOk P w K mg base CX0 1 T.f_law_digits.a T.f_law_digits.d ["number"] spDg := ok_law_digits T
  have G_law_said : FnOk P w K mg base CX0 10 T.f_law_said.a T.f_law_said.d ["thing"] (spSaid K) := ok_law_said T
  refine T.flaw.F.ok sclaw (fun vs H Q E h => ?_) (fun cdv A outer s H vs Q E hr h => ?_)
  · obtain ⟨a, ns, rfl, _⟩ := h
    rfl
  · obtain ⟨a, ns, rfl, hS, hl, q⟩ := h
    refine ⟨_, (pss_cons (ps_set (i := 1) sclaw.nd rfl (.inr rfl) (pe_call G_law_pot (hr.mono (by first | decide | omega)) (by rfl) T.f_law_pot.g T.f_law_pot.F.kp T.f_law_pot.b .nil pass0 (pa_cons (pv 0) pa_nil)))
      (pss_cons (ps_for PassesOwn.never rfl (pi_range1 rfl T.mrange (pa_cons pe_int pa_nil)) (pg_name (i := 2) sclaw.nd rfl (.inl rfl)) (pss_cons (ps_set (i := 3) sclaw.nd rfl (.inl rfl) (pe_call G_law_any (hr.mono (by first | decide | omega)) (by rfl) T.f_law_any.g T.f_law_any.F.kp T.f_law_any.b .nil pass0 (pa_cons (pv 1) (pa_cons (pe_lst (pa_cons pe_int (pa_cons pe_int (pa_cons pe_int (pa_cons (pe_op op_add pe_int (pe_call G_law_draw (hr.mono (by first | decide | omega)) (by rfl) T.f_law_draw.g T.f_law_draw.F.kp T.f_law_draw.b .nil pass0 (pa_cons (pv 1) (pa_cons pe_int pa_nil)))) (pa_cons pe_int pa_nil)))))) pa_nil))))
      (pss_cons (ps_set (i := 4) sclaw.nd rfl (.inl rfl) (pe_callTy (kcall_tuple K) (by rfl) T.mtuple (by decide +kernel) (pa_cons (pe_lc (own := [("house", 5)]) rfl sclaw.nd (pi_range1 rfl T.mrange (pa_cons (pv 3) pa_nil)) (blkOk_by (own := [("house", 5)]) (N := ["script", "pot", "turn", "many", "papers", "house", "told", "due", "paper", "bad", "wrong", "at", "spoilt", "things", "great"]) (sc := defScope slaw) (by decide +kernel)) (fun _ _ _ _ _ => (pg_name (i := 5) sclaw.nd rfl (.inl rfl))) (fun _ _ _ _ _ => pts_nil) (fun _ _ _ _ _ => (pe_call G_law_paper (hr.mono (by first | decide | omega)) (by rfl) T.f_law_paper.g T.f_law_paper.F.kp T.f_law_paper.b .nil pass0 (pa_cons (pv 1) (pa_cons pe_int pa_nil))))) pa_nil)))
      (pss_cons (ps_set (i := 6) sclaw.nd rfl (.inl rfl) (pe_call G_law_said (hr.mono (by first | decide | omega)) (by rfl) T.f_law_said.g T.f_law_said.F.kp T.f_law_said.b .nil pass0 (pa_cons (pv 4) pa_nil)))
      (pss_cons (ps_set (i := 7) sclaw.nd rfl (.inl rfl) (pe_callB (kcr_max K rfl) (by rfl) T.mmax (by decide +kernel) (pa_cons (pe_lc (own := [("paper", 8)]) rfl sclaw.nd (kpi_tup K (pv 4)) (blkOk_by (own := [("paper", 8)]) (N := ["script", "pot", "turn", "many", "papers", "house", "told", "due", "paper", "bad", "wrong", "at", "spoilt", "things", "great"]) (sc := defScope slaw) (by decide +kernel)) (fun _ _ _ _ _ => (pg_name (i := 8) sclaw.nd rfl (.inl rfl))) (fun _ _ _ _ _ => pts_nil) (fun _ _ _ _ _ => (pe_call G_law_digits (hr.mono (by first | decide | omega)) (by rfl) T.f_law_digits.g T.f_law_digits.F.kp T.f_law_digits.b .nil pass0 (pa_cons (pe_call G_law_greatest (hr.mono (by first | decide | omega)) (by rfl) T.f_law_greatest.g T.f_law_greatest.F.kp T.f_law_greatest.b .nil pass0 (pa_cons (pv 8) pa_nil)) pa_nil)))) pa_nil)))
      (pss_cons (ps_if (PW.pt (pw_or (pt_cmpR (kop_neD K hr.units) (pv 6) (pe_tup (pa_cons pe_str (pa_cons (pv 7) pa_nil))) (nomark _)) (pw_or1 (pt_val (pe_callB (kcall_isi K) (by rfl) T.misinstance (by decide +kernel) (pa_cons (pe_ix (kix_tup K) (pv 6) pe_int (fun _ _ => rfl)) (pa_cons (pe_bltn (v := .ty "bool") (by rfl) T.mbool (by decide +kernel) rfl) pa_nil))))))) (pss_one (ps_ret pe_bl)) pss_nil)
      (pss_cons (ps_set (i := 9) sclaw.nd rfl (.inl rfl) (pe_lst (pa_cons pe_bl (pa_cons pe_bl (pa_cons (pe_un un_neg pe_int) (pa_cons (pe_op op_pow pe_int pe_int) (pa_cons (pe_op op_sub (pe_op op_pow pe_int pe_int) pe_int) (pa_cons pe_str (pa_cons (pe_lst pa_nil) (pa_cons (pe_lst (pa_cons pe_int pa_nil)) (pa_cons pe_dnewK (pa_cons (pe_tup (pa_cons (pe_tup (pa_cons (pe_tup (pa_cons pe_int (pa_cons (pe_tup (pa_cons pe_int pa_nil)) pa_nil))) pa_nil)) pa_nil)) (pa_cons (pe_tup (pa_cons (pe_tup (pa_cons (pe_tup (pa_cons (pe_tup pa_nil) pa_nil)) pa_nil)) pa_nil)) (pa_cons (pe_op (kop_rep1 K) (pe_tup (pa_cons pe_int pa_nil)) pe_int) pa_nil))))))))))))))
      (pss_cons (ps_expr (pe_bm PySem.F.plainAttrs_list PySem.F.slot_list_append PySem.F.type_list_append mt_append (pv 9) (pa_cons (pe_op (kop_rep1 K) (pe_tup (pa_cons (pe_op (kop_rep1 K) (pe_tup (pa_cons pe_non pa_nil)) pe_int) pa_nil)) pe_int) pa_nil)))
      (pss_cons (ps_set (i := 10) sclaw.nd rfl (.inl rfl) (pe_call G_law_any (hr.mono (by first | decide | omega)) (by rfl) T.f_law_any.g T.f_law_any.F.kp T.f_law_any.b .nil pass0 (pa_cons (pv 1) (pa_cons (pv 9) pa_nil))))
      (pss_cons (ps_set (i := 11) sclaw.nd rfl (.inl rfl) (pe_call G_law_draw (hr.mono (by first | decide | omega)) (by rfl) T.f_law_draw.g T.f_law_draw.F.kp T.f_law_draw.b .nil pass0 (pa_cons (pv 1) (pa_cons (pv 3) pa_nil))))
      (pss_cons (ps_set (i := 12) sclaw.nd rfl (.inl rfl) (pe_op (kop_catA K) (pe_op (kop_catA K) (pe_slice (ksl_tup K) (pv 4) po_none (po_some (pv 11))) (pe_tup (pa_cons (pe_ifK (pt_cmpR op_eq (pe_call G_law_draw (hr.mono (by first | decide | omega)) (by rfl) T.f_law_draw.g T.f_law_draw.F.kp T.f_law_draw.b .nil pass0 (pa_cons (pv 1) (pa_cons pe_int pa_nil))) pe_int (nomark _)) (pv 10) (pe_tup (pa_cons pe_int (pa_cons (pv 10) pa_nil)))) pa_nil))) (pe_slice (ksl_tup K) (pv 4) (po_some (pe_op op_add (pv 11) pe_int)) po_none)))
      (pss_cons (ps_set (i := 13) sclaw.nd rfl (.inl rfl) (pe_lst (pa_cons (pv 12) (pa_cons (pe_callTy (kcall_list K) (by rfl) T.mlist (by decide +kernel) (pa_cons (pv 4) pa_nil)) (pa_cons (pe_tup pa_nil) (pa_cons (pe_op (kop_catA K) (pv 4) (pe_op (kop_rep1 K) (pe_tup (pa_cons pe_int pa_nil)) (pe_op op_sub pe_int (pv 3)))) (pa_cons pe_non (pa_cons pe_int (pa_cons pe_str (pa_cons pe_dnewK pa_nil))))))))))
      (pss_one (ps_if (pt_cmpR (kop_neD K hr.units) (pe_call G_law_said (hr.mono (by first | decide | omega)) (by rfl) T.f_law_said.g T.f_law_said.F.kp T.f_law_said.b .nil pass0 (pa_cons (pe_call G_law_any (hr.mono (by first | decide | omega)) (by rfl) T.f_law_any.g T.f_law_any.F.kp T.f_law_any.b .nil pass0 (pa_cons (pv 1) (pa_cons (pv 13) pa_nil))) pa_nil)) (pe_tup (pa_cons pe_str (pa_cons pe_non pa_nil))) (nomark _)) (pss_one (ps_ret pe_bl)) pss_nil))))))))))))))
      (pss_cons (ps_set (i := 14) sclaw.nd rfl (.inl rfl) (pe_op (kop_rep1 K) (pe_tup (pa_cons (pe_op (kop_rep1 K) (pe_tup (pa_cons (pe_op (kop_rep1 K) (pe_tup (pa_cons pe_int pa_nil)) pe_int) pa_nil)) pe_int) pa_nil)) pe_int))
      (pss_cons (ps_if (PW.pt (pw_or (pt_cmpR (kop_neD K hr.units) (pe_call G_law_said (hr.mono (by first | decide | omega)) (by rfl) T.f_law_said.g T.f_law_said.F.kp T.f_law_said.b .nil pass0 (pa_cons (pv 14) pa_nil)) (pe_tup (pa_cons pe_str (pa_cons pe_int pa_nil))) (nomark _)) (pw_or1 (pt_cmpR (kop_neD K hr.units) (pe_call G_law_said (hr.mono (by first | decide | omega)) (by rfl) T.f_law_said.g T.f_law_said.F.kp T.f_law_said.b .nil pass0 (pa_cons (pe_op (kop_catA K) (pv 14) (pe_tup (pa_cons (pe_op (kop_catA K) (pe_op (kop_rep1 K) (pe_tup (pa_cons (pe_op (kop_rep1 K) (pe_tup (pa_cons pe_int pa_nil)) pe_int) pa_nil)) pe_int) (pe_tup (pa_cons pe_int pa_nil))) pa_nil))) pa_nil)) (pe_tup (pa_cons pe_str (pa_cons pe_non pa_nil))) (nomark _))))) (pss_one (ps_ret pe_bl)) pss_nil)
      (pss_one (ps_ret (pe_and (pe_cmpR (kop_eqD K hr.units) (pe_call G_law_said (hr.mono (by first | decide | omega)) (by rfl) T.f_law_said.g T.f_law_said.F.kp T.f_law_said.b .nil pass0 (pa_cons (pe_tup (pa_cons (pe_tup (pa_cons (pe_tup (pa_cons (pe_tup (pa_cons pe_int pa_nil)) pa_nil)) pa_nil)) pa_nil)) pa_nil)) (pe_tup (pa_cons pe_str (pa_cons pe_int pa_nil))) (nomark _)) (pe_one (pe_cmpR (kop_eqD K hr.units) (pe_call G_law_said (hr.mono (by first | decide | omega)) (by rfl) T.f_law_said.g T.f_law_said.F.kp T.f_law_said.b .nil pass0 (pa_cons (pe_tup (pa_cons pe_non pa_nil)) pa_nil)) (pe_tup (pa_cons pe_str (pa_cons pe_int pa_nil))) (nomark _)))))))))), ?_⟩
    walk_at "hs0"
    repeat walk_at "hs"
    refine ⟨a, ns, rfl, hS, hl, fun h c H1 nh nc s1 hO => ?_⟩
    repeat walk_at "hs"
    refine w_rng1 ⟨by decide, by decide⟩ ?_
    refine for_it walk_range (fun k σ' H' => (∃ x2 x3 x4 x5 x6 x7 x8 x9 x10 x11 x12 x13 x14 : Option V, σ' = [some (.ref a), some (.ref h), x2, x3, x4, x5, x6, x7, x8, x9, x10, x11, x12, x13, x14]) ∧ HandOk H' h c) ⟨⟨_, _, _, _, _, _, _, _, _, _, _, _, _, rfl⟩, hO⟩ (fun _ _ _ _ _ => trivial) (fun k x σ' H2 H2' hk p y => ?_) (fun σ' H2 p => ?_)
    · obtain ⟨⟨x2, x3, x4, x5, x6, x7, x8, x9, x10, x11, x12, x13, x14, rfl⟩, hO2⟩ := p
      obtain ⟨rfl, rfl⟩ := y
      repeat walk_at "hs"
      refine ⟨h, c, 20, rfl, by decide, by decide, hO2, fun dd H3 d0 d1 hO3 k3 => ?_⟩
      repeat walk_at "hs"
      refine w_lstN (by exact (by decide : 5 ≤ 100000)) fun l H4 n4 s4 h4 => ?_
      repeat walk_at "hs"
      have nlh : l ≠ h := fun e => (hO3.new n4).1 e.symm
      refine ⟨h, c, l, _, rfl, SqL.of h4, nlh, (by intro e; cases e), (show 5 < 1073741824 by decide), hO3.same s4, fun v H5 hv hO5 k5 => ?_⟩
      obtain ⟨many, rfl, m1, m2⟩ : ∃ m : Nat, v = .int m ∧ 1 ≤ m ∧ m ≤ 100 := by
        simp only [List.mem_cons, List.not_mem_nil, or_false] at hv
        rcases hv with rfl | rfl | rfl | rfl | rfl
        · exact ⟨1, rfl, by decide, by decide⟩
        · exact ⟨2, rfl, by decide, by decide⟩
        · exact ⟨5, rfl, by decide, by decide⟩
        · exact ⟨(1 + dd).toNat, by congr 1; omega, by omega, by omega⟩
        · exact ⟨100, rfl, by decide, by decide⟩
      repeat walk_at "hs"
      refine w_rng1 ⟨by omega, by omega⟩ fun D nD => ?_
      obtain ⟨Dh, Dc⟩ := hO5.new nD
      refine lc_it (n := many) walk_range (fun i H' => HandOk H' h c ∧ ∃ acc ds, H' D = some (.lst acc) ∧ ImL K H' acc ds ∧ ds.length = i ∧ ∀ d ∈ ds, SmP 3 d)
        ⟨hO5.same (same_new nD), [], [], upd_same, .nil, rfl, fun _ h => by cases h⟩ (fun _ _ _ _ => trivial) (fun i x H6 H6' hi p y => ?_) (fun H6 p => ?_)
      · obtain ⟨hO6, acc, ds, hD, iacc, ln, hds⟩ := p
        obtain ⟨rfl, rfl⟩ := y
        repeat walk_at "hs"
        refine ⟨rfl, ?_⟩
        repeat walk_at "hs"
        refine ⟨h, c, rfl, hO6, fun v d H7 sp hO7 k7 im => ?_⟩
        have hD7 := k7 _ _ (Ne.symm Dh) hD
        have nds : NoLL ds := noLL_of fun d hd => smP_noL (hds d hd)
        obtain ⟨ys, hh⟩ := hO6.at
        refine ⟨acc, hD7, ?_, hO7.kp (Kp.upd _ _ _) Dh Dc, _, ds ++ [d], upd_same, imL_push hD7 (iacc.kp k7 hh nds) nds im.im (smP_noL sp), by rw [List.length_append, ln]; rfl, ?_⟩
        · rw [iacc.len, ln]
          exact Nat.lt_of_le_of_lt (show i ≤ 100 by omega) (by decide)
        · intro x hx
          rcases List.mem_append.mp hx with e | e
          · exact hds x e
          · rw [List.mem_singleton] at e; subst e; exact sp
      · obtain ⟨hO6, acc, ds, hD, iacc, ln, hds⟩ := p
        repeat walk_at "hs"
        refine w_tupL (SqL.of hD) fun pa H7 n7 s7 h7 => ?_
        have npa : pa ≠ h := fun e => (hO6.new n7).1 e.symm
        have hO7 := hO6.same s7
        have idsS : ImSL K h H7 acc ds := ImSL.of hO7 (noLL_of fun d hd => smP_noL (hds d hd)) (iacc.same s7)
        have ipa : ImS K h H7 (.ref pa) (.t ds) := ImS.tup npa h7 idsS
        have okp : okP (.t ds) = true := by
          show (decide (1 ≤ ds.length) && (decide (ds.length ≤ 100) && ds.all papB)) = true
          rw [decide_eq_true (show 1 ≤ ds.length by omega), decide_eq_true (show ds.length ≤ 100 by omega), Bool.true_and, Bool.true_and]
          exact List.all_eq_true.mpr fun d hd => decide_eq_true (smP_lv (Nat.le_refl 3) (hds d hd)).1
        have hne : ds ≠ [] := fun e => by rw [e] at ln; simp at ln; omega
        repeat walk_at "hs"
        refine ⟨_, _, rfl, ipa.im, fun tp H8 s8 h8 => ?_⟩
        rw [if_pos okp] at h8
        repeat walk_at "hs"
        have hacc8 : SqT K H8 pa acc := SqT.of (s8 _ _ h7)
        have ids8 : ImL K H8 acc ds := (idsS.same s8).im
        refine w_srcT hacc8 fun D2 nD2 => lc_ys walk_tup (ds.map fun d => V.int (dg (grD d))) (by rw [List.length_map, ids8.len]) (by rw [ids8.len]; omega) nD2 (fun H' e => Same.tupS e hacc8) (fun i x H9 H9' hi s9 y => ?_) (fun H9 s9 h9 => ?_)
        · obtain ⟨rfl, hxi⟩ := y
          obtain ⟨d, hd, him⟩ := ids8.at hxi
          refine ⟨Same.refl _, fun Q' q' => ?_⟩
          have hpd : PapD 3 d := smP_pap (hds d (List.mem_of_getElem? hd))
          repeat walk_at "hs"
          refine ⟨x, d, rfl, him.same s9, hpd, fun H10 s10 => ?_⟩
          repeat walk_at "hs"
          obtain ⟨g1, g2⟩ := grD_ge hpd
          exact ⟨_, rfl, g1, g2, q' _ _ (by rw [List.getElem?_map, hd]; rfl) s10⟩
        · repeat walk_at "hs"
          refine w_maxL (ns := ds.map fun d => dg (grD d)) ?_ (by simpa using hne) fun m mm1 mm2 => ?_
          · have e : (ds.map fun d => V.int (dg (grD d))) = (ds.map fun d => dg (grD d)).map V.int := by rw [List.map_map]; rfl
            rw [e] at h9
            exact SqL.of h9
          obtain rfl : m = dg (grD (.t ds)) := dg_max mm1 mm2
          repeat walk_at "hs"
          refine w_tupN (by exact (by decide : 2 ≤ 100000)) fun dp H10 n10 s10 h10 => ?_
          have h810 := s10 _ _ (s9 _ _ h8)
          refine w_neD (im_tD h810) (im_tD h10) (plain_tD _) (by decide) ?_
          repeat walk_at "hs"
          refine w_isiB (d := .i _) (.i _) ?_
          rw [show isB (.i (dg (grD (.t ds)))) = false from rfl]
          repeat walk_at "hs"
          have hO10 : HandOk H10 h c := hO7.same ((s8.trans s9).trans s10)
          have ip10 : ImS K h H10 (.ref pa) (.t ds) := ipa.same ((s8.trans s9).trans s10)
          have hp10 : H10 pa = some (.tup acc) := s10 _ _ (s9 _ _ (s8 _ _ h7))
          refine w_lstN (xs := []) (Nat.zero_le _) fun a1 Ha1 n_a1 s_a1 h_a1 => ?_
          repeat walk_at "hs"
          refine w_lstN (by exact (by decide : 1 ≤ 100000)) fun a2 Ha2 n_a2 s_a2 h_a2 => ?_
          repeat walk_at "hs"
          refine w_dnewN fun a3 Ha3 n_a3 s_a3 h_a3 => ?_
          repeat walk_at "hs"
          refine w_tupN (by exact (by decide : 1 ≤ 100000)) fun t1 Ht1 n_t1 s_t1 h_t1 => ?_
          repeat walk_at "hs"
          refine w_tupN (by exact (by decide : 2 ≤ 100000)) fun t2 Ht2 n_t2 s_t2 h_t2 => ?_
          repeat walk_at "hs"
          refine w_tupN (by exact (by decide : 1 ≤ 100000)) fun t3 Ht3 n_t3 s_t3 h_t3 => ?_
          repeat walk_at "hs"
          refine w_tupN (by exact (by decide : 1 ≤ 100000)) fun t4 Ht4 n_t4 s_t4 h_t4 => ?_
          repeat walk_at "hs"
          refine w_tupN (xs := []) (Nat.zero_le _) fun u0 Hu0 n_u0 s_u0 h_u0 => ?_
          repeat walk_at "hs"
          refine w_tupN (by exact (by decide : 1 ≤ 100000)) fun u1 Hu1 n_u1 s_u1 h_u1 => ?_
          repeat walk_at "hs"
          refine w_tupN (by exact (by decide : 1 ≤ 100000)) fun u2 Hu2 n_u2 s_u2 h_u2 => ?_
          repeat walk_at "hs"
          refine w_tupN (by exact (by decide : 1 ≤ 100000)) fun u3 Hu3 n_u3 s_u3 h_u3 => ?_
          repeat walk_at "hs"
          refine w_tupN (by exact (by decide : 1 ≤ 100000)) fun z0 Hz0 n_z0 s_z0 h_z0 => ?_
          repeat walk_at "hs"
          refine w_repT (SqT.of h_z0) (by simp) (by decide) (by decide) (by decide) fun z1 Hz1 n_z1 s_z1 h_z1 => ?_
          rw [rep_flat1] at h_z1
          repeat walk_at "hs"
          refine w_lstN (by exact (by decide : 12 ≤ 100000)) fun l9 Hl9 n_l9 s_l9 h_l9 => ?_
          repeat walk_at "hs"
          refine w_tyL h_l9 ?_
          repeat walk_at "hs"
          refine w_tupN (by exact (by decide : 1 ≤ 100000)) fun v0 Hv0 n_v0 s_v0 h_v0 => ?_
          repeat walk_at "hs"
          refine w_repT (SqT.of h_v0) (by simp) (by decide) (by decide) (by decide) fun v1 Hv1 n_v1 s_v1 h_v1 => ?_
          rw [rep_flat1] at h_v1
          repeat walk_at "hs"
          refine w_tupN (by exact (by decide : 1 ≤ 100000)) fun v2 Hv2 n_v2 s_v2 h_v2 => ?_
          repeat walk_at "hs"
          refine w_repT (SqT.of h_v2) (by simp) (by decide) (by decide) (show 1 ≤ 1000 by decide) fun v3 Hv3 n_v3 s_v3 h_v3 => ?_
          rw [rep_flat1] at h_v3
          repeat walk_at "hs"
          have h_l9' := s_v3 _ _ (s_v2 _ _ (s_v1 _ _ (s_v0 _ _ h_l9)))
          refine w_app h_l9' (show 12 ≤ 100000 by decide) fun HA hA kA => ?_
          -- what stood ahead of the list stands
          have nl9 : l9 ≠ h := fun e => ((hO10.same (s_a1.trans (s_a2.trans (s_a3.trans (s_t1.trans (s_t2.trans (s_t3.trans (s_t4.trans (s_u0.trans (s_u1.trans (s_u2.trans (s_u3.trans (s_z0.trans s_z1))))))))))))).new n_l9).1 e.symm
          have sL : Same Hz1 Hv3 := s_l9.trans (s_v0.trans (s_v1.trans (s_v2.trans s_v3)))
          have trL : Same Hz1 HA := fun b o e => kA b o (ne_of_none e n_l9) (sL b o e)
          repeat walk_at "hs"
          have e_z1 := s_z0.trans s_z1
          have e_u3 := s_u3.trans e_z1
          have e_u2 := s_u2.trans e_u3
          have e_u1 := s_u1.trans e_u2
          have e_u0 := s_u0.trans e_u1
          have e_t4 := s_t4.trans e_u0
          have e_t3 := s_t3.trans e_t4
          have e_t2 := s_t2.trans e_t3
          have e_t1 := s_t1.trans e_t2
          have e_a3 := s_a3.trans e_t1
          have e_a2 := s_a2.trans e_a3
          have e_a1 := s_a1.trans e_a2
          have hOz := hO10.same e_a1
          obtain ⟨hl9, cl9⟩ := hOz.new n_l9
          have hOA : HandOk HA h c := (hOz.same sL).kp kA hl9 cl9
          refine ⟨h, c, l9, _, rfl, SqL.of hA, nl9, (by simp), (show 13 < 1073741824 by decide), hOA, fun wv HB hwv hOB kB => ?_⟩
          obtain ⟨wd, iwA, bw⟩ : ∃ wd, ImS K h HA wv wd ∧ BadD wd := by
            have f_a1 := trL _ _ (e_a2 _ _ h_a1)
            have f_a2 := trL _ _ (e_a3 _ _ h_a2)
            have f_a3 := trL _ _ (e_t1 _ _ h_a3)
            have f_t1 := trL _ _ (e_t2 _ _ h_t1)
            have f_t2 := trL _ _ (e_t3 _ _ h_t2)
            have f_t3 := trL _ _ (e_t4 _ _ h_t3)
            have f_t4 := trL _ _ (e_u0 _ _ h_t4)
            have f_u0 := trL _ _ (e_u1 _ _ h_u0)
            have f_u1 := trL _ _ (e_u2 _ _ h_u1)
            have f_u2 := trL _ _ (e_u3 _ _ h_u2)
            have f_u3 := trL _ _ (e_z1 _ _ h_u3)
            have f_z1 := trL _ _ h_z1
            have m_a1 := fresh_ne hO10 (Same.refl _) n_a1
            have m_a2 := fresh_ne hO10 s_a1 n_a2
            have m_a3 := fresh_ne hO10 (s_a1.trans s_a2) n_a3
            have g_a3 := (s_a1.trans s_a2).trans s_a3
            have m_t1 := fresh_ne hO10 g_a3 n_t1
            have g_t1 := g_a3.trans s_t1
            have m_t2 := fresh_ne hO10 g_t1 n_t2
            have g_t2 := g_t1.trans s_t2
            have m_t3 := fresh_ne hO10 g_t2 n_t3
            have g_t3 := g_t2.trans s_t3
            have m_t4 := fresh_ne hO10 g_t3 n_t4
            have g_t4 := g_t3.trans s_t4
            have m_u0 := fresh_ne hO10 g_t4 n_u0
            have g_u0 := g_t4.trans s_u0
            have m_u1 := fresh_ne hO10 g_u0 n_u1
            have g_u1 := g_u0.trans s_u1
            have m_u2 := fresh_ne hO10 g_u1 n_u2
            have g_u2 := g_u1.trans s_u2
            have m_u3 := fresh_ne hO10 g_u2 n_u3
            have g_u3 := g_u2.trans s_u3
            have g_z0 := g_u3.trans s_z0
            have m_z1 := fresh_ne hO10 g_z0 n_z1
            have q_v1 := s_l9.trans s_v0
            have m_v1 := fresh_ne hOz q_v1 n_v1
            have m_v3 := fresh_ne hOz (q_v1.trans (s_v1.trans s_v2)) n_v3
            have l_v1 : v1 ≠ l9 := fun e => by rw [e, s_v0 _ _ h_l9] at n_v1; cases n_v1
            have l_v3 : v3 ≠ l9 := fun e => by rw [e, s_v2 _ _ (s_v1 _ _ (s_v0 _ _ h_l9))] at n_v3; cases n_v3
            have f_v1 := kA _ _ l_v1 (s_v3 _ _ (s_v2 _ _ h_v1))
            have f_v3 := kA _ _ l_v3 h_v3
            simp only [List.mem_append, List.mem_cons, List.not_mem_nil, or_false] at hwv
            rcases hwv with (rfl | rfl | rfl | rfl | rfl | rfl | rfl | rfl | rfl | rfl | rfl | rfl) | rfl
            · exact ⟨_, ImS.b true, by decide +kernel⟩
            · exact ⟨_, ImS.b false, by decide +kernel⟩
            · exact ⟨_, ImS.i (-1), by decide +kernel⟩
            · exact ⟨_, ImS.i _, by decide +kernel⟩
            · exact ⟨_, ImS.i _, by decide +kernel⟩
            · exact ⟨_, ImS.s _, by decide +kernel⟩
            · exact ⟨_, ImS.lst m_a1 f_a1 ImSL.nil, by decide +kernel⟩
            · exact ⟨_, ImS.lst m_a2 f_a2 (ImSL.cons (ImS.i 1) ImSL.nil), by decide +kernel⟩
            · exact ⟨_, ImS.dic m_a3 f_a3, by decide +kernel⟩
            · exact ⟨_, ImS.tup m_t4 f_t4 (ImSL.cons (ImS.tup m_t3 f_t3 (ImSL.cons (ImS.tup m_t2 f_t2 (ImSL.cons (ImS.i 0) (ImSL.cons (ImS.tup m_t1 f_t1 (ImSL.cons (ImS.i 1) ImSL.nil)) ImSL.nil))) ImSL.nil)) ImSL.nil), by decide +kernel⟩
            · exact ⟨_, ImS.tup m_u3 f_u3 (ImSL.cons (ImS.tup m_u2 f_u2 (ImSL.cons (ImS.tup m_u1 f_u1 (ImSL.cons (ImS.tup m_u0 f_u0 ImSL.nil) ImSL.nil)) ImSL.nil)) ImSL.nil), by decide +kernel⟩
            · exact ⟨_, ImS.tup m_z1 f_z1 (ImSL.rep (ImS.i 0) _), bad_long⟩
            · exact ⟨_, ImS.tup m_v3 f_v3 (ImSL.rep (ImS.tup m_v1 f_v1 (ImSL.rep ImS.n _)) _), bad_many⟩
          have iw := iwA.kp kB
          have k10B : Kp h H10 HB := (Kp.of_same (e_a1.trans trL)).trans kB
          repeat walk_at "hs"
          refine ⟨h, c, many, rfl, by omega, by omega, hOB, fun at_ HC at0 at1 hOC kC => ?_⟩
          obtain ⟨j, rfl⟩ : ∃ j : Nat, at_ = (j : Int) := ⟨at_.toNat, by omega⟩
          have hj : j < many := by omega
          have ipC : ImS K h HC (.ref pa) (.t ds) := (ip10.kp k10B).kp kC
          have hpC : HC pa = some (.tup acc) := kC _ _ npa (k10B _ _ npa hp10)
          have idsC : ImSL K h HC acc ds := ((idsS.same ((s8.trans s9).trans s10)).kp k10B).kp kC
          have iwC := iw.kp kC
          have lacc : acc.length = many := by rw [idsC.im.len]; omega
          repeat walk_at "hs"
          refine w_slT (SqT.of hpC) ?_ fun p1 HD n_p1 s_p1 h_p1 => ?_
          · rw [HT.sIx_nat, HT.sIx_none, lacc]
            omega
          rw [cut_take (by omega)] at h_p1
          repeat walk_at "hs"
          have m_p1 := fresh_ne hOC (Same.refl _) n_p1
          have hOD := hOC.same s_p1
          have iwD := iwC.same s_p1
          refine w_ifK (fun v H' => HandOk H' h c ∧ Kp h HD H' ∧ ∃ xd, ImS K h H' v xd ∧ lvD 3 xd < 0) (fun R key => ?_) (fun ev HE hM => ?_)
          · repeat walk_at "hs"
            refine ⟨h, c, 2, rfl, by decide, by decide, hOD, fun b2 HE b20 b21 hOE kE => ?_⟩
            repeat walk_at "hs"
            refine ite_d (fun _ => ?_) (fun _ => ?_)
            · repeat walk_at "hs"
              exact key _ _ ⟨hOE, kE, wd, iwD.kp kE, bw.1⟩
            · repeat walk_at "hs"
              refine w_tupN (by exact (by decide : 2 ≤ 100000)) fun e0 HF n_e0 s_e0 h_e0 => ?_
              exact key _ _ ⟨hOE.same s_e0, kE.addS s_e0, _, ImS.tup (fresh_ne hOE (Same.refl _) n_e0) h_e0 (ImSL.cons (ImS.i 0) (ImSL.cons ((iwD.kp kE).same s_e0) ImSL.nil)), bad_pair bw⟩
          obtain ⟨hOE, kE, xd, iE, bx⟩ := hM
          repeat walk_at "hs"
          refine w_tupN (by exact (by decide : 1 ≤ 100000)) fun e1 HF n_e1 s_e1 h_e1 => ?_
          have m_e1 := fresh_ne hOE (Same.refl _) n_e1
          have hOF := hOE.same s_e1
          refine w_catA (xs := acc.take j) (ys := [ev]) (s_e1 _ _ (kE _ _ m_p1 h_p1)) h_e1 ?_ fun p2 HG or2 s_p2 h_p2 => ?_
          · rw [List.length_take, List.length_singleton]; omega
          have m_p2 : p2 ≠ h := by
            rcases or2 with e | e | e
            · rw [e]; exact m_p1
            · rw [e]; exact m_e1
            · exact fresh_ne hOF (Same.refl _) e
          have hOG := hOF.same s_p2
          have kCG : Kp h HC HG := (((Kp.of_same s_p1).trans kE).addS s_e1).addS s_p2
          repeat walk_at "hs"
          refine w_slT (SqT.of (kCG _ _ npa hpC)) ?_ fun p3 HI n_p3 s_p3 h_p3 => ?_
          · rw [show ((j : Int) + 1) = ((j + 1 : Nat) : Int) by omega, HT.sIx_nat, HT.sIx_none, lacc]
            omega
          rw [show ((j : Int) + 1) = ((j + 1 : Nat) : Int) by omega, cut_drop (by omega)] at h_p3
          have m_p3 := fresh_ne hOG (Same.refl _) n_p3
          have hOI := hOG.same s_p3
          refine w_catA (s_p3 _ _ h_p2) h_p3 ?_ fun p4 HJ or4 s_p4 h_p4 => ?_
          · rw [List.length_append, List.length_take, List.length_singleton, List.length_drop]; omega
          have m_p4 : p4 ≠ h := by
            rcases or4 with e | e | e
            · rw [e]; exact m_p2
            · rw [e]; exact m_p3
            · exact fresh_ne hOI (Same.refl _) e
          have hOJ := hOI.same s_p4
          have kCJ : Kp h HC HJ := (kCG.addS s_p3).addS s_p4
          have idsJ := idsC.kp kCJ
          have iEJ := ((iE.same s_e1).same s_p2).same (s_p3.trans s_p4)
          have i_sp : ImS K h HJ (.ref p4) (.t (ds.take j ++ [xd] ++ ds.drop (j + 1))) := ImS.tup m_p4 h_p4 (((idsJ.take j).append (ImSL.cons iEJ ImSL.nil)).append (idsJ.drop (j + 1)))
          have b_sp : okP (.t (ds.take j ++ [xd] ++ ds.drop (j + 1))) = false := by
            refine okP_spoilt (i := j) (d := xd) ?_ bx
            rw [List.append_assoc, List.getElem?_append_right (by rw [List.length_take]; omega), List.length_take, show j - min j ds.length = 0 by omega]
            rfl
          have hpJ := kCJ _ _ npa hpC
          repeat walk_at "hs"
          refine w_listT (SqT.of hpJ) fun c1 HK n_c1 s_c1 h_c1 => ?_
          repeat walk_at "hs"
          refine w_tupN (xs := []) (Nat.zero_le _) fun c2 HL n_c2 s_c2 h_c2 => ?_
          repeat walk_at "hs"
          refine w_tupN (by exact (by decide : 1 ≤ 100000)) fun c3 HM n_c3 s_c3 h_c3 => ?_
          repeat walk_at "hs"
          refine w_repA h_c3 (by simp) (by omega) (by omega) (show 1 ≤ 1000 by decide) fun c4 HN or_c4 s_c4 h_c4 => ?_
          rw [rep_flat1] at h_c4
          repeat walk_at "hs"
          have s_JN := s_c1.trans (s_c2.trans (s_c3.trans s_c4))
          refine w_catA (s_JN _ _ hpJ) h_c4 ?_ fun c5 HO or_c5 s_c5 h_c5 => ?_
          · rw [List.length_replicate, lacc]; omega
          repeat walk_at "hs"
          refine w_dnewN fun c6 HP n_c6 s_c6 h_c6 => ?_
          repeat walk_at "hs"
          refine w_lstN (by exact (by decide : 8 ≤ 100000)) fun c7 HR n_c7 s_c7 h_c7 => ?_
          repeat walk_at "hs"
          have s_JR : Same HJ HR := s_JN.trans (s_c5.trans (s_c6.trans s_c7))
          have hOR := hOJ.same s_JR
          have m_c7 := fresh_ne hOJ (s_JN.trans (s_c5.trans s_c6)) n_c7
          refine ⟨h, c, c7, _, rfl, SqL.of h_c7, m_c7, (by simp), (show 8 < 1073741824 by decide), hOR, fun tv HS htv hOS kS => ?_⟩
          obtain ⟨td, itA, bt⟩ : ∃ td, ImS K h HR tv td ∧ okP td = false := by
            have m_c1 := fresh_ne hOJ (Same.refl _) n_c1
            have m_c2 := fresh_ne hOJ s_c1 n_c2
            have m_c3 := fresh_ne hOJ (s_c1.trans s_c2) n_c3
            have m_c4 : c4 ≠ h := by
              rcases or_c4 with e | e
              · rw [e]; exact m_c3
              · exact fresh_ne hOJ (s_c1.trans (s_c2.trans s_c3)) e
            have m_c5 : c5 ≠ h := by
              rcases or_c5 with e | e | e
              · rw [e]; exact npa
              · rw [e]; exact m_c4
              · exact fresh_ne hOJ s_JN e
            have m_c6 := fresh_ne hOJ (s_JN.trans s_c5) n_c6
            have s_5R := s_c6.trans s_c7
            simp only [List.mem_cons, List.not_mem_nil, or_false] at htv
            rcases htv with rfl | rfl | rfl | rfl | rfl | rfl | rfl | rfl
            · exact ⟨_, i_sp.same s_JR, b_sp⟩
            · exact ⟨.l ds, ImS.lst m_c1 (s_5R _ _ (s_c5 _ _ (s_c4 _ _ (s_c3 _ _ (s_c2 _ _ h_c1))))) (idsJ.same s_JR), rfl⟩
            · exact ⟨.t [], ImS.tup m_c2 (s_5R _ _ (s_c5 _ _ (s_c4 _ _ (s_c3 _ _ h_c2)))) ImSL.nil, rfl⟩
            · refine ⟨.t (ds ++ List.replicate (101 - (many : Int)).toNat (.i 0)), ImS.tup m_c5 (s_5R _ _ h_c5) ((idsJ.same s_JR).append (ImSL.rep (ImS.i 0) _)), okP_long ?_⟩
              rw [List.length_append, List.length_replicate]
              omega
            · exact ⟨_, ImS.n, rfl⟩
            · exact ⟨_, ImS.i 7, rfl⟩
            · exact ⟨_, ImS.s _, rfl⟩
            · exact ⟨_, ImS.dic m_c6 (s_c7 _ _ h_c6), rfl⟩
          repeat walk_at "hs"
          refine ⟨_, _, rfl, (itA.kp kS).im, fun sp HT s_sp h_sp => ?_⟩
          rw [bt, if_neg Bool.false_ne_true] at h_sp
          repeat walk_at "hs"
          refine w_tupN (by exact (by decide : 2 ≤ 100000)) fun c8 HU n_c8 s_c8 h_c8 => ?_
          refine w_neD (im_pD (s_c8 _ _ h_sp)) (im_pD h_c8) plain_pD (by decide) ?_
          repeat walk_at "hs"
          exact ⟨⟨_, _, _, _, _, _, _, _, _, _, _, _, _, rfl⟩, hOS.same (s_sp.trans s_c8)⟩
    · obtain ⟨⟨x2, x3, x4, x5, x6, x7, x8, x9, x10, x11, x12, x13, x14, rfl⟩, hO2⟩ := p
      repeat walk_at "hs"
      refine w_tupN (by exact (by decide : 1 ≤ 100000)) fun g0 Hg0 n_g0 s_g0 h_g0 => ?_
      repeat walk_at "hs"
      refine w_repT (SqT.of h_g0) (by simp) (by decide) (by decide) (by decide) fun g1 Hg1 n_g1 s_g1 h_g1 => ?_
      rw [rep_flat1] at h_g1
      repeat walk_at "hs"
      refine w_tupN (by exact (by decide : 1 ≤ 100000)) fun g2 Hg2 n_g2 s_g2 h_g2 => ?_
      repeat walk_at "hs"
      refine w_repT (SqT.of h_g2) (by simp) (by decide) (by decide) (show 1 ≤ 1000 by decide) fun g3 Hg3 n_g3 s_g3 h_g3 => ?_
      rw [rep_flat1] at h_g3
      repeat walk_at "hs"
      refine w_tupN (by exact (by decide : 1 ≤ 100000)) fun g4 Hg4 n_g4 s_g4 h_g4 => ?_
      repeat walk_at "hs"
      refine w_repT (SqT.of h_g4) (by simp) (by decide) (by decide) (show 1 ≤ 1000 by decide) fun g5 Hg5 n_g5 s_g5 h_g5 => ?_
      rw [rep_flat1] at h_g5
      repeat walk_at "hs"
      have m_g1 := fresh_ne hO2 s_g0 n_g1
      have m_g3 := fresh_ne hO2 (s_g0.trans (s_g1.trans s_g2)) n_g3
      have m_g5 := fresh_ne hO2 (s_g0.trans (s_g1.trans (s_g2.trans (s_g3.trans s_g4)))) n_g5
      have hO5 := hO2.same (s_g0.trans (s_g1.trans (s_g2.trans (s_g3.trans (s_g4.trans s_g5)))))
      have i_g1 : ImS K h Hg1 (.ref g1) zz200 := ImS.tup m_g1 h_g1 (ImSL.rep (ImS.i 0) _)
      have i_g3 : ImS K h Hg3 (.ref g3) (.t (List.replicate 10 zz200)) := ImS.tup m_g3 h_g3 (ImSL.rep (i_g1.same (s_g2.trans s_g3)) _)
      have l_g5 : ImSL K h Hg5 (List.replicate (Int.toNat 2) (V.ref g3)) (List.replicate 2 (.t (List.replicate 10 zz200))) := ImSL.rep (i_g3.same (s_g4.trans s_g5)) _
      have i_g5 : ImS K h Hg5 (.ref g5) great1 := ImS.tup m_g5 h_g5 l_g5
      refine ⟨_, _, rfl, i_g5.im, fun y1 Hy1 s_y1 h_y1 => ?_⟩
      rw [if_pos great1_ok, great1_dg] at h_y1
      repeat walk_at "hs"
      refine w_tupN (by exact (by decide : 2 ≤ 100000)) fun y2 Hy2 n_y2 s_y2 h_y2 => ?_
      refine w_neD (im_tD (s_y2 _ _ h_y1)) (im_tD h_y2) (plain_tD _) (by decide) ?_
      repeat walk_at "hs"
      have s_52 := s_y1.trans s_y2
      refine w_tupN (by exact (by decide : 1 ≤ 100000)) fun k0 Hk0 n_k0 s_k0 h_k0 => ?_
      repeat walk_at "hs"
      refine w_repT (SqT.of h_k0) (by simp) (by decide) (by decide) (by decide) fun k1 Hk1 n_k1 s_k1 h_k1 => ?_
      rw [rep_flat1] at h_k1
      repeat walk_at "hs"
      refine w_tupN (by exact (by decide : 1 ≤ 100000)) fun k2 Hk2 n_k2 s_k2 h_k2 => ?_
      repeat walk_at "hs"
      refine w_repT (SqT.of h_k2) (by simp) (by decide) (by decide) (show 1 ≤ 1000 by decide) fun k3 Hk3 n_k3 s_k3 h_k3 => ?_
      rw [rep_flat1] at h_k3
      repeat walk_at "hs"
      refine w_tupN (by exact (by decide : 1 ≤ 100000)) fun k4 Hk4 n_k4 s_k4 h_k4 => ?_
      repeat walk_at "hs"
      have m_k1 := fresh_ne hO5 (s_52.trans s_k0) n_k1
      have m_k3 := fresh_ne hO5 (s_52.trans (s_k0.trans (s_k1.trans s_k2))) n_k3
      have s_5k := s_52.trans (s_k0.trans (s_k1.trans (s_k2.trans s_k3)))
      have m_k4 := fresh_ne hO5 s_5k n_k4
      have i_k1 : ImS K h Hk1 (.ref k1) zz200 := ImS.tup m_k1 h_k1 (ImSL.rep (ImS.i 0) _)
      refine w_catA (s_k4 _ _ h_k3) h_k4 (by rw [List.length_replicate]; exact (by decide : 10 + 1 ≤ 100000)) fun k5 Hk5 or_k5 s_k5 h_k5 => ?_
      have m_k5 : k5 ≠ h := by
        rcases or_k5 with e | e | e
        · rw [e]; exact m_k3
        · rw [e]; exact m_k4
        · exact fresh_ne hO5 (s_5k.trans s_k4) e
      have i_k5 : ImS K h Hk5 (.ref k5) (.t (List.replicate 10 zz200 ++ [.i 0])) := ImS.tup m_k5 h_k5 ((ImSL.rep (((i_k1.same (s_k2.trans s_k3)).same s_k4).same s_k5) _).append (ImSL.cons (ImS.i 0) ImSL.nil))
      repeat walk_at "hs"
      refine w_tupN (by exact (by decide : 1 ≤ 100000)) fun k6 Hk6 n_k6 s_k6 h_k6 => ?_
      have s_56 := s_5k.trans (s_k4.trans (s_k5.trans s_k6))
      have m_k6 := fresh_ne hO5 (s_5k.trans (s_k4.trans s_k5)) n_k6
      refine w_catA (s_56 _ _ h_g5) h_k6 (by rw [List.length_replicate]; exact (by decide : 2 + 1 ≤ 100000)) fun k7 Hk7 or_k7 s_k7 h_k7 => ?_
      have m_k7 : k7 ≠ h := by
        rcases or_k7 with e | e | e
        · rw [e]; exact m_g5
        · rw [e]; exact m_k6
        · exact fresh_ne hO5 s_56 e
      have i_k7 : ImS K h Hk7 (.ref k7) great2 := ImS.tup m_k7 h_k7 ((l_g5.same (s_56.trans s_k7)).append (ImSL.cons (i_k5.same (s_k6.trans s_k7)) ImSL.nil))
      repeat walk_at "hs"
      refine ⟨_, _, rfl, i_k7.im, fun y3 Hy3 s_y3 h_y3 => ?_⟩
      rw [great2_ok, if_neg Bool.false_ne_true] at h_y3
      repeat walk_at "hs"
      refine w_tupN (by exact (by decide : 2 ≤ 100000)) fun y4 Hy4 n_y4 s_y4 h_y4 => ?_
      refine w_neD (im_pD (s_y4 _ _ h_y3)) (im_pD h_y4) plain_pD (by decide) ?_
      repeat walk_at "hs"
      refine w_tupN (by exact (by decide : 1 ≤ 100000)) fun b0 Hb0 n_b0 s_b0 h_b0 => ?_
      repeat walk_at "hs"
      refine w_tupN (by exact (by decide : 1 ≤ 100000)) fun b1 Hb1 n_b1 s_b1 h_b1 => ?_
      repeat walk_at "hs"
      refine w_tupN (by exact (by decide : 1 ≤ 100000)) fun b2 Hb2 n_b2 s_b2 h_b2 => ?_
      repeat walk_at "hs"
      refine w_tupN (by exact (by decide : 1 ≤ 100000)) fun b3 Hb3 n_b3 s_b3 h_b3 => ?_
      repeat walk_at "hs"
      have i_b0 : Im K Hb0 (.ref b0) (.t [.i 0]) := .t (SqT.of h_b0) (.cons (.i 0) .nil)
      have i_b1 : Im K Hb1 (.ref b1) (.t [.t [.i 0]]) := .t (SqT.of h_b1) (.cons (i_b0.same s_b1) .nil)
      have i_b2 : Im K Hb2 (.ref b2) (.t [.t [.t [.i 0]]]) := .t (SqT.of h_b2) (.cons (i_b1.same s_b2) .nil)
      have i_b3 : Im K Hb3 (.ref b3) deep1 := .t (SqT.of h_b3) (.cons (i_b2.same s_b3) .nil)
      refine ⟨_, _, rfl, i_b3, fun y5 Hy5 s_y5 h_y5 => ?_⟩
      rw [if_pos deep1_ok, deep1_dg] at h_y5
      repeat walk_at "hs"
      refine w_tupN (by exact (by decide : 2 ≤ 100000)) fun y6 Hy6 n_y6 s_y6 h_y6 => ?_
      refine w_eqD (im_tD (s_y6 _ _ h_y5)) (im_tD h_y6) (plain_tD _) (by decide) ?_
      repeat walk_at "hs"
      refine w_tupN (by exact (by decide : 1 ≤ 100000)) fun b4 Hb4 n_b4 s_b4 h_b4 => ?_
      repeat walk_at "hs"
      have i_b4 : Im K Hb4 (.ref b4) (.t [.n]) := .t (SqT.of h_b4) (.cons .n .nil)
      refine ⟨_, _, rfl, i_b4, fun y7 Hy7 s_y7 h_y7 => ?_⟩
      rw [if_pos none1_ok, none1_dg] at h_y7
      repeat walk_at "hs"
      refine w_tupN (by exact (by decide : 2 ≤ 100000)) fun y8 Hy8 n_y8 s_y8 h_y8 => ?_
      refine w_eqD (im_tD (s_y8 _ _ h_y7)) (im_tD h_y8) (plain_tD _) (by decide) ?_
      repeat walk_at "hs"
      exact q _
end
end N53

set_option Elab.async false
set_option linter.all false
set_option maxRecDepth 100000
set_option maxHeartbeats 4000000
namespace N53
open PySem PySem.Spec PyProof.Rows L2
theorem all_mk {l : PySem.W.OpenLaw} {w : World} {K : PySem.W.Frag} {h : Heap} {mg : Str → Option Value} {fa : Addr} (X : K.In h) (G : h.Ns mainGlobals mg) (hfa : mg "law" = some (.ref fa))
    {tNUMBERS : Tok}
    {tMOST_ITEMS : Tok}
    {tMOST_LEAVES : Tok}
    {tMOST_DEEP : Tok}
    {tMOST_PAPERS : Tok}
    {f_is_number : Addr} {od_is_number an_is_number : Option Addr} {sl_is_number : Array (Option Value)} {oc_is_number kV_is_number dc_is_number pm_is_number cd_is_number ct_is_number : Value}
    {f_is_below : Addr} {od_is_below an_is_below : Option Addr} {sl_is_below : Array (Option Value)} {oc_is_below kV_is_below dc_is_below pm_is_below cd_is_below ct_is_below : Value}
    {f_leaves_of : Addr} {od_leaves_of an_leaves_of : Option Addr} {sl_leaves_of : Array (Option Value)} {oc_leaves_of kV_leaves_of dc_leaves_of pm_leaves_of cd_leaves_of ct_leaves_of : Value}
    {f_is_paper : Addr} {od_is_paper an_is_paper : Option Addr} {sl_is_paper : Array (Option Value)} {oc_is_paper kV_is_paper dc_is_paper pm_is_paper cd_is_paper ct_is_paper : Value}
    {f_is_papers : Addr} {od_is_papers an_is_papers : Option Addr} {sl_is_papers : Array (Option Value)} {oc_is_papers kV_is_papers dc_is_papers pm_is_papers cd_is_papers ct_is_papers : Value}
    {f_greatest_in : Addr} {od_greatest_in an_greatest_in : Option Addr} {sl_greatest_in : Array (Option Value)} {oc_greatest_in kV_greatest_in dc_greatest_in pm_greatest_in cd_greatest_in ct_greatest_in : Value}
    {f_digits_of : Addr} {od_digits_of an_digits_of : Option Addr} {sl_digits_of : Array (Option Value)} {oc_digits_of kV_digits_of dc_digits_of pm_digits_of cd_digits_of ct_digits_of : Value}
    {f__law_pot : Addr} {od__law_pot an__law_pot : Option Addr} {sl__law_pot : Array (Option Value)} {oc__law_pot kV__law_pot dc__law_pot pm__law_pot cd__law_pot ct__law_pot : Value}
    {f__law_draw : Addr} {od__law_draw an__law_draw : Option Addr} {sl__law_draw : Array (Option Value)} {oc__law_draw kV__law_draw dc__law_draw pm__law_draw cd__law_draw ct__law_draw : Value}
    {f__law_any : Addr} {od__law_any an__law_any : Option Addr} {sl__law_any : Array (Option Value)} {oc__law_any kV__law_any dc__law_any pm__law_any cd__law_any ct__law_any : Value}
    {f__law_paper : Addr} {od__law_paper an__law_paper : Option Addr} {sl__law_paper : Array (Option Value)} {oc__law_paper kV__law_paper dc__law_paper pm__law_paper cd__law_paper ct__law_paper : Value}
    {f__law_greatest : Addr} {od__law_greatest an__law_greatest : Option Addr} {sl__law_greatest : Array (Option Value)} {oc__law_greatest kV__law_greatest dc__law_greatest pm__law_greatest cd__law_greatest ct__law_greatest : Value}
    {f__law_digits : Addr} {od__law_digits an__law_digits : Option Addr} {sl__law_digits : Array (Option Value)} {oc__law_digits kV__law_digits dc__law_digits pm__law_digits cd__law_digits ct__law_digits : Value}
    {f__law_said : Addr} {od__law_said an__law_said : Option Addr} {sl__law_said : Array (Option Value)} {oc__law_said kV__law_said dc__law_said pm__law_said cd__law_said ct__law_said : Value}
    {f_law : Addr} {od_law an_law : Option Addr} {sl_law : Array (Option Value)} {oc_law kV_law dc_law pm_law cd_law ct_law : Value}
    {CNearError : Addr}
    {CNoPapers : Addr}
    (z_abs : PySem.W.nsIn K mainGlobals "abs" = some none)
    (z_all : PySem.W.nsIn K mainGlobals "all" = some none)
    (z_bool : PySem.W.nsIn K mainGlobals "bool" = some none)
    (z_int : PySem.W.nsIn K mainGlobals "int" = some none)
    (z_isinstance : PySem.W.nsIn K mainGlobals "isinstance" = some none)
    (z_len : PySem.W.nsIn K mainGlobals "len" = some none)
    (z_list : PySem.W.nsIn K mainGlobals "list" = some none)
    (z_max : PySem.W.nsIn K mainGlobals "max" = some none)
    (z_min : PySem.W.nsIn K mainGlobals "min" = some none)
    (z_range : PySem.W.nsIn K mainGlobals "range" = some none)
    (z_tuple : PySem.W.nsIn K mainGlobals "tuple" = some none)
    (v_NUMBERS : PySem.W.nsIn K mainGlobals "NUMBERS" = some (some (.int 1000000000 tNUMBERS)))
    (v_MOST_ITEMS : PySem.W.nsIn K mainGlobals "MOST_ITEMS" = some (some (.int 200 tMOST_ITEMS)))
    (v_MOST_LEAVES : PySem.W.nsIn K mainGlobals "MOST_LEAVES" = some (some (.int 2000 tMOST_LEAVES)))
    (v_MOST_DEEP : PySem.W.nsIn K mainGlobals "MOST_DEEP" = some (some (.int 3 tMOST_DEEP)))
    (v_MOST_PAPERS : PySem.W.nsIn K mainGlobals "MOST_PAPERS" = some (some (.int 100 tMOST_PAPERS)))
    (a_is_number : PySem.W.nsIn K mainGlobals "is_number" = some (some (.ref f_is_number)))
    (l_is_number : K.lookup f_is_number = some ⟨oc_is_number, od_is_number, .func (PySem.W.fnOf "is_number" "is_number" (defArgs sis_number) (defBody sis_number) (defScope sis_number) .none kV_is_number dc_is_number pm_is_number an_is_number cd_is_number ct_is_number), sl_is_number⟩)
    (c_is_number : PySem.W.codeIn K cd_is_number "is_number" = true)
    (k_is_number : PySem.W.keepIn K (.ref f_is_number) = true)
    (a_is_below : PySem.W.nsIn K mainGlobals "is_below" = some (some (.ref f_is_below)))
    (l_is_below : K.lookup f_is_below = some ⟨oc_is_below, od_is_below, .func (PySem.W.fnOf "is_below" "is_below" (defArgs sis_below) (defBody sis_below) (defScope sis_below) .none kV_is_below dc_is_below pm_is_below an_is_below cd_is_below ct_is_below), sl_is_below⟩)
    (c_is_below : PySem.W.codeIn K cd_is_below "is_below" = true)
    (k_is_below : PySem.W.keepIn K (.ref f_is_below) = true)
    (a_leaves_of : PySem.W.nsIn K mainGlobals "leaves_of" = some (some (.ref f_leaves_of)))
    (l_leaves_of : K.lookup f_leaves_of = some ⟨oc_leaves_of, od_leaves_of, .func (PySem.W.fnOf "leaves_of" "leaves_of" (defArgs sleaves_of) (defBody sleaves_of) (defScope sleaves_of) .none kV_leaves_of dc_leaves_of pm_leaves_of an_leaves_of cd_leaves_of ct_leaves_of), sl_leaves_of⟩)
    (c_leaves_of : PySem.W.codeIn K cd_leaves_of "leaves_of" = true)
    (k_leaves_of : PySem.W.keepIn K (.ref f_leaves_of) = true)
    (a_is_paper : PySem.W.nsIn K mainGlobals "is_paper" = some (some (.ref f_is_paper)))
    (l_is_paper : K.lookup f_is_paper = some ⟨oc_is_paper, od_is_paper, .func (PySem.W.fnOf "is_paper" "is_paper" (defArgs sis_paper) (defBody sis_paper) (defScope sis_paper) .none kV_is_paper dc_is_paper pm_is_paper an_is_paper cd_is_paper ct_is_paper), sl_is_paper⟩)
    (c_is_paper : PySem.W.codeIn K cd_is_paper "is_paper" = true)
    (k_is_paper : PySem.W.keepIn K (.ref f_is_paper) = true)
    (a_is_papers : PySem.W.nsIn K mainGlobals "is_papers" = some (some (.ref f_is_papers)))
    (l_is_papers : K.lookup f_is_papers = some ⟨oc_is_papers, od_is_papers, .func (PySem.W.fnOf "is_papers" "is_papers" (defArgs sis_papers) (defBody sis_papers) (defScope sis_papers) .none kV_is_papers dc_is_papers pm_is_papers an_is_papers cd_is_papers ct_is_papers), sl_is_papers⟩)
    (c_is_papers : PySem.W.codeIn K cd_is_papers "is_papers" = true)
    (k_is_papers : PySem.W.keepIn K (.ref f_is_papers) = true)
    (a_greatest_in : PySem.W.nsIn K mainGlobals "greatest_in" = some (some (.ref f_greatest_in)))
    (l_greatest_in : K.lookup f_greatest_in = some ⟨oc_greatest_in, od_greatest_in, .func (PySem.W.fnOf "greatest_in" "greatest_in" (defArgs sgreatest_in) (defBody sgreatest_in) (defScope sgreatest_in) .none kV_greatest_in dc_greatest_in pm_greatest_in an_greatest_in cd_greatest_in ct_greatest_in), sl_greatest_in⟩)
    (c_greatest_in : PySem.W.codeIn K cd_greatest_in "greatest_in" = true)
    (k_greatest_in : PySem.W.keepIn K (.ref f_greatest_in) = true)
    (a_digits_of : PySem.W.nsIn K mainGlobals "digits_of" = some (some (.ref f_digits_of)))
    (l_digits_of : K.lookup f_digits_of = some ⟨oc_digits_of, od_digits_of, .func (PySem.W.fnOf "digits_of" "digits_of" (defArgs sdigits_of) (defBody sdigits_of) (defScope sdigits_of) .none kV_digits_of dc_digits_of pm_digits_of an_digits_of cd_digits_of ct_digits_of), sl_digits_of⟩)
    (c_digits_of : PySem.W.codeIn K cd_digits_of "digits_of" = true)
    (k_digits_of : PySem.W.keepIn K (.ref f_digits_of) = true)
    (a__law_pot : PySem.W.nsIn K mainGlobals "_law_pot" = some (some (.ref f__law_pot)))
    (l__law_pot : K.lookup f__law_pot = some ⟨oc__law_pot, od__law_pot, .func (PySem.W.fnOf "_law_pot" "_law_pot" (defArgs s_law_pot) (defBody s_law_pot) (defScope s_law_pot) .none kV__law_pot dc__law_pot pm__law_pot an__law_pot cd__law_pot ct__law_pot), sl__law_pot⟩)
    (c__law_pot : PySem.W.codeIn K cd__law_pot "_law_pot" = true)
    (k__law_pot : PySem.W.keepIn K (.ref f__law_pot) = true)
    (a__law_draw : PySem.W.nsIn K mainGlobals "_law_draw" = some (some (.ref f__law_draw)))
    (l__law_draw : K.lookup f__law_draw = some ⟨oc__law_draw, od__law_draw, .func (PySem.W.fnOf "_law_draw" "_law_draw" (defArgs s_law_draw) (defBody s_law_draw) (defScope s_law_draw) .none kV__law_draw dc__law_draw pm__law_draw an__law_draw cd__law_draw ct__law_draw), sl__law_draw⟩)
    (c__law_draw : PySem.W.codeIn K cd__law_draw "_law_draw" = true)
    (k__law_draw : PySem.W.keepIn K (.ref f__law_draw) = true)
    (a__law_any : PySem.W.nsIn K mainGlobals "_law_any" = some (some (.ref f__law_any)))
    (l__law_any : K.lookup f__law_any = some ⟨oc__law_any, od__law_any, .func (PySem.W.fnOf "_law_any" "_law_any" (defArgs s_law_any) (defBody s_law_any) (defScope s_law_any) .none kV__law_any dc__law_any pm__law_any an__law_any cd__law_any ct__law_any), sl__law_any⟩)
    (c__law_any : PySem.W.codeIn K cd__law_any "_law_any" = true)
    (k__law_any : PySem.W.keepIn K (.ref f__law_any) = true)
    (a__law_paper : PySem.W.nsIn K mainGlobals "_law_paper" = some (some (.ref f__law_paper)))
    (l__law_paper : K.lookup f__law_paper = some ⟨oc__law_paper, od__law_paper, .func (PySem.W.fnOf "_law_paper" "_law_paper" (defArgs s_law_paper) (defBody s_law_paper) (defScope s_law_paper) .none kV__law_paper dc__law_paper pm__law_paper an__law_paper cd__law_paper ct__law_paper), sl__law_paper⟩)
    (c__law_paper : PySem.W.codeIn K cd__law_paper "_law_paper" = true)
    (k__law_paper : PySem.W.keepIn K (.ref f__law_paper) = true)
    (a__law_greatest : PySem.W.nsIn K mainGlobals "_law_greatest" = some (some (.ref f__law_greatest)))
    (l__law_greatest : K.lookup f__law_greatest = some ⟨oc__law_greatest, od__law_greatest, .func (PySem.W.fnOf "_law_greatest" "_law_greatest" (defArgs s_law_greatest) (defBody s_law_greatest) (defScope s_law_greatest) .none kV__law_greatest dc__law_greatest pm__law_greatest an__law_greatest cd__law_greatest ct__law_greatest), sl__law_greatest⟩)
    (c__law_greatest : PySem.W.codeIn K cd__law_greatest "_law_greatest" = true)
    (k__law_greatest : PySem.W.keepIn K (.ref f__law_greatest) = true)
    (a__law_digits : PySem.W.nsIn K mainGlobals "_law_digits" = some (some (.ref f__law_digits)))
    (l__law_digits : K.lookup f__law_digits = some ⟨oc__law_digits, od__law_digits, .func (PySem.W.fnOf "_law_digits" "_law_digits" (defArgs s_law_digits) (defBody s_law_digits) (defScope s_law_digits) .none kV__law_digits dc__law_digits pm__law_digits an__law_digits cd__law_digits ct__law_digits), sl__law_digits⟩)
    (c__law_digits : PySem.W.codeIn K cd__law_digits "_law_digits" = true)
    (k__law_digits : PySem.W.keepIn K (.ref f__law_digits) = true)
    (a__law_said : PySem.W.nsIn K mainGlobals "_law_said" = some (some (.ref f__law_said)))
    (l__law_said : K.lookup f__law_said = some ⟨oc__law_said, od__law_said, .func (PySem.W.fnOf "_law_said" "_law_said" (defArgs s_law_said) (defBody s_law_said) (defScope s_law_said) .none kV__law_said dc__law_said pm__law_said an__law_said cd__law_said ct__law_said), sl__law_said⟩)
    (c__law_said : PySem.W.codeIn K cd__law_said "_law_said" = true)
    (k__law_said : PySem.W.keepIn K (.ref f__law_said) = true)
    (a_law : PySem.W.nsIn K mainGlobals "law" = some (some (.ref f_law)))
    (l_law : K.lookup f_law = some ⟨oc_law, od_law, .func (PySem.W.fnOf "law" "law" (defArgs slaw) (defBody slaw) (defScope slaw) .none kV_law dc_law pm_law an_law cd_law ct_law), sl_law⟩)
    (c_law : PySem.W.codeIn K cd_law "law" = true)
    (k_law : PySem.W.keepIn K (.ref f_law) = true)
    (aC_NearError : PySem.W.nsIn K mainGlobals "NearError" = some (some (.ref CNearError)))
    (aC_NoPapers : PySem.W.nsIn K mainGlobals "NoPapers" = some (some (.ref CNoPapers)))
    (xc_NoPapers : PySem.W.excIn K CNoPapers [.type "ValueError", .type "Exception", .type "BaseException", .type "object"] "ValueError.__new__" = true)
    (xk_NoPapers : PySem.W.keepIn K (.ref CNoPapers) = true)
    (xb_NoPapers : PySem.W.subIn K (.ref CNoPapers) (.type "BaseException") = some true)
    (xt_NoPapers : PySem.W.typeIn K (.ref CNoPapers) = some (.type "type"))
    (xi_NoPapers : PySem.W.isClsIn K CNoPapers = true)
    (xs_NoPapers : PySem.W.subIn K (.ref CNoPapers) (.ref CNoPapers) = some true) :
    ∃ fd : FuncData, (∀ (s : Shared) (v : Value), BindsTo s fd ⟨[v], []⟩ [("script", v)]) ∧ ∀ base : Heap, K.In base → base.Ns mainGlobals mg → FnOk l.prog w K mg base CX0 11 fa fd ["script"] (NP.spLaw K) := by
  have e := hfa.symm.trans (PySem.W.mg_of X G a_law)
  cases e
  exact ⟨PySem.W.fnOf "law" "law" (defArgs slaw) (defBody slaw) (defScope slaw) .none kV_law dc_law pm_law an_law cd_law ct_law, fun s v => .of_eq rfl, fun base _ _ => ok_law (T := ⟨PySem.W.mg_none_of X G z_abs,
    PySem.W.mg_none_of X G z_all,
    PySem.W.mg_none_of X G z_bool,
    PySem.W.mg_none_of X G z_int,
    PySem.W.mg_none_of X G z_isinstance,
    PySem.W.mg_none_of X G z_len,
    PySem.W.mg_none_of X G z_list,
    PySem.W.mg_none_of X G z_max,
    PySem.W.mg_none_of X G z_min,
    PySem.W.mg_none_of X G z_range,
    PySem.W.mg_none_of X G z_tuple,
    tNUMBERS,
    PySem.W.mg_of X G v_NUMBERS,
    tMOST_ITEMS,
    PySem.W.mg_of X G v_MOST_ITEMS,
    tMOST_LEAVES,
    PySem.W.mg_of X G v_MOST_LEAVES,
    tMOST_DEEP,
    PySem.W.mg_of X G v_MOST_DEEP,
    tMOST_PAPERS,
    PySem.W.mg_of X G v_MOST_PAPERS,
    ⟨_, _, fun_mk (st := sis_number) l_is_number c_is_number k_is_number, (fun_mk (st := sis_number) l_is_number c_is_number k_is_number).binds (ps := ["thing"]) (fun _ _ _ _ _ _ us hl => match us, hl with | [_], _ => rfl), PySem.W.mg_of X G a_is_number⟩,
    ⟨_, _, fun_mk (st := sis_below) l_is_below c_is_below k_is_below, (fun_mk (st := sis_below) l_is_below c_is_below k_is_below).binds (ps := ["bound", "thing"]) (fun _ _ _ _ _ _ us hl => match us, hl with | [_, _], _ => rfl), PySem.W.mg_of X G a_is_below⟩,
    ⟨_, _, fun_mk (st := sleaves_of) l_leaves_of c_leaves_of k_leaves_of, (fun_mk (st := sleaves_of) l_leaves_of c_leaves_of k_leaves_of).binds (ps := ["deep", "thing"]) (fun _ _ _ _ _ _ us hl => match us, hl with | [_, _], _ => rfl), PySem.W.mg_of X G a_leaves_of⟩,
    ⟨_, _, fun_mk (st := sis_paper) l_is_paper c_is_paper k_is_paper, (fun_mk (st := sis_paper) l_is_paper c_is_paper k_is_paper).binds (ps := ["thing"]) (fun _ _ _ _ _ _ us hl => match us, hl with | [_], _ => rfl), PySem.W.mg_of X G a_is_paper⟩,
    ⟨_, _, fun_mk (st := sis_papers) l_is_papers c_is_papers k_is_papers, (fun_mk (st := sis_papers) l_is_papers c_is_papers k_is_papers).binds (ps := ["many", "thing"]) (fun _ _ _ _ _ _ us hl => match us, hl with | [_, _], _ => rfl), PySem.W.mg_of X G a_is_papers⟩,
    ⟨_, _, fun_mk (st := sgreatest_in) l_greatest_in c_greatest_in k_greatest_in, (fun_mk (st := sgreatest_in) l_greatest_in c_greatest_in k_greatest_in).binds (ps := ["paper"]) (fun _ _ _ _ _ _ us hl => match us, hl with | [_], _ => rfl), PySem.W.mg_of X G a_greatest_in⟩,
    ⟨_, _, fun_mk (st := sdigits_of) l_digits_of c_digits_of k_digits_of, (fun_mk (st := sdigits_of) l_digits_of c_digits_of k_digits_of).binds (ps := ["papers"]) (fun _ _ _ _ _ _ us hl => match us, hl with | [_], _ => rfl), PySem.W.mg_of X G a_digits_of⟩,
    ⟨_, _, fun_mk (st := s_law_pot) l__law_pot c__law_pot k__law_pot, (fun_mk (st := s_law_pot) l__law_pot c__law_pot k__law_pot).binds (ps := ["script"]) (fun _ _ _ _ _ _ us hl => match us, hl with | [_], _ => rfl), PySem.W.mg_of X G a__law_pot⟩,
    ⟨_, _, fun_mk (st := s_law_draw) l__law_draw c__law_draw k__law_draw, (fun_mk (st := s_law_draw) l__law_draw c__law_draw k__law_draw).binds (ps := ["pot", "many"]) (fun _ _ _ _ _ _ us hl => match us, hl with | [_, _], _ => rfl), PySem.W.mg_of X G a__law_draw⟩,
    ⟨_, _, fun_mk (st := s_law_any) l__law_any c__law_any k__law_any, (fun_mk (st := s_law_any) l__law_any c__law_any k__law_any).binds (ps := ["pot", "things"]) (fun _ _ _ _ _ _ us hl => match us, hl with | [_, _], _ => rfl), PySem.W.mg_of X G a__law_any⟩,
    ⟨_, _, fun_mk (st := s_law_paper) l__law_paper c__law_paper k__law_paper, (fun_mk (st := s_law_paper) l__law_paper c__law_paper k__law_paper).binds (ps := ["pot", "deep"]) (fun _ _ _ _ _ _ us hl => match us, hl with | [_, _], _ => rfl), PySem.W.mg_of X G a__law_paper⟩,
    ⟨_, _, fun_mk (st := s_law_greatest) l__law_greatest c__law_greatest k__law_greatest, (fun_mk (st := s_law_greatest) l__law_greatest c__law_greatest k__law_greatest).binds (ps := ["paper"]) (fun _ _ _ _ _ _ us hl => match us, hl with | [_], _ => rfl), PySem.W.mg_of X G a__law_greatest⟩,
    ⟨_, _, fun_mk (st := s_law_digits) l__law_digits c__law_digits k__law_digits, (fun_mk (st := s_law_digits) l__law_digits c__law_digits k__law_digits).binds (ps := ["number"]) (fun _ _ _ _ _ _ us hl => match us, hl with | [_], _ => rfl), PySem.W.mg_of X G a__law_digits⟩,
    ⟨_, _, fun_mk (st := s_law_said) l__law_said c__law_said k__law_said, (fun_mk (st := s_law_said) l__law_said c__law_said k__law_said).binds (ps := ["thing"]) (fun _ _ _ _ _ _ us hl => match us, hl with | [_], _ => rfl), PySem.W.mg_of X G a__law_said⟩,
    ⟨_, _, fun_mk (st := slaw) l_law c_law k_law, (fun_mk (st := slaw) l_law c_law k_law).binds (ps := ["script"]) (fun _ _ _ _ _ _ us hl => match us, hl with | [_], _ => rfl), PySem.W.mg_of X G a_law⟩,
    CNearError,
    PySem.W.mg_of X G aC_NearError,
    CNoPapers,
    PySem.W.mg_of X G aC_NoPapers,
    xc_NoPapers,
    xk_NoPapers,
    xb_NoPapers,
    xt_NoPapers,
    NP.exm_self xb_NoPapers xi_NoPapers xt_NoPapers xs_NoPapers⟩)⟩
theorem walk {l : PySem.W.OpenLaw} {q : Program} {loose : List Str} {XP : (Str → Option Value) → Heap → Prop} {YP : World → Heap → Prop} {d : DefRec} {K : Params → PySem.W.Frag} (hn : l.most = some 63) (hdf : d.params.defaults = [])
    (hY : ∀ (w : World) (h : Heap), YP w h → (K w.params).In h)
    (F : ∀ (w : World) (mg : Str → Option Value) (fa : Addr) (h : Heap), (K w.params).In h → h.Ns mainGlobals mg → mg d.name = some (.ref fa) →
      ∃ fd : FuncData, (∀ (s : Shared) (u : Value), BindsTo s fd ⟨[u], []⟩ [("script", u)]) ∧ ∀ base : Heap, (K w.params).In base → base.Ns mainGlobals mg → FnOk l.prog w (K w.params) mg base CX0 11 fa fd ["script"] (NP.spLaw (K w.params))) :
    PySem.W.WalkO q loose XP YP l.row.toRowW d [] (fun f vs => PySem.call f vs) :=
  L2.walk_of (n := 63) (k := 11) (x := "script") (CX := fun _ => CX0) (sp := fun w => NP.spLaw (K w.params)) hn (by decide) hdf ⟨rfl, by decide, by decide⟩ hY F (fun _ _ a ns hl _ hS => ⟨a, ns, rfl, hS, hl, fun _ => rfl⟩) fun _ _ _ _ _ z => z
end N53
open PySem PySem.W PyProof.Rows in
set_option maxRecDepth 100000 in
set_option maxHeartbeats 0 in
theorem PySem.Challenge.cw_nearpapers_k53_digits_of_papers_holds : PySem.Challenge.rw_nearpapers_k53_digits_of_papers.Holds := by
  w_on; o_law; k_head; (case hw => w_witness2)
  k_fill
  refine N53.walk (l := PySem.Challenge.rw_nearpapers_k53_digits_of_papers) rfl rfl (fun w h Y => PySem.W.kIn_of Y) ?F
  case F =>
    intro w mg fa h KX G hmg
    refine' N53.all_mk KX G hmg ?z_abs ?z_all ?z_bool ?z_int ?z_isinstance ?z_len ?z_list ?z_max ?z_min ?z_range ?z_tuple ?v_NUMBERS ?v_MOST_ITEMS ?v_MOST_LEAVES ?v_MOST_DEEP ?v_MOST_PAPERS ?a_is_number ?l_is_number ?c_is_number ?k_is_number ?a_is_below ?l_is_below ?c_is_below ?k_is_below ?a_leaves_of ?l_leaves_of ?c_leaves_of ?k_leaves_of ?a_is_paper ?l_is_paper ?c_is_paper ?k_is_paper ?a_is_papers ?l_is_papers ?c_is_papers ?k_is_papers ?a_greatest_in ?l_greatest_in ?c_greatest_in ?k_greatest_in ?a_digits_of ?l_digits_of ?c_digits_of ?k_digits_of ?a__law_pot ?l__law_pot ?c__law_pot ?k__law_pot ?a__law_draw ?l__law_draw ?c__law_draw ?k__law_draw ?a__law_any ?l__law_any ?c__law_any ?k__law_any ?a__law_paper ?l__law_paper ?c__law_paper ?k__law_paper ?a__law_greatest ?l__law_greatest ?c__law_greatest ?k__law_greatest ?a__law_digits ?l__law_digits ?c__law_digits ?k__law_digits ?a__law_said ?l__law_said ?c__law_said ?k__law_said ?a_law ?l_law ?c_law ?k_law ?aC_NearError ?aC_NoPapers ?xc_NoPapers ?xk_NoPapers ?xb_NoPapers ?xt_NoPapers ?xi_NoPapers ?xs_NoPapers
    (case z_abs => k_is)
    (case z_all => k_is)
    (case z_bool => k_is)
    (case z_int => k_is)
    (case z_isinstance => k_is)
    (case z_len => k_is)
    (case z_list => k_is)
    (case z_max => k_is)
    (case z_min => k_is)
    (case z_range => k_is)
    (case z_tuple => k_is)
    (case v_NUMBERS => k_is)
    (case v_MOST_ITEMS => k_is)
    (case v_MOST_LEAVES => k_is)
    (case v_MOST_DEEP => k_is)
    (case v_MOST_PAPERS => k_is)
    (case a_is_number => k_is)
    (case l_is_number => k_is)
    (case c_is_number => k_is)
    (case k_is_number => k_is)
    (case a_is_below => k_is)
    (case l_is_below => k_is)
    (case c_is_below => k_is)
    (case k_is_below => k_is)
    (case a_leaves_of => k_is)
    (case l_leaves_of => k_is)
    (case c_leaves_of => k_is)
    (case k_leaves_of => k_is)
    (case a_is_paper => k_is)
    (case l_is_paper => k_is)
    (case c_is_paper => k_is)
    (case k_is_paper => k_is)
    (case a_is_papers => k_is)
    (case l_is_papers => k_is)
    (case c_is_papers => k_is)
    (case k_is_papers => k_is)
    (case a_greatest_in => k_is)
    (case l_greatest_in => k_is)
    (case c_greatest_in => k_is)
    (case k_greatest_in => k_is)
    (case a_digits_of => k_is)
    (case l_digits_of => k_is)
    (case c_digits_of => k_is)
    (case k_digits_of => k_is)
    (case a__law_pot => k_is)
    (case l__law_pot => k_is)
    (case c__law_pot => k_is)
    (case k__law_pot => k_is)
    (case a__law_draw => k_is)
    (case l__law_draw => k_is)
    (case c__law_draw => k_is)
    (case k__law_draw => k_is)
    (case a__law_any => k_is)
    (case l__law_any => k_is)
    (case c__law_any => k_is)
    (case k__law_any => k_is)
    (case a__law_paper => k_is)
    (case l__law_paper => k_is)
    (case c__law_paper => k_is)
    (case k__law_paper => k_is)
    (case a__law_greatest => k_is)
    (case l__law_greatest => k_is)
    (case c__law_greatest => k_is)
    (case k__law_greatest => k_is)
    (case a__law_digits => k_is)
    (case l__law_digits => k_is)
    (case c__law_digits => k_is)
    (case k__law_digits => k_is)
    (case a__law_said => k_is)
    (case l__law_said => k_is)
    (case c__law_said => k_is)
    (case k__law_said => k_is)
    (case a_law => k_is)
    (case l_law => k_is)
    (case c_law => k_is)
    (case k_law => k_is)
    (case aC_NearError => k_is)
    (case aC_NoPapers => k_is)
    (case xc_NoPapers => k_exc)
    (case xk_NoPapers => k_is)
    (case xb_NoPapers => k_is)
    (case xt_NoPapers => k_is)
    (case xi_NoPapers => k_is)
    (case xs_NoPapers => first | rfl | k_is)
#print axioms PySem.Challenge.cw_nearpapers_k53_digits_of_papers_holds
