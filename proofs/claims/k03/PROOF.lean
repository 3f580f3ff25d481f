import PyProof.Rows.All
import Wide.All
import OpenK.AllK
import Wide.FinOn
import HandS.ForMost
import HandS.SortOrd
import HandS.TupLe
import KE.KDictKeyed
import HandS.DictComp
import HandS.More
import KE.KDictSum
import KE.KDictCopyH
import HandS.Wide
import HandS.TupAny
import HandS.Codes
import HandS.IsInst
import HandS.Walk
import HandS.ForExc
import HandS.ExcInit
import HandS.ExcField
import KE.KExcIs
import KE.KIsAll
import KE.BitLaws
import KE.GoesComp
import KE.KAsSuite
import KE.DataCmp
import HandS.ExcIs
import PySem.Challenge.RW_howhigh_k03_values_of_products_and_sums
set_option Elab.async false
set_option linter.all false
set_option maxRecDepth 100000
set_option maxHeartbeats 4000000
namespace HH
open PySem PySem.Spec PyProof.Rows L2 PySem.SeqAt

/-! ### the order of nested data -/
mutual
def ltK : NestedKey → NestedKey → Bool
  | .none, .none => false
  | .none, .num _ => true
  | .none, .text _ => true
  | .none, .tup _ => true
  | .num _, .none => false
  | .num a, .num b => decide (a < b)
  | .num _, .text _ => true
  | .num _, .tup _ => true
  | .text _, .none => false
  | .text _, .num _ => false
  | .text a, .text b => decide (a.cps.toList < b.cps.toList)
  | .text _, .tup _ => true
  | .tup _, .none => false
  | .tup _, .num _ => false
  | .tup _, .text _ => false
  | .tup a, .tup b => ltL a b
def ltL : List NestedKey → List NestedKey → Bool
  | [], [] => false
  | [], _ :: _ => true
  | _ :: _, [] => false
  | a :: as, b :: bs => if a = b then ltL as bs else ltK a b
end
mutual
def cmK : NestedKey → NestedKey → Bool
  | .num _, .num _ => true
  | .text _, .text _ => true
  | .tup a, .tup b => cmL a b
  | .none, _ => false
  | .num _, .none => false
  | .num _, .text _ => false
  | .num _, .tup _ => false
  | .text _, .none => false
  | .text _, .num _ => false
  | .text _, .tup _ => false
  | .tup _, .none => false
  | .tup _, .num _ => false
  | .tup _, .text _ => false
def cmL : List NestedKey → List NestedKey → Bool
  | [], [] => true
  | [], _ :: _ => true
  | _ :: _, [] => true
  | a :: as, b :: bs => cmK a b && cmL as bs
end
theorem str_ext {a b : Str} (h : a.cps.toList = b.cps.toList) : a = b := by
  cases a; cases b; simp only [Str.mk.injEq]; exact Array.ext' h
theorem lln_tri (a b : List Nat) : a < b ∨ a = b ∨ b < a := by
  rcases Classical.em (a < b) with h | h
  · exact .inl h
  · rcases Classical.em (b < a) with h' | h'
    · exact .inr (.inr h')
    · exact .inr (.inl (List.le_antisymm (List.not_lt.mp h') (List.not_lt.mp h)))
mutual
theorem ltK_tri : ∀ a b : NestedKey, ltK a b = true ∨ a = b ∨ ltK b a = true
  | .none, .none => by simp
  | .none, .num _ => by simp [ltK]
  | .none, .text _ => by simp [ltK]
  | .none, .tup _ => by simp [ltK]
  | .num _, .none => by simp [ltK]
  | .num a, .num b => by simp only [ltK, decide_eq_true_eq, NestedKey.num.injEq]; omega
  | .num _, .text _ => by simp [ltK]
  | .num _, .tup _ => by simp [ltK]
  | .text _, .none => by simp [ltK]
  | .text _, .num _ => by simp [ltK]
  | .text a, .text b => by
    simp only [ltK, decide_eq_true_eq, NestedKey.text.injEq]
    rcases lln_tri a.cps.toList b.cps.toList with h | h | h
    · exact .inl h
    · exact .inr (.inl (str_ext h))
    · exact .inr (.inr h)
  | .text _, .tup _ => by simp [ltK]
  | .tup _, .none => by simp [ltK]
  | .tup _, .num _ => by simp [ltK]
  | .tup _, .text _ => by simp [ltK]
  | .tup a, .tup b => by simp only [ltK, NestedKey.tup.injEq]; exact ltL_tri a b
theorem ltL_tri : ∀ a b : List NestedKey, ltL a b = true ∨ a = b ∨ ltL b a = true
  | [], [] => by simp
  | [], _ :: _ => by simp [ltL]
  | _ :: _, [] => by simp [ltL]
  | a :: as, b :: bs => by
    by_cases e : a = b
    · subst e
      simp only [ltL, if_true, List.cons.injEq, true_and]
      exact ltL_tri as bs
    · have e' : ¬ b = a := fun h => e h.symm
      simp only [ltL, if_neg e, if_neg e', List.cons.injEq, e, false_and, false_or]
      rcases ltK_tri a b with h | h | h
      · exact .inl h
      · exact absurd h e
      · exact .inr h
end
mutual
theorem ltK_asym : ∀ a b : NestedKey, ltK a b = true → ltK b a = false
  | .none, .none, h => by simp [ltK] at h
  | .none, .num _, h => by simp [ltK]
  | .none, .text _, h => by simp [ltK]
  | .none, .tup _, h => by simp [ltK]
  | .num _, .none, h => by simp [ltK] at h
  | .num a, .num b, h => by simp only [ltK, decide_eq_true_eq, decide_eq_false_iff_not] at h ⊢; omega
  | .num _, .text _, h => by simp [ltK]
  | .num _, .tup _, h => by simp [ltK]
  | .text _, .none, h => by simp [ltK] at h
  | .text _, .num _, h => by simp [ltK] at h
  | .text a, .text b, h => by
    simp only [ltK, decide_eq_true_eq, decide_eq_false_iff_not] at h ⊢
    exact List.lt_asymm h
  | .text _, .tup _, h => by simp [ltK]
  | .tup _, .none, h => by simp [ltK] at h
  | .tup _, .num _, h => by simp [ltK] at h
  | .tup _, .text _, h => by simp [ltK] at h
  | .tup a, .tup b, h => by simp only [ltK] at h ⊢; exact ltL_asym a b h
theorem ltL_asym : ∀ a b : List NestedKey, ltL a b = true → ltL b a = false
  | [], [], h => by simp [ltL] at h
  | [], _ :: _, h => by simp [ltL]
  | _ :: _, [], h => by simp [ltL] at h
  | a :: as, b :: bs, h => by
    by_cases e : a = b
    · subst e
      simp only [ltL, if_true] at h ⊢
      exact ltL_asym as bs h
    · have e' : ¬ b = a := fun h => e h.symm
      simp only [ltL, if_neg e, if_neg e'] at h ⊢
      exact ltK_asym a b h
end
theorem ltK_irr (a : NestedKey) : ltK a a = false := by
  cases h : ltK a a with
  | false => rfl
  | true => have := ltK_asym a a h; rw [h] at this; cases this
mutual
theorem ltK_trans : ∀ a b c : NestedKey, ltK a b = true → ltK b c = true → ltK a c = true
  | .none, b, .none, h, g => by cases b <;> simp [ltK] at h g
  | .none, b, .num _, h, g => by simp [ltK]
  | .none, b, .text _, h, g => by simp [ltK]
  | .none, b, .tup _, h, g => by simp [ltK]
  | .num _, b, .none, h, g => by cases b <;> simp [ltK] at h g
  | .num a, b, .num c, h, g => by
    cases b <;> simp [ltK] at h g
    simp only [ltK, decide_eq_true_eq]; omega
  | .num _, b, .text _, h, g => by simp [ltK]
  | .num _, b, .tup _, h, g => by simp [ltK]
  | .text _, b, .none, h, g => by cases b <;> simp [ltK] at h g
  | .text _, b, .num _, h, g => by cases b <;> simp [ltK] at h g
  | .text a, b, .text c, h, g => by
    cases b <;> simp [ltK] at h g
    simp only [ltK, decide_eq_true_eq]; exact List.lt_trans h g
  | .text _, b, .tup _, h, g => by simp [ltK]
  | .tup _, b, .none, h, g => by cases b <;> simp [ltK] at h g
  | .tup _, b, .num _, h, g => by cases b <;> simp [ltK] at h g
  | .tup _, b, .text _, h, g => by cases b <;> simp [ltK] at h g
  | .tup a, .none, .tup c, h, g => by simp [ltK] at h
  | .tup a, .num _, .tup c, h, g => by simp [ltK] at h
  | .tup a, .text _, .tup c, h, g => by simp [ltK] at h
  | .tup a, .tup b, .tup c, h, g => by simp only [ltK] at h g ⊢; exact ltL_trans a b c h g
theorem ltL_trans : ∀ a b c : List NestedKey, ltL a b = true → ltL b c = true → ltL a c = true
  | [], _, _ :: _, h, g => by simp [ltL]
  | [], b, [], h, g => by cases b <;> simp [ltL] at h g
  | _ :: _, b, [], h, g => by cases b <;> simp [ltL] at h g
  | a :: as, [], c :: cs, h, g => by simp [ltL] at h
  | a :: as, b :: bs, c :: cs, h, g => by
    by_cases e : a = b
    · subst e
      simp only [ltL, if_true] at h
      by_cases e2 : a = c
      · subst e2
        simp only [ltL, if_true] at g ⊢
        exact ltL_trans as bs cs h g
      · simp only [ltL, if_neg e2] at g ⊢
        exact g
    · simp only [ltL, if_neg e] at h
      by_cases e2 : b = c
      · subst e2
        simp only [ltL, if_neg e]
        exact h
      · simp only [ltL, if_neg e2] at g
        have t := ltK_trans a b c h g
        have ne : ¬ a = c := fun z => by subst z; rw [ltK_irr] at t; cases t
        simp only [ltL, if_neg ne]
        exact t
end
theorem ltK_swo : SrtO.Swo ltK := by
  refine ⟨ltK_asym, fun x y z h1 h2 => ?_⟩
  cases h3 : ltK z x with
  | false => rfl
  | true =>
    rcases ltK_tri y z with h | h | h
    · have := ltK_trans y z x h h3; rw [h1] at this; cases this
    · subst h; rw [h1] at h3; cases h3
    · rw [h2] at h; cases h
end HH
namespace HH
open PySem PySem.Spec PyProof.Rows L2 PySem.SeqAt

/-! ### nested data in the heap, without flags -/
mutual
inductive DIs (h : Heap) : NestedKey → Value → Prop
  | int (i : Int) (t : Tok) : DIs h (.num i) (.int i t)
  | text (x : Str) (t : Tok) : DIs h (.text x) (.str x t)
  | tup {a : Addr} {vs : Array Value} {ks : List NestedKey} : h.IsTuple a vs → DAll h ks vs.toList → DIs h (.tup ks) (.ref a)
inductive DAll (h : Heap) : List NestedKey → List Value → Prop
  | nil : DAll h [] []
  | cons {k : NestedKey} {ks : List NestedKey} {v : Value} {vs : List Value} : DIs h k v → DAll h ks vs → DAll h (k :: ks) (v :: vs)
end
mutual
theorem DIs.nested {h : Heap} : ∀ (k : NestedKey) (v : Value), DIs h k v → NestedIs h k v
  | .none, _, x => nomatch x
  | .num i, _, x => by cases x; exact .int _ _
  | .text i, _, x => by cases x; exact .text _ _
  | .tup ks, _, x => by
    cases x with
    | tup p r =>
      obtain ⟨o, ho, hc, n, hd⟩ := p
      exact .tup ho hc hd (DAll.nested ks _ r)
theorem DAll.nested {h : Heap} : ∀ (k : List NestedKey) (v : List Value), DAll h k v → NestedAll h k v
  | [], _, x => by cases x; exact .nil
  | k :: ks, _, x => by
    cases x with
    | cons p r => exact .cons (DIs.nested k _ p) (DAll.nested ks _ r)
end
mutual
theorem DIs.keep {h h' : Heap} (hk : ∀ a vs, h.IsTuple a vs → h'.IsTuple a vs) : ∀ (k : NestedKey) (v : Value), DIs h k v → DIs h' k v
  | .none, _, x => nomatch x
  | .num i, _, x => by cases x; exact .int _ _
  | .text i, _, x => by cases x; exact .text _ _
  | .tup ks, _, x => by
    cases x with
    | tup p r => exact .tup (hk _ _ p) (DAll.keep hk ks _ r)
theorem DAll.keep {h h' : Heap} (hk : ∀ a vs, h.IsTuple a vs → h'.IsTuple a vs) : ∀ (k : List NestedKey) (v : List Value), DAll h k v → DAll h' k v
  | [], _, x => by cases x; exact .nil
  | k :: ks, _, x => by
    cases x with
    | cons p r => exact .cons (DIs.keep hk k _ p) (DAll.keep hk ks _ r)
end
theorem DAll.length {h : Heap} : ∀ {ks : List NestedKey} {vs : List Value}, DAll h ks vs → vs.length = ks.length
  | [], _, x => by cases x; rfl
  | k :: ks, _, x => by
    cases x with
    | cons p r => simp [DAll.length r]
theorem DAll.get {h : Heap} : ∀ {ks : List NestedKey} {vs : List Value}, DAll h ks vs → ∀ (j : Nat) (h1 : j < vs.length) (h2 : j < ks.length), DIs h ks[j] vs[j]
  | [], _, x, j, h1, h2 => absurd h2 (Nat.not_lt_zero _)
  | k :: ks, _, x, j, h1, h2 => by
    cases x with
    | cons p r =>
      cases j with
      | zero => exact p
      | succ j => exact DAll.get r j _ _
theorem DAll.mem {h : Heap} : ∀ {ks : List NestedKey} {vs : List Value}, DAll h ks vs → ∀ v ∈ vs, ∃ k ∈ ks, DIs h k v
  | [], _, x, v, hv => by cases x; cases hv
  | k :: ks, _, x, v, hv => by
    cases x with
    | cons p r =>
      rcases List.mem_cons.mp hv with e | e
      · subst e; exact ⟨k, List.mem_cons_self, p⟩
      · obtain ⟨k', m, q⟩ := DAll.mem r v e
        exact ⟨k', List.mem_cons_of_mem _ m, q⟩
def kEq (xs ys : List NestedKey) (j : Nat) : Bool := NestedKey.beq (xs.getD j .none) (ys.getD j .none)
def kLt (xs ys : List NestedKey) (j : Nat) : Bool := ltK (xs.getD j .none) (ys.getD j .none)
theorem lexAt_shift {e r e' r' : Nat → Bool} {z : Bool} : ∀ (k i : Nat), (∀ j, i ≤ j → e (j + 1) = e' j) → (∀ j, i ≤ j → r (j + 1) = r' j) → Ob.lexAt e r z (i + 1) k = Ob.lexAt e' r' z i k
  | 0, i, _, _ => rfl
  | k + 1, i, h1, h2 => by
    rw [Ob.lexAt_succ, Ob.lexAt_succ, h1 i (Nat.le_refl _), h2 i (Nat.le_refl _), lexAt_shift k (i + 1) (fun j hj => h1 j (by omega)) (fun j hj => h2 j (by omega))]
theorem lexAt_lt : ∀ (xs ys : List NestedKey), Ob.lexAt (kEq xs ys) (kLt xs ys) (decide (xs.length < ys.length)) 0 (min xs.length ys.length) = ltL xs ys
  | [], [] => by simp [Ob.lexAt_zero, ltL]
  | [], y :: ys => by simp [Ob.lexAt_zero, ltL]
  | x :: xs, [] => by simp [Ob.lexAt_zero, ltL]
  | x :: xs, y :: ys => by
    have ih := lexAt_lt xs ys
    have em : min (x :: xs).length (y :: ys).length = min xs.length ys.length + 1 := by simp only [List.length_cons]; omega
    rw [em, Ob.lexAt_succ, ltL]
    have e0 : kEq (x :: xs) (y :: ys) 0 = NestedKey.beq x y := rfl
    have r0 : kLt (x :: xs) (y :: ys) 0 = ltK x y := rfl
    rw [e0, r0]
    by_cases e : x = y
    · subst e
      rw [NestedKey.beq_self, if_pos rfl, if_pos rfl]
      have ez : decide ((x :: xs).length < (x :: ys).length) = decide (xs.length < ys.length) := by simp
      rw [ez, ← ih]
      exact lexAt_shift _ 0 (fun j _ => rfl) (fun j _ => rfl)
    · have hb : NestedKey.beq x y = false := by
        cases h : NestedKey.beq x y with
        | false => rfl
        | true => exact absurd (NestedKey.eq_of_beq x y h) e
      rw [hb, if_neg (by simp), if_neg e]
theorem cmL_get : ∀ {xs ys : List NestedKey}, cmL xs ys = true → ∀ (j : Nat) (h1 : j < xs.length) (h2 : j < ys.length), cmK xs[j] ys[j] = true
  | [], _, _, j, h1, _ => absurd h1 (Nat.not_lt_zero _)
  | _ :: _, [], _, j, _, h2 => absurd h2 (Nat.not_lt_zero _)
  | x :: xs, y :: ys, h, j, h1, h2 => by
    rw [cmL, Bool.and_eq_true] at h
    cases j with
    | zero => exact h.1
    | succ j => exact cmL_get h.2 j _ _
theorem depth_mem {ks : List NestedKey} : ∀ {k : NestedKey}, k ∈ ks → k.depth ≤ NestedKey.depthAll ks := by
  induction ks with
  | nil => intro k h; cases h
  | cons a as ih =>
    intro k h
    simp only [NestedKey.depthAll]
    rcases List.mem_cons.mp h with e | e
    · subst e; omega
    · have := ih e; omega
/-- u < v of nested data -/
theorem rc_lt : ∀ (n : Nat) (x y : NestedKey) (A : Around) (s : Shared) (u v : Value), x.depth ≤ n → DIs s.heap x u → DIs s.heap y v → cmK x y = true → A.units + x.depth < cLine → Ob.RcOp .Lt A s u v (ltK x y)
  | n, .none, y, A, s, u, v, hn, hx, hy, hc, hu => nomatch hx
  | n, .num a, y, A, s, u, v, hn, hx, hy, hc, hu => by
    cases hy with
    | int b t => cases hx; exact Ob.RcOp.lt_int _ _ _ _
    | text b t => simp [cmK] at hc
    | tup p r => simp [cmK] at hc
  | n, .text a, y, A, s, u, v, hn, hx, hy, hc, hu => by
    cases hy with
    | int b t => simp [cmK] at hc
    | text b t => cases hx; exact fun _ _ _ _ h => PyProof.Rows.lt_str h
    | tup p r => simp [cmK] at hc
  | 0, .tup xs, y, A, s, u, v, hn, hx, hy, hc, hu => by simp [NestedKey.depth] at hn
  | n + 1, .tup xs, y, A, s, u, v, hn, hx, hy, hc, hu => by
    cases hy with
    | int b t => simp [cmK] at hc
    | text b t => simp [cmK] at hc
    | @tup b vs' ys p' r' =>
      cases hx with
      | @tup a vs xs p r =>
        simp only [NestedKey.depth] at hn hu
        simp only [cmK] at hc
        have l1 : vs.size = xs.length := by simpa using r.length
        have l2 : vs'.size = ys.length := by simpa using r'.length
        have hu1 : A.in1.units = A.units + 1 := rfl
        have key := Ob.RcOp.tuples_lt (e := kEq xs ys) (r := kLt xs ys) p p' (A := A) (s := s) (by omega) (fun j h1 h2 => ?_) (fun j h1 h2 _ => ?_)
        · rw [l1, l2, lexAt_lt] at key
          simpa only [ltK] using key
        · have q1 := r.get j (by simpa using h1) (by omega)
          have q2 := r'.get j (by simpa using h2) (by omega)
          have m1 := depth_mem (List.getElem_mem (h := show j < xs.length by omega))
          have := eqAt_key xs[j] ys[j] A.in1 s _ _ (q1.nested _ _) (q2.nested _ _) (by omega)
          simp only [kEq, List.getD_eq_getElem?_getD, List.getElem?_eq_getElem (show j < xs.length by omega), List.getElem?_eq_getElem (show j < ys.length by omega), Option.getD_some]
          simpa using this
        · have q1 := r.get j (by simpa using h1) (by omega)
          have q2 := r'.get j (by simpa using h2) (by omega)
          have m1 := depth_mem (List.getElem_mem (h := show j < xs.length by omega))
          have := rc_lt n xs[j] ys[j] A.in1 s _ _ (by omega) q1 q2 (cmL_get hc j _ _) (by omega)
          simp only [kLt, List.getD_eq_getElem?_getD, List.getElem?_eq_getElem (show j < xs.length by omega), List.getElem?_eq_getElem (show j < ys.length by omega), Option.getD_some]
          simpa using this
end HH
namespace HH
open PySem PySem.Spec PyProof.Rows L2 PySem.SeqAt

def tyK : NestedKey → String
  | .none => "NoneType"
  | .num _ => "int"
  | .text _ => "str"
  | .tup _ => "tuple"
theorem DIs.type {M : Model} {h : Heap} {k : NestedKey} {v : Value} (x : DIs h k v) : PySem.W.Looks M h (typeOf v) (.type (tyK k)) := by
  cases x with
  | int i t => exact PySem.W.Looks.now
  | text i t => exact PySem.W.Looks.now
  | tup p r =>
    obtain ⟨o, ho, hc, n, hd⟩ := p
    have q : PySem.W.Looks M h (typeOf (.ref _)) o.cls := (PySem.W.Looks.ld ho).andThen .now
    rw [hc] at q
    exact q
/-- the first item of a tuple that has one -/
inductive Fst (h : Heap) : NestedKey → Option Value → Prop
  | num (i : Int) : Fst h (.num i) none
  | text (x : Str) : Fst h (.text x) none
  | emp : Fst h (.tup []) none
  | tup {k : NestedKey} {ks : List NestedKey} {u : Value} : DIs h k u → Fst h (.tup (k :: ks)) (some u)
section
variable {M : Model} {A : Around} {s : Shared}
theorem first_one {k : NestedKey} {v : Value} (x : DIs s.heap k v) : ∃ f, Fst s.heap k f ∧ ∀ (E : Value → Shared → Prop) (Q : Option Value → Shared → Prop), Q f s → wpAny M A (firstOfTuple' v) Q E s := by
  have ty := x.type (M := M)
  cases x with
  | int i t =>
    refine ⟨none, .num i, fun E Q q => ?_⟩
    rw [PySem.W.kas_first_eq]
    refine wpAny_bind (ty.here ?_)
    rw [if_pos (by first | rfl | decide +kernel)]
    exact wpAny_pure q
  | text i t =>
    refine ⟨none, .text i, fun E Q q => ?_⟩
    rw [PySem.W.kas_first_eq]
    refine wpAny_bind (ty.here ?_)
    rw [if_pos (by first | rfl | decide +kernel)]
    exact wpAny_pure q
  | @tup a vs ks p r =>
    obtain ⟨o, ho, hc, n, hd⟩ := p
    have run : ∀ (E : Value → Shared → Prop) (Q : Option Value → Shared → Prop), Q vs[0]? s → wpAny M A (firstOfTuple' (.ref a)) Q E s := fun E Q q => by
      rw [PySem.W.kas_first_eq]
      refine wpAny_bind (ty.here ?_)
      rw [if_neg (by show ¬ (Value.type "tuple" != Value.type "tuple") = true; decide +kernel)]
      exact wpAny_bind (listItems_at ho hd (wpAny_pure q))
    rw [← Array.getElem?_toList] at run
    cases r' : vs.toList with
    | nil =>
      rw [r'] at r run
      cases r
      exact ⟨none, .emp, run⟩
    | cons u us =>
      rw [r'] at r run
      cases r with
      | cons y ys => exact ⟨some u, .tup y, run⟩
theorem firsts_run (M : Model) (A : Around) {s : Shared} : ∀ {ks : List NestedKey} {vs : List Value}, DAll s.heap ks vs → ∃ fs : List (Option Value), Paired (Fst s.heap) ks fs ∧ ∀ (E : Value → Shared → Prop) (Q : List (Option Value) → Shared → Prop), Q fs s → wpAny M A (vs.mapM firstOfTuple') Q E s
  | [], _, x => by
    cases x
    exact ⟨[], .nil, fun E Q q => by rw [List.mapM_nil]; exact wpAny_pure q⟩
  | k :: ks, _, x => by
    cases x with
    | cons p r =>
      obtain ⟨f, hf, rf⟩ := first_one (M := M) (A := A) p
      obtain ⟨fs, hfs, rfs⟩ := firsts_run M A r
      refine ⟨f :: fs, .cons hf hfs, fun E Q q => ?_⟩
      rw [List.mapM_cons]
      exact wpAny_bind (rf _ _ (wpAny_bind (rfs _ _ (wpAny_pure q))))
variable {E : Value → Shared → Prop}
theorem types_run : ∀ {ks : List NestedKey} {vs : List Value}, DAll s.heap ks vs → ∀ Q : List Value → Shared → Prop, Q (ks.map fun k => Value.type (tyK k)) s → wpAny M A (vs.mapM typeOf) Q E s
  | [], _, x, Q, q => by
    cases x
    rw [List.mapM_nil]; exact wpAny_pure q
  | k :: ks, _, x, Q, q => by
    cases x with
    | cons p r =>
      rw [List.mapM_cons]
      exact wpAny_bind ((p.type (M := M)).here (wpAny_bind (types_run r _ (wpAny_pure q))))
def oneTy (ks : List NestedKey) : Option Value := match ks with
  | [] => none
  | k :: ks => if ((k :: ks).map fun k => Value.type (tyK k)).toArray.all (· == Value.type (tyK k)) then some (Value.type (tyK k)) else none
theorem oneTy_run {ks : List NestedKey} {vs : List Value} (x : DAll s.heap ks vs) {Q : Option Value → Shared → Prop} (q : Q (oneTy ks) s) : wpAny M A (oneTypeOnly' vs.toArray) Q E s := by
  rw [oneTypeOnly'_eq, List.mapM_toArray, map_eq_pure_bind]
  refine wpAny_bind (wpAny_bind (types_run x _ (wpAny_pure ?_)))
  cases ks with
  | nil => exact wpAny_pure q
  | cons k ks =>
    have h0 : (List.map (fun k => Value.type (tyK k)) (k :: ks)).toArray[0]? = some (Value.type (tyK k)) := by simp
    rw [h0]
    exact wpAny_pure q
theorem vtype_eq {a b : String} (h : (Value.type a == Value.type b) = true) : a = b := by
  have : Value.type a = Value.type b := by first | exact eq_of_beq h | exact (beq_iff_eq ..).mp h
  exact Value.type.inj this
theorem oneTy_some {ks : List NestedKey} {t : Value} (h : oneTy ks = some t) : ∀ k ∈ ks, Value.type (tyK k) = t := by
  cases ks with
  | nil => intro k hk; cases hk
  | cons a as =>
    intro k hk
    simp only [oneTy] at h
    split at h
    · rename_i hall
      have e := Option.some.inj h
      rw [← e]
      simp only [List.all_toArray, List.all_map, List.all_eq_true] at hall
      have := vtype_eq (hall k hk)
      rw [this]
    · cases h
inductive KindOk (h : Heap) (ks : List NestedKey) : SortKind → Prop
  | gen : KindOk h ks general'
  | one : (∃ T, ∀ k ∈ ks, tyK k = T) → KindOk h ks oneType'
  | tup (b : Bool) : (∀ k ∈ ks, ∃ k0 r, k = .tup (k0 :: r)) → (b = true → ∃ T, T ≠ "tuple" ∧ ∀ k ∈ ks, ∀ k0 r, k = .tup (k0 :: r) → tyK k0 = T) → KindOk h ks (tuples' b)
theorem heads_of {h : Heap} : ∀ {ks : List NestedKey} {fs : List (Option Value)}, Paired (Fst h) ks fs → (fs.all (·.isSome)) = true → ∃ hs us, fs = us.map some ∧ DAll h hs us ∧ (∀ k ∈ ks, ∃ k0 r, k = .tup (k0 :: r) ∧ k0 ∈ hs)
  | [], _, x, _ => by cases x; exact ⟨[], [], rfl, .nil, fun k hk => nomatch hk⟩
  | k :: ks, _, x, ha => by
    cases x with
    | cons p r =>
      rw [List.all_cons, Bool.and_eq_true] at ha
      obtain ⟨hs, us, e1, e2, e3⟩ := heads_of r ha.2
      cases p with
      | num i => simp at ha
      | text i => simp at ha
      | emp => simp at ha
      | @tup k0 ks0 u q =>
        refine ⟨k0 :: hs, u :: us, by rw [e1]; rfl, .cons q e2, fun k hk => ?_⟩
        rcases List.mem_cons.mp hk with e | e
        · exact ⟨k0, ks0, e, List.mem_cons_self⟩
        · obtain ⟨a, b, c, d⟩ := e3 k e
          exact ⟨a, b, c, List.mem_cons_of_mem _ d⟩
theorem kind_run (M : Model) (A : Around) {s : Shared} {ks : List NestedKey} {vs : List Value} (x : DAll s.heap ks vs) : ∃ κ, KindOk s.heap ks κ ∧ ∀ (Q : SortKind → Shared → Prop) (E : Value → Shared → Prop), Q κ s → wpAny M A (keyKind' vs.toArray) Q E s := by
  obtain ⟨fs, hfs, rfs⟩ := firsts_run M A x
  by_cases hall : fs.all (·.isSome) = true
  · obtain ⟨hs, us, e1, e2, e3⟩ := heads_of hfs hall
    refine ⟨tuples' ((oneTy hs).any (· != .type "tuple")), .tup _ (fun k hk => by obtain ⟨a, b, c, _⟩ := e3 k hk; exact ⟨a, b, c⟩) (fun hb => ?_), fun Q E q => ?_⟩
    · cases h : oneTy hs with
      | none => rw [h] at hb; simp at hb
      | some t =>
        rw [h] at hb
        have all := oneTy_some h
        cases hs with
        | nil => simp [oneTy] at h
        | cons k0 hs =>
          have e := all k0 List.mem_cons_self
          refine ⟨tyK k0, fun z => ?_, fun k hk k1 r hk1 => ?_⟩
          · rw [← e, z] at hb
            exact absurd hb (by show ¬ (Value.type "tuple" != Value.type "tuple") = true; decide +kernel)
          · obtain ⟨a, b, c, d⟩ := e3 k hk
            rw [hk1] at c
            injection c with c
            injection c with c1 c2
            subst c1
            exact Value.type.inj ((all _ d).trans e.symm)
    · rw [keyKind'_eq, List.mapM_toArray, map_eq_pure_bind]
      refine wpAny_bind (wpAny_bind (rfs _ _ (wpAny_pure ?_)))
      have hall' : (fs.toArray.all fun x => x.isSome) = true := by simpa using hall
      rw [if_pos hall']
      refine wpAny_bind (wpAny_rule ?_)
      have hfm : (fs.toArray.filterMap id) = us.toArray := by rw [e1]; simp
      rw [hfm]
      exact wpAny_bind (oneTy_run e2 (wpAny_pure q))
  · by_cases h0 : ((fs.toArray[0]?).bind id).isSome = true
    · refine ⟨general', .gen, fun Q E q => ?_⟩
      rw [keyKind'_eq, List.mapM_toArray, map_eq_pure_bind]
      refine wpAny_bind (wpAny_bind (rfs _ _ (wpAny_pure ?_)))
      have hall' : ¬ (fs.toArray.all fun x => x.isSome) = true := by simpa using hall
      rw [if_neg hall', if_pos h0]
      exact wpAny_pure q
    · cases h1 : oneTy ks with
      | none =>
        refine ⟨general', .gen, fun Q E q => ?_⟩
        rw [keyKind'_eq, List.mapM_toArray, map_eq_pure_bind]
        refine wpAny_bind (wpAny_bind (rfs _ _ (wpAny_pure ?_)))
        have hall' : ¬ (fs.toArray.all fun x => x.isSome) = true := by simpa using hall
        rw [if_neg hall', if_neg h0]
        refine wpAny_bind (oneTy_run x ?_)
        rw [h1]
        exact wpAny_pure q
      | some t =>
        refine ⟨oneType', .one ?_, fun Q E q => ?_⟩
        · have all := oneTy_some h1
          cases ks with
          | nil => simp [oneTy] at h1
          | cons k0 ks =>
            have e := all k0 List.mem_cons_self
            exact ⟨tyK k0, fun k hk => Value.type.inj ((all _ hk).trans e.symm)⟩
        · rw [keyKind'_eq, List.mapM_toArray, map_eq_pure_bind]
          refine wpAny_bind (wpAny_bind (rfs _ _ (wpAny_pure ?_)))
          have hall' : ¬ (fs.toArray.all fun x => x.isSome) = true := by simpa using hall
          rw [if_neg hall', if_neg h0]
          refine wpAny_bind (oneTy_run x ?_)
          rw [h1]
          exact wpAny_pure q
end

/-! ### what sort asks of two items -/
section
variable {prog : Program} {w : World} {A : Around} {E : Value → Shared → Prop} {s : Shared}
theorem one_lt {x y : NestedKey} {u v : Value} {Q : Bool → Shared → Prop} (b : Bool) (hx : DIs s.heap x u) (hy : DIs s.heap y v) (hc : cmK x y = true) (hu : A.units + x.depth < cLine) (h : Q (ltK x y) s) : wpAny (model prog w) A (oneLt' b u v) Q E s := by
  cases b with
  | false => exact PySem.W.kat_one _ _ (rc_lt _ x y A s u v (Nat.le_refl _) hx hy hc hu prog w _ _ h)
  | true =>
    cases hx with
    | int i t =>
      cases hy with
      | int j t' => exact oneLt_int h
      | text _ _ => simp [cmK] at hc
      | tup _ _ => simp [cmK] at hc
    | text i t =>
      cases hy with
      | int j t' => simp [cmK] at hc
      | text _ _ => exact oneLt_str h
      | tup _ _ => simp [cmK] at hc
    | @tup a vs xs p r =>
      cases hy with
      | int j t' => simp [cmK] at hc
      | text _ _ => simp [cmK] at hc
      | @tup b vs' ys p' r' =>
        simp only [NestedKey.depth] at hu
        simp only [cmK] at hc
        have l1 : vs.size = xs.length := by simpa using r.length
        have l2 : vs'.size = ys.length := by simpa using r'.length
        have hu1 : A.in1.units = A.units + 1 := rfl
        rw [oneLt'_eq]
        simp only [if_true]
        refine wpAny_bind (wpAny_cRoomFor (by omega) ?_)
        obtain ⟨⟨cls, dd, data, sl⟩, ho, hcl, n, hd⟩ := id p
        obtain ⟨⟨cls2, dd2, data2, sl2⟩, ho2, hc2, n2, hd2⟩ := id p'
        simp only at hcl hd hc2 hd2
        subst hcl hd hc2 hd2
        refine wpAny_bind (wpAny_callSpecialIfBound?_slot ⟨_, ho, rfl⟩ F.slot_tuple_lt (call_meets F.slot_tuple_lt ⟨_, ho, rfl⟩ F.entry_tuple_lt (F.args_tuple_lt_2 _ _)
          (Ob.tuple_ltAt a b vs vs' n n2 dd dd2 sl sl2 (kEq xs ys) (kLt xs ys)) ⟨ho, ho2, fun j h1 h2 => ?_, fun j h1 h2 _ => ?_, ?_⟩))
        · have q1 := r.get j (by simpa using h1) (by omega)
          have q2 := r'.get j (by simpa using h2) (by omega)
          have m1 := depth_mem (List.getElem_mem (h := show j < xs.length by omega))
          have := eqAt_key xs[j] ys[j] A.in1 s _ _ (q1.nested _ _) (q2.nested _ _) (by omega)
          simp only [kEq, List.getD_eq_getElem?_getD, List.getElem?_eq_getElem (show j < xs.length by omega), List.getElem?_eq_getElem (show j < ys.length by omega), Option.getD_some]
          simpa using this
        · have q1 := r.get j (by simpa using h1) (by omega)
          have q2 := r'.get j (by simpa using h2) (by omega)
          have m1 := depth_mem (List.getElem_mem (h := show j < xs.length by omega))
          have := rc_lt _ xs[j] ys[j] A.in1 s _ _ (Nat.le_refl _) q1 q2 (cmL_get hc j _ _) (by omega)
          simp only [kLt, List.getD_eq_getElem?_getD, List.getElem?_eq_getElem (show j < xs.length by omega), List.getElem?_eq_getElem (show j < ys.length by omega), Option.getD_some]
          simpa using this
        · rw [l1, l2, lexAt_lt]
          exact wpAny_truthy_bool (by simpa only [ltK] using h)
theorem kat_run : ∀ (xs ys : List NestedKey) (us vs : List Value) (b fin : Bool) (i : Nat) (Q : Bool → Shared → Prop), DAll s.heap xs us → DAll s.heap ys vs → cmL xs ys = true → A.units + NestedKey.depthAll xs < cLine →
    fin = decide (xs.length < ys.length) → Q (ltL xs ys) s → PySem.W.KatLex prog w A b fin Q (us.zip vs) i s
  | [], ys, _, vs, b, fin, i, Q, hx, hy, hc, hu, hf, q => by
    cases hx
    rw [List.zip_nil_left]
    refine PySem.W.kat_nil ?_
    rw [hf]
    cases ys with
    | nil => simpa [ltL] using q
    | cons y ys => simpa [ltL] using q
  | x :: xs, [], _, _, b, fin, i, Q, hx, hy, hc, hu, hf, q => by
    cases hy
    rw [List.zip_nil_right]
    refine PySem.W.kat_nil ?_
    rw [hf]
    simpa [ltL] using q
  | x :: xs, y :: ys, _, _, b, fin, i, Q, hx, hy, hc, hu, hf, q => by
    cases hx with
    | cons p r =>
      cases hy with
      | cons p' r' =>
        rw [cmL, Bool.and_eq_true] at hc
        simp only [NestedKey.depthAll] at hu
        rw [List.zip_cons_cons]
        refine PySem.W.kat_cons (eqAt_key x y A s _ _ (p.nested _ _) (p'.nested _ _) (by omega) prog w _ _ ?_)
        by_cases e : x = y
        · subst e
          rw [NestedKey.beq_self]
          simp only [ltL, if_true] at q
          exact PySem.W.kat_yes (kat_run xs ys _ _ b fin (i + 1) Q r r' hc.2 (by omega) (by rw [hf]; simp) q)
        · have hb : NestedKey.beq x y = false := by
            cases h : NestedKey.beq x y with
            | false => rfl
            | true => exact absurd (NestedKey.eq_of_beq x y h) e
          rw [hb]
          simp only [ltL, if_neg e] at q
          exact PySem.W.kat_no (one_lt _ p p' hc.1 (by omega) q)
/-- the key of a value -/
noncomputable def keyOf (h : Heap) (v : Value) : NestedKey := open Classical in if x : ∃ k, NestedIs h k v then x.choose else .none
theorem keyOf_eq {h : Heap} {k : NestedKey} {v : Value} (x : DIs h k v) : keyOf h v = k := by
  have e : ∃ k, NestedIs h k v := ⟨k, x.nested _ _⟩
  unfold keyOf
  rw [dif_pos e]
  exact NestedIs.inj _ _ _ e.choose_spec (x.nested _ _)
theorem swo_key (h : Heap) : SrtO.Swo fun v u => ltK (keyOf h v) (keyOf h u) := ⟨fun x y => ltK_swo.asym _ _, fun x y z => ltK_swo.tr _ _ _⟩
theorem cmp_ok {h0 : Heap} {ks : List NestedKey} {vs : List Value} {κ : SortKind} (x : DAll s.heap ks vs) (h0k : ∀ v ∈ vs, ∀ k, DIs s.heap k v → keyOf h0 v = k) (K : KindOk s.heap ks κ) (hc : ∀ a ∈ ks, ∀ b ∈ ks, cmK a b = true) (hu : A.units + NestedKey.depthAll ks < cLine) :
    SrtO.Cmp prog w A s κ (fun p => p.1 ∈ vs) (SrtO.lt2 fun v u => ltK (keyOf h0 v) (keyOf h0 u)) := by
  intro p q hp hq
  obtain ⟨a, ma, ha⟩ := x.mem _ hp
  obtain ⟨b, mb, hb⟩ := x.mem _ hq
  have e : SrtO.lt2 (fun v u => ltK (keyOf h0 v) (keyOf h0 u)) p q = ltK a b := by
    show ltK (keyOf h0 p.1) (keyOf h0 q.1) = _
    rw [h0k _ hp a ha, h0k _ hq b hb]
  rw [e]
  have c := hc a ma b mb
  have d := depth_mem ma
  have fin : s = s ∧ ltK a b = ltK a b := ⟨rfl, rfl⟩
  cases K with
  | gen => exact one_lt false ha hb c (by omega) fin
  | one _ => exact one_lt true ha hb c (by omega) fin
  | tup bb h1 h2 =>
    obtain ⟨k0, r0, e0⟩ := h1 a ma
    obtain ⟨k1, r1, e1⟩ := h1 b mb
    subst e0 e1
    generalize p.1 = u at ha hp e ⊢
    generalize q.1 = v at hb hq e ⊢
    cases ha with
    | tup pa ra =>
      cases hb with
      | tup pb rb =>
        obtain ⟨o, ho, _, n, hd⟩ := pa
        obtain ⟨o', ho', _, n', hd'⟩ := pb
        simp only [NestedKey.depth] at d
        simp only [cmK] at c
        refine PySem.W.kat_lt ho hd ho' hd' (kat_run _ _ _ _ bb _ 0 _ ra rb c (by omega) ?_ (by simp [ltK]))
        have l1 := ra.length
        have l2 := rb.length
        simp only [Array.length_toList] at l1 l2
        rw [l1, l2]
/-- sorted(l) of nested data, all alike -/
theorem sorted_keys {l : Addr} {ks : List NestedKey} {vs : List Value} {Q : Value → Shared → Prop} (hl : s.heap.IsList l vs.toArray) (hz : vs.length ≤ sizeLine) (x : DAll s.heap ks vs) (hc : ∀ a ∈ ks, ∀ b ∈ ks, cmK a b = true) (hu : A.units + 2 + NestedKey.depthAll ks < cLine)
    (h : ∀ (h' : Heap) (d : Addr) (out : List Value), SrtO.Srtd (fun v u => ltK (keyOf s.heap v) (keyOf s.heap u)) out → out.Perm vs → (∀ b o, s.heap.get? b = some o → h'.get? b = some o) → s.heap.objs.size ≤ d → (∃ n, h'.get? d = some (seqObj "list" out.toArray n)) → Q (.ref d) { s with heap := h' }) :
    wpAny (model prog w) A (call (.builtin "sorted") [.ref l]) Q E s := by
  refine SrtO.sorted_ord (swo_key s.heap) hl hz (fun h2 h₁ a ha kk => ?_) fun out hs hb => ?_
  · intro h' keep
    have ne : ∀ b vs', s.heap.IsTuple b vs' → b ≠ a := fun b vs' ⟨o, ho, hc, _⟩ => (kk b o ho).1
    have xk : DAll h' ks vs := x.keep (fun b vs' ⟨o, ho, hcl, n, hd⟩ => ⟨o, keep b o (kk b o ho).1 (kk b o ho).2, hcl, n, hd⟩) _ _
    obtain ⟨κ, K, run⟩ := kind_run (model prog w) A.in1.in1 (s := { s with heap := h' }) xk
    refine ⟨κ, run, cmp_ok (s := { s with heap := h' }) xk (fun v hv k hk => ?_) K hc (by show A.units + 1 + 1 + _ < _; omega)⟩
    obtain ⟨k', mk, hk'⟩ := x.mem v hv
    have hk2 : DIs h' k' v := DIs.keep (fun b vs' ⟨o, ho, hcl, n, hd⟩ => ⟨o, keep b o (kk b o ho).1 (kk b o ho).2, hcl, n, hd⟩) _ _ hk'
    rw [keyOf_eq hk']
    exact NestedIs.inj _ _ _ (hk2.nested _ _) (hk.nested _ _)
  · exact h _ _ out hs hb.perm (fun b o e => sortedAll_old e) (Nat.le_succ _) (sortedAll_at s.heap vs out.toArray)
end
end HH
namespace HH
open PySem PySem.Spec PyProof.Rows L2 PySem.SeqAt

/-! ### nested data over the tracked heap -/
mutual
def IsK (K : PySem.W.Frag) (H : Hp) : NestedKey → V → Prop
  | .none, _ => False
  | .num i, v => v = .int i
  | .text x, v => v = .str x
  | .tup ks, v => ∃ a vs, v = .ref a ∧ SqT K H a vs ∧ IsKs K H ks vs
def IsKs (K : PySem.W.Frag) (H : Hp) : List NestedKey → List V → Prop
  | [], vs => vs = []
  | k :: ks, vs => ∃ v r, vs = v :: r ∧ IsK K H k v ∧ IsKs K H ks r
end
/-- tuples stay -/
def Tup (K : PySem.W.Frag) (H H' : Hp) : Prop := ∀ a xs, SqT K H a xs → SqT K H' a xs
theorem same_tup {K : PySem.W.Frag} {H H' : Hp} (e : Same H H') : Tup K H H' := fun a xs h => by
  rcases h with (h | ⟨o, h⟩) | h
  · exact .inl (.inl (e _ _ h))
  · exact .inl (.inr ⟨o, e _ _ h⟩)
  · exact .inr h
section
variable {K : PySem.W.Frag} {H H' : Hp}
mutual
theorem IsK.keep (t : Tup K H H') : ∀ (k : NestedKey) (v : V), IsK K H k v → IsK K H' k v
  | .none, _, h => h
  | .num i, v, h => h
  | .text x, v, h => h
  | .tup ks, v, ⟨a, vs, e, s, r⟩ => ⟨a, vs, e, t _ _ s, IsKs.keep t ks vs r⟩
theorem IsKs.keep (t : Tup K H H') : ∀ (k : List NestedKey) (v : List V), IsKs K H k v → IsKs K H' k v
  | [], _, h => h
  | k :: ks, v, ⟨x, r, e, a, b⟩ => ⟨x, r, e, IsK.keep t k x a, IsKs.keep t ks r b⟩
end
theorem IsKs.length : ∀ {ks : List NestedKey} {vs : List V}, IsKs K H ks vs → vs.length = ks.length
  | [], _, h => by rw [show _ = [] from h]; rfl
  | k :: ks, _, ⟨x, r, e, a, b⟩ => by rw [e, List.length_cons, List.length_cons, IsKs.length b]
theorem IsKs.get : ∀ {ks : List NestedKey} {vs : List V} {i : Nat} {k : NestedKey}, IsKs K H ks vs → ks[i]? = some k → ∃ v, vs[i]? = some v ∧ IsK K H k v
  | [], _, i, k, h, e => by simp at e
  | k :: ks, _, 0, k', ⟨x, r, e, a, b⟩, e' => by
    subst e
    obtain rfl : k = k' := by simpa using e'
    exact ⟨x, rfl, a⟩
  | k :: ks, _, i + 1, k', ⟨x, r, e, a, b⟩, e' => by
    subst e
    exact IsKs.get (i := i) b (by simpa using e')
theorem IsKs.app : ∀ {ks ls : List NestedKey} {vs us : List V}, IsKs K H ks vs → IsKs K H ls us → IsKs K H (ks ++ ls) (vs ++ us)
  | [], _, _, _, h, g => by rw [show _ = [] from h]; exact g
  | k :: ks, _, _, _, ⟨x, r, e, a, b⟩, g => ⟨x, r ++ _, by rw [e]; rfl, a, IsKs.app b g⟩
end
section
variable {X : Cx} {pins : List (Addr × Obj)} {σ : L2.St} {H : Hp} {s : Shared}
theorem isTup_iff {h : Heap} {a : Addr} {vs : Array Value} (p : IsTup h a vs) : h.IsTuple a vs := p
mutual
theorem IsK.dis (I : Inv X pins σ H s) : ∀ (k : NestedKey) (v : V) (u : Value), IsK X.K H k v → RelV v u → DIs s.heap k u
  | .none, _, _, h, _ => h.elim
  | .num i, v, u, h, r => by
    cases (show v = .int i from h)
    obtain ⟨t, rfl⟩ := (show ∃ t, u = Value.int i t from r)
    exact .int i t
  | .text x, v, u, h, r => by
    cases (show v = .str x from h)
    obtain ⟨t, rfl⟩ := (show ∃ t, u = Value.str x t from r)
    exact .text x t
  | .tup ks, v, u, ⟨a, vs, e, sq, rk⟩, r => by
    subst e
    cases (show u = Value.ref a from r)
    obtain ⟨its, rv, p, _⟩ := I.tuple sq
    exact .tup (isTup_iff p) (by simpa using IsKs.dis I ks vs its rk rv)
theorem IsKs.dis (I : Inv X pins σ H s) : ∀ (k : List NestedKey) (v : List V) (u : List Value), IsKs X.K H k v → Vals v u → DAll s.heap k u
  | [], _, _, h, r => by cases (show _ = [] from h); cases r; exact .nil
  | k :: ks, _, _, ⟨x, r', e, a, b⟩, r => by
    subst e
    cases r with
    | cons r1 r2 => exact .cons (IsK.dis I k x _ a r1) (IsKs.dis I ks r' _ b r2)
end
theorem IsK.key (I : Inv X pins σ H s) {k : NestedKey} {b : Addr} (h : IsK X.K H k (.ref b)) (hd : k.depth ≤ 8) : (nestedKind X.prog X.w).is s.heap k b :=
  ⟨(IsK.dis I k _ _ h rfl).nested _ _, hd⟩
end

/-! ### dicts whose keys are nested data: xs are keys, where their tuples stand, values -/
abbrev NX := List (NestedKey × Addr × V)
def NdRel (xs : NX) (ys : List (NestedKey × Addr × Value)) : Prop := Paired (fun (p : NestedKey × Addr × V) (q : NestedKey × Addr × Value) => p.1 = q.1 ∧ p.2.1 = q.2.1 ∧ RelV p.2.2 q.2.2) xs ys
def NdO (P : Program) (w : World) (d : Addr) (xs : NX) : HO := .ext fun h => xs.length ≤ sizeLine ∧ (d == sysModules) = false ∧ ∃ ys, NdRel xs ys ∧
  ∃ o es ep, h.get? d = some o ∧ o.ExactDict ∧ o.data = .dict es ep ∧ es.toList = ys.map (entryOfKey (nestedKind P w)) ∧ (ys.map (·.1)).Nodup
def kvX (xs : NX) : List (NestedKey × V) := xs.map fun x => (x.1, x.2.2)
def NdAt (P : Program) (w : World) (K : PySem.W.Frag) (H : Hp) (d : Addr) (kvs : List (NestedKey × V)) : Prop :=
  ∃ xs : NX, H d = some (NdO P w d xs) ∧ kvX xs = kvs ∧ ∀ x ∈ xs, IsK K H x.1 (.ref x.2.1) ∧ x.1.depth ≤ 8
def putX (xs : NX) (k : NestedKey) (b : Addr) (v : V) : NX :=
  if (valV (kvX xs) k).isSome = true then xs.map (fun x => if x.1 = k then (x.1, x.2.1, v) else x) else xs ++ [(k, b, v)]
theorem kvX_put (xs : NX) (k : NestedKey) (b : Addr) (v : V) : kvX (putX xs k b v) = putK (kvX xs) k v := by
  unfold putX putK
  rw [valV_any]
  by_cases h : (valV (kvX xs) k).isSome = true
  · rw [if_pos h, if_pos h]
    unfold kvX
    rw [List.map_map, List.map_map]
    refine List.map_congr_left fun x _ => ?_
    by_cases e : x.1 = k <;> simp [e]
  · rw [if_neg h, if_neg h]
    simp [kvX]
theorem putX_len (xs : NX) (k : NestedKey) (b : Addr) (v : V) : (putX xs k b v).length ≤ xs.length + 1 := by
  unfold putX
  split
  · rw [List.length_map]; omega
  · rw [List.length_append]; simp
theorem mem_putX {xs : NX} {k : NestedKey} {b : Addr} {v : V} {x : NestedKey × Addr × V} (h : x ∈ putX xs k b v) : (∃ y ∈ xs, x.1 = y.1 ∧ x.2.1 = y.2.1) ∨ (x.1 = k ∧ x.2.1 = b) := by
  unfold putX at h
  split at h
  · obtain ⟨y, hy, e⟩ := List.mem_map.mp h
    refine .inl ⟨y, hy, ?_⟩
    subst e
    split <;> exact ⟨rfl, rfl⟩
  · rcases List.mem_append.mp h with h | h
    · exact .inl ⟨x, h, rfl, rfl⟩
    · rw [List.mem_singleton] at h
      subst h
      exact .inr ⟨rfl, rfl⟩
theorem NdRel.val {xs : NX} {ys : List (NestedKey × Addr × Value)} (r : NdRel xs ys) (k : NestedKey) : RelO (valV (kvX xs) k) ((atKey ys k).map (·.2)) := by
  unfold NdRel at r
  induction r with
  | nil => exact True.intro
  | @cons p q ps qs h t ih =>
    obtain ⟨h1, _, h2⟩ := h
    show RelO (valV ((p.1, p.2.2) :: kvX ps) k) _
    by_cases e : p.1 = k
    · have e' : q.1 = k := h1.symm.trans e
      have b : atKey (q :: qs) k = some q.2 := by simp [atKey, List.find?_cons, e']
      rw [valV_pos (p := (p.1, p.2.2)) e, b]; exact h2
    · have e' : ¬ q.1 = k := fun z => e (h1.trans z)
      have b : atKey (q :: qs) k = atKey qs k := by simp [atKey, List.find?_cons, e']
      rw [valV_neg (p := (p.1, p.2.2)) e, b]; exact ih
theorem NdRel.repl {xs : NX} {ys : List (NestedKey × Addr × Value)} (r : NdRel xs ys) (k : NestedKey) {v : V} {u : Value} (rv : RelV v u) :
    NdRel (xs.map fun x => if x.1 = k then (x.1, x.2.1, v) else x) (ys.map (putAt k u)) := by
  unfold NdRel at r ⊢
  induction r with
  | nil => exact .nil
  | @cons p q ps qs h t ih =>
    rw [List.map_cons, List.map_cons]
    refine .cons ?_ ih
    obtain ⟨h1, h2, h3⟩ := h
    unfold putAt
    by_cases e : p.1 = k
    · rw [if_pos e, if_pos (h1.symm.trans e)]; exact ⟨h1, h2, rv⟩
    · rw [if_neg e, if_neg (fun z => e (h1.trans z))]; exact ⟨h1, h2, h3⟩
theorem NdRel.put {xs : NX} {ys : List (NestedKey × Addr × Value)} (r : NdRel xs ys) (k : NestedKey) (b : Addr) {v : V} {u : Value} (rv : RelV v u) : NdRel (putX xs k b v) (storedH ys k b u) := by
  have e : (valV (kvX xs) k).isSome = (atKey ys k).isSome := by
    rw [(r.val k).isSome_eq, Option.isSome_map]
  unfold putX storedH
  rw [e]
  by_cases q : (atKey ys k).isSome = true
  · rw [if_pos q, if_pos q]; exact r.repl k rv
  · rw [if_neg q, if_neg q]; exact Paired.snoc r ⟨rfl, rfl, rv⟩
def dropX (xs : NX) (k : NestedKey) : NX := xs.filter fun x => decide (x.1 ≠ k)
theorem kvX_drop (xs : NX) (k : NestedKey) : kvX (dropX xs k) = dropK (kvX xs) k := by
  unfold kvX dropX dropK
  rw [List.filter_map]
  rfl
theorem NdRel.drop {xs : NX} {ys : List (NestedKey × Addr × Value)} (r : NdRel xs ys) (k : NestedKey) : NdRel (dropX xs k) (withoutH ys k) := by
  unfold NdRel at r ⊢
  unfold dropX withoutH
  induction r with
  | nil => exact .nil
  | @cons p q ps qs h t ih =>
    obtain ⟨h1, h2⟩ := h
    rw [List.filter_cons, List.filter_cons]
    by_cases e : p.1 = k
    · have a : ¬ decide (p.1 ≠ k) = true := by simp [e]
      have b : ¬ decide (q.1 ≠ k) = true := by simp [h1.symm.trans e]
      rw [if_neg a, if_neg b]; exact ih
    · have e' : ¬ q.1 = k := fun z => e (h1.trans z)
      have a : decide (p.1 ≠ k) = true := by simp [e]
      have b : decide (q.1 ≠ k) = true := by simp [e']
      rw [if_pos a, if_pos b]; exact .cons ⟨h1, h2⟩ ih
theorem NdRel.length {xs : NX} {ys : List (NestedKey × Addr × Value)} (r : NdRel xs ys) : xs.length = ys.length := Paired.length r
theorem NdRel.keys {xs : NX} {ys : List (NestedKey × Addr × Value)} (r : NdRel xs ys) : xs.map (·.1) = ys.map (·.1) := by
  unfold NdRel at r
  induction r with
  | nil => rfl
  | cons h t ih => rw [List.map_cons, List.map_cons, ih, h.1]

section
variable {X : Cx} {pins : List (Addr × Obj)} {σ : L2.St} {H : Hp} {s : Shared} {d : Addr} {xs : NX} {A : Around} {E : Value → Shared → Prop}
theorem nd_of (I : Inv X pins σ H s) (e : H d = some (NdO X.prog X.w d xs)) (hk : ∀ x ∈ xs, IsK X.K H x.1 (.ref x.2.1) ∧ x.1.depth ≤ 8) :
    xs.length ≤ sizeLine ∧ (d == sysModules) = false ∧ ∃ ys, NdRel xs ys ∧ s.heap.DictOfH (nestedKind X.prog X.w) d ys := by
  obtain ⟨⟨z, y, ys, r, o, es, ep, h1, h2, h3, h4, h5⟩, _⟩ := (show ObjOk X.prog X.w H s.heap d (NdO X.prog X.w d xs) from I.hok d _ e)
  refine ⟨z, y, ys, r, o, es, ep, h1, h2, h3, h4, fun q hq => ?_, h5⟩
  have all : ∀ {l : NX} {m : List (NestedKey × Addr × Value)}, NdRel l m → (∀ x ∈ l, IsK X.K H x.1 (.ref x.2.1) ∧ x.1.depth ≤ 8) → ∀ q ∈ m, (nestedKind X.prog X.w).is s.heap q.1 q.2.1 := by
    intro l m r
    unfold NdRel at r
    induction r with
    | nil => intro _ q hq; exact nomatch hq
    | @cons p q ps qs h t ih =>
      intro hl x hx
      rcases List.mem_cons.mp hx with e | hx
      · subst e
        obtain ⟨a, b⟩ := hl p List.mem_cons_self
        rw [← h.1, ← h.2.1]
        exact a.key I b
      · exact ih (fun y hy => hl y (List.mem_cons_of_mem _ hy)) x hx
  exact all r hk q hq
theorem nd_new {H' : Hp} {h' : Heap} {xs : NX} {ys : List (NestedKey × Addr × Value)} (z : xs.length ≤ sizeLine) (hd : (d == sysModules) = false) (r : NdRel xs ys) (dd : h'.DictOfH (nestedKind X.prog X.w) d ys) : ObjOk X.prog X.w H' h' d (NdO X.prog X.w d xs) := by
  obtain ⟨o, es, ep, h1, h2, h3, h4, _, h5⟩ := dd
  refine ⟨⟨z, hd, ys, r, o, es, ep, h1, h2, h3, h4, h5⟩, ⟨o, h1⟩, ?_⟩
  rintro g1 g2 ⟨z, hd, ys, r, o, es, ep, h1, h⟩ k
  exact ⟨z, hd, ys, r, o, es, ep, k _ h1, h⟩
theorem room_nd (hu : A.units + 20 < cLine) : (nestedKind X.prog X.w).room A.in1 := by show A.units + 1 + 8 < cLine; omega
theorem nd_write {h' : Heap} {t' : Nat} {xs' : NX} {ys' : List (NestedKey × Addr × Value)} (I : Inv X pins σ H s) (e : H d = some (NdO X.prog X.w d xs)) (hs : Heap.SameBut d s.heap h') (z : xs'.length ≤ sizeLine) (hd : (d == sysModules) = false)
    (r : NdRel xs' ys') (dd : h'.DictOfH (nestedKind X.prog X.w) d ys') : Inv X pins σ (upd H d (NdO X.prog X.w d xs')) { s with heap := h', toks := t' } :=
  d_write I (by rw [e]; exact True.intro) hs (let ⟨q, _, _, hq, _⟩ := dd; ⟨q, hq⟩) (nd_new z hd r dd)
end
/-- the keys' tuples stay when the dict changes -/
theorem tup_upd {K : PySem.W.Frag} {H : Hp} {d : Addr} {o u : HO} (e : H d = some o) (h1 : ∀ xs, o ≠ .tup xs) (h2 : ∀ ob xs, o ≠ .frz ob (.tup xs)) : Tup K H (upd H d u) := fun a xs h => by
  rcases h with (h | ⟨ob, h⟩) | h
  · exact .inl (.inl (by rw [upd_ne (ne_of h e (fun z => h1 xs z.symm))]; exact h))
  · exact .inl (.inr ⟨ob, by rw [upd_ne (ne_of h e (fun z => h2 ob xs z.symm))]; exact h⟩)
  · exact .inr h
theorem tup_new {K : PySem.W.Frag} {H : Hp} {d : Addr} {u : HO} (e : H d = none) : Tup K H (upd H d u) := fun a xs h => by
  rcases h with (h | ⟨ob, h⟩) | h
  · exact .inl (.inl (by rw [upd_ne (ne_of_none h e)]; exact h))
  · exact .inl (.inr ⟨ob, by rw [upd_ne (ne_of_none h e)]; exact h⟩)
  · exact .inr h
theorem Tup.trans {K : PySem.W.Frag} {H H1 H2 : Hp} (a : Tup K H H1) (b : Tup K H1 H2) : Tup K H H2 := fun x xs h => b x xs (a x xs h)
theorem NdAt.keys_nodup {X : Cx} {pins : List (Addr × Obj)} {σ : L2.St} {H : Hp} {s : Shared} {d : Addr} {kvs : List (NestedKey × V)} (I : Inv X pins σ H s) (n : NdAt X.prog X.w X.K H d kvs) : (kvs.map (·.1)).Nodup := by
  obtain ⟨xs, e, rfl, hk⟩ := n
  obtain ⟨z, hd, ys, r, o, es, ep, _, _, _, _, _, nd⟩ := nd_of I e hk
  unfold kvX
  rw [List.map_map, show ((fun x : NestedKey × V => x.1) ∘ fun x : NestedKey × Addr × V => (x.1, x.2.2)) = fun x => x.1 from rfl, r.keys]
  exact nd
end HH
namespace HH
open PySem PySem.Spec PyProof.Rows L2 PySem.SeqAt

section
variable {X : Cx} {pins : List (Addr × Obj)} {σ : L2.St} {H : Hp} {s : Shared} {d : Addr} {kvs : List (NestedKey × V)} {k : NestedKey} {y v : V} {u r : Value} {A : Around} {E : Value → Shared → Prop}
abbrev Nd (X : Cx) (H : Hp) (d : Addr) (kvs : List (NestedKey × V)) : Prop := NdAt X.prog X.w X.K H d kvs
/-- y is the key k: a tuple -/
def KeyAt (K : PySem.W.Frag) (H : Hp) (k : NestedKey) (y : V) : Prop := ∃ b, y = .ref b ∧ IsK K H k y ∧ k.depth ≤ 8
theorem nd_type (I : Inv X pins σ H s) (n : Nd X H d kvs) : s.TypeIs (.ref d) "dict" ∧ (∀ b, Value.ref d = .ref b → ∃ ob, s.heap.get? b = some ob ∧ ob.dict = none) ∧ (d == sysModules) = false := by
  obtain ⟨xs, e, _, hk⟩ := n
  obtain ⟨_, hd, ys, _, dd⟩ := nd_of I e hk
  refine ⟨dd.typeIs, fun b q => ?_, hd⟩
  cases q
  obtain ⟨ob, _, _, h1, h2, _⟩ := dd
  exact ⟨ob, h1, h2.2.1⟩
theorem nd_getItem {Q : Value → Shared → Prop} (hu : A.units + 20 < cLine) (I : Inv X pins σ H s) (n : Nd X H d kvs) (hy : KeyAt X.K H k y) (l : valV kvs k = some v) (ry : RelV y u) (h : ∀ w' s', Inv X pins σ H s' → RelV v w' → Q w' s') :
    wpAny (model X.prog X.w) A (getItem (.ref d) u) Q E s := by
  obtain ⟨xs, e, rfl, hk⟩ := n
  obtain ⟨b, rfl, ik, dep⟩ := hy
  cases (show u = Value.ref b from ry)
  obtain ⟨_, _, ys, rel, dd⟩ := nd_of I e hk
  obtain ⟨w', hw, rw'⟩ := RelO.some_of (v := v) (o := (atKey ys k).map (·.2)) (by rw [← l]; exact rel.val k)
  obtain ⟨p, hp, hp2⟩ := Option.map_eq_some_iff.mp hw
  refine wpAny_getItem_heap (room_nd hu) (ik.key I dep) dd hp ?_
  rw [hp2]
  exact h w' _ (I.tok _) rw'
theorem nd_get2 {Q : Value → Shared → Prop} {z : V} (hu : A.units + 20 < cLine) (I : Inv X pins σ H s) (n : Nd X H d kvs) (hy : KeyAt X.K H k y) (ry : RelV y u) (rz : RelV z r) (h : ∀ w' s', Inv X pins σ H s' → RelV ((valV kvs k).getD z) w' → Q w' s') :
    wpAny (model X.prog X.w) A (call (.builtin "dict.get") [.ref d, u, r]) Q E s := by
  obtain ⟨xs, e, rfl, hk⟩ := n
  obtain ⟨b, rfl, ik, dep⟩ := hy
  cases (show u = Value.ref b from ry)
  obtain ⟨_, hd, ys, rel, dd⟩ := nd_of I e hk
  refine call_meetsIn PySem.F.slot_dict_get dd.typeIs PySem.F.entry_dict_get (PySem.F.args_dict_get_3 _ _ _) (meetsH_dict_get_default (nestedKind X.prog X.w) d b hd r) ⟨room_nd hu, k, ys, ik.key I dep, dd, h _ _ (I.tok _) ?_⟩
  exact (rel.val k).getD rz
theorem nd_in {Q : Value → Shared → Prop} (hu : A.units + 20 < cLine) (I : Inv X pins σ H s) (n : Nd X H d kvs) (hy : KeyAt X.K H k y) (ry : RelV y u) (h : ∀ s', Inv X pins σ H s' → Q (.bool (valV kvs k).isSome) s') :
    wpAny (model X.prog X.w) A (compareOp .In u (.ref d)) Q E s := by
  obtain ⟨xs, e, rfl, hk⟩ := n
  obtain ⟨b, rfl, ik, dep⟩ := hy
  cases (show u = Value.ref b from ry)
  obtain ⟨_, hd, ys, rel, dd⟩ := nd_of I e hk
  refine wpAny_in_heap (room_nd hu) (ik.key I dep) hd dd ?_
  rw [show (atKey ys k).isSome = (valV (kvX xs) k).isSome by rw [(rel.val k).isSome_eq, Option.isSome_map]]
  exact h _ (I.tok _)
theorem nd_notIn {Q : Value → Shared → Prop} (hu : A.units + 20 < cLine) (I : Inv X pins σ H s) (n : Nd X H d kvs) (hy : KeyAt X.K H k y) (ry : RelV y u) (h : ∀ s', Inv X pins σ H s' → Q (.bool (!(valV kvs k).isSome)) s') :
    wpAny (model X.prog X.w) A (compareOp .NotIn u (.ref d)) Q E s := by
  obtain ⟨xs, e, rfl, hk⟩ := n
  obtain ⟨b, rfl, ik, dep⟩ := hy
  cases (show u = Value.ref b from ry)
  obtain ⟨_, hd, ys, rel, dd⟩ := nd_of I e hk
  refine wpAny_notIn_heap (room_nd hu) (ik.key I dep) hd dd ?_
  rw [show (atKey ys k).isSome = (valV (kvX xs) k).isSome by rw [(rel.val k).isSome_eq, Option.isSome_map]]
  exact h _ (I.tok _)
/-- what a change leaves -/
def NdTo (P : Program) (w : World) (K : PySem.W.Frag) (H : Hp) (d : Addr) (kvs' : List (NestedKey × V)) (R : Hp → Prop) : Prop :=
  ∀ xs', NdAt P w K (upd H d (NdO P w d xs')) d kvs' → R (upd H d (NdO P w d xs'))
theorem nd_tup {P : Program} {w : World} {K : PySem.W.Frag} {xs : NX} {u : HO} (e : H d = some (NdO P w d xs)) : Tup K H (upd H d u) :=
  tup_upd e (fun _ z => nomatch z) (fun _ _ z => nomatch z)
theorem nd_put_at {xs : NX} (e : H d = some (NdO X.prog X.w d xs)) (hk : ∀ x ∈ xs, IsK X.K H x.1 (.ref x.2.1) ∧ x.1.depth ≤ 8) {b : Addr} (ik : IsK X.K H k (.ref b)) (dep : k.depth ≤ 8) (v : V) :
    Nd X (upd H d (NdO X.prog X.w d (putX xs k b v))) d (putK (kvX xs) k v) := by
  refine ⟨_, upd_same, kvX_put _ _ _ _, fun x hx => ?_⟩
  have t := nd_tup (K := X.K) (u := NdO X.prog X.w d (putX xs k b v)) e
  rcases mem_putX hx with ⟨z, hz, e1, e2⟩ | ⟨e1, e2⟩
  · rw [e1, e2]
    exact ⟨(hk z hz).1.keep t, (hk z hz).2⟩
  · rw [e1, e2]
    exact ⟨ik.keep t, dep⟩
theorem nd_setItem {Q : Unit → Shared → Prop} (hu : A.units + 20 < cLine) (I : Inv X pins σ H s) (n : Nd X H d kvs) (hy : KeyAt X.K H k y) (hl : kvs.length < sizeLine) (ry : RelV y u) (rv : RelV v r)
    (h : NdTo X.prog X.w X.K H d (putK kvs k v) fun H' => ∀ s', Inv X pins σ H' s' → Q () s') : wpAny (model X.prog X.w) A (setItem (.ref d) u r) Q E s := by
  obtain ⟨xs, e, rfl, hk⟩ := n
  obtain ⟨b, rfl, ik, dep⟩ := hy
  cases (show u = Value.ref b from ry)
  obtain ⟨z, hd, ys, rel, dd⟩ := nd_of I e hk
  have lx : (kvX xs).length = xs.length := List.length_map _
  have hz : ys.length ≤ sizeLine := by rw [← rel.length]; exact z
  refine wpAny_setItem_heap (hsz := hz) (room_nd hu) (ik.key I dep) dd fun h' dd' hs => h (putX xs k b v) (nd_put_at e hk ik dep v) _ (nd_write I e hs ?_ hd (rel.put k b rv) dd')
  have := putX_len xs k b v
  omega
theorem nd_dictSet {Q : Unit → Shared → Prop} (hu : A.units + 20 < cLine) (I : Inv X pins σ H s) (n : Nd X H d kvs) (hy : KeyAt X.K H k y) (hl : kvs.length < sizeLine) (ry : RelV y u) (rv : RelV v r)
    (h : NdTo X.prog X.w X.K H d (putK kvs k v) fun H' => ∀ s', Inv X pins σ H' s' → Q () s') : wpAny (model X.prog X.w) A (dictSet d u r) Q E s := by
  obtain ⟨xs, e, rfl, hk⟩ := n
  obtain ⟨b, rfl, ik, dep⟩ := hy
  cases (show u = Value.ref b from ry)
  obtain ⟨z, hd, ys, rel, dd⟩ := nd_of I e hk
  have lx : (kvX xs).length = xs.length := List.length_map _
  have hz : ys.length ≤ sizeLine := by rw [← rel.length]; exact z
  refine wpAny_dictSet_heap (hsz := hz) (by show A.units + 8 < cLine; omega) (ik.key I dep) dd fun h' dd' hs => h (putX xs k b v) (nd_put_at e hk ik dep v) _ (nd_write I e hs ?_ hd (rel.put k b rv) dd')
  have := putX_len xs k b v
  omega
theorem nd_pop {Q : Value → Shared → Prop} (hu : A.units + 20 < cLine) (I : Inv X pins σ H s) (n : Nd X H d kvs) (hy : KeyAt X.K H k y) (l : valV kvs k = some v) (ry : RelV y u)
    (h : NdTo X.prog X.w X.K H d (dropK kvs k) fun H' => ∀ w' s', Inv X pins σ H' s' → RelV v w' → Q w' s') : wpAny (model X.prog X.w) A (call (.builtin "dict.pop") [.ref d, u]) Q E s := by
  obtain ⟨xs, e, rfl, hk⟩ := n
  obtain ⟨b, rfl, ik, dep⟩ := hy
  cases (show u = Value.ref b from ry)
  obtain ⟨z, hd, ys, rel, dd⟩ := nd_of I e hk
  obtain ⟨w', hw, rw'⟩ := RelO.some_of (v := v) (o := (atKey ys k).map (·.2)) (by rw [← l]; exact rel.val k)
  obtain ⟨p, hp, hp2⟩ := Option.map_eq_some_iff.mp hw
  have hz : ys.length ≤ sizeLine := by rw [← rel.length]; exact z
  have at' : Nd X (upd H d (NdO X.prog X.w d (dropX xs k))) d (dropK (kvX xs) k) := ⟨_, upd_same, kvX_drop _ _, fun x hx => by
    have m := (List.mem_filter.mp hx).1
    exact ⟨(hk x m).1.keep (nd_tup e), (hk x m).2⟩⟩
  refine call_meetsIn PySem.F.slot_dict_pop dd.typeIs PySem.F.entry_dict_pop (PySem.F.args_dict_pop_2 _ _) (meetsH_dict_pop (knd := nestedKind X.prog X.w) (d := d) (a := b) hd [] (.inl rfl)) ⟨room_nd hu, k, ys, ik.key I dep, dd, hz, fun p' hp' h' dd' hs => ?_, fun hn => ?_⟩
  · rw [hp] at hp'
    cases hp'
    rw [hp2]
    exact h (dropX xs k) at' w' _ (nd_write I e hs (Nat.le_trans (List.length_filter_le _ _) z) hd (rel.drop k) dd') rw'
  · rw [hp] at hn; cases hn
theorem nd_len {Q : Value → Shared → Prop} (I : Inv X pins σ H s) (n : Nd X H d kvs) (h : ∀ t s', Inv X pins σ H s' → Q (.int kvs.length t) s') : wpAny (model X.prog X.w) A (call (.builtin "len") [.ref d]) Q E s := by
  obtain ⟨xs, e, rfl, hk⟩ := n
  obtain ⟨z, hd, ys, rel, dd⟩ := nd_of I e hk
  have lx : (kvX xs).length = ys.length := by rw [show (kvX xs).length = xs.length from List.length_map _, rel.length]
  rw [rel.length] at z
  have m : s.heap.DictKeyed (nestedKind X.prog X.w) d (pairsH ys) := ⟨ys, dd, rfl⟩
  have ln : (pairsH ys).length = ys.length := by simp [pairsH]
  refine PyProof.Rows.call_len_slot (n := ys.length) dd.typeIs F.slot_dict_len (fun Q' hq => len_keyed (kvs := pairsH ys) hd m (by rw [ln]; exact hq)) (by omega) (by rw [sizeLine_eq] at z; omega) ?_
  rw [← lx]
  exact h _ _ (I.tok _)
end

/-! ### the rules -/
def tNGet (P : Program) (w : World) (K : PySem.W.Frag) (td ty : TE) : TE := fun σ H Q => td σ H fun x H1 => ty σ H1 fun y H2 => ∃ d kvs k v, x = .ref d ∧ NdAt P w K H2 d kvs ∧ KeyAt K H2 k y ∧ valV kvs k = some v ∧ Q v H2
def tNGet2 (P : Program) (w : World) (K : PySem.W.Frag) (td ty tz : TE) : TE := fun σ H Q => td σ H fun x H1 => ∃ d, x = .ref d ∧ (∃ kvs, NdAt P w K H1 d kvs) ∧ ty σ H1 fun y H2 => tz σ H2 fun z H3 => ∃ kvs k, NdAt P w K H3 d kvs ∧ KeyAt K H3 k y ∧ Q ((valV kvs k).getD z) H3
def tNPop (P : Program) (w : World) (K : PySem.W.Frag) (td ty : TE) : TE := fun σ H Q => td σ H fun x H1 => ∃ d, x = .ref d ∧ (∃ kvs, NdAt P w K H1 d kvs) ∧ ty σ H1 fun y H2 => ∃ kvs k v, NdAt P w K H2 d kvs ∧ KeyAt K H2 k y ∧ valV kvs k = some v ∧ NdTo P w K H2 d (dropK kvs k) (Q v)
def rNIn (P : Program) (w : World) (K : PySem.W.Frag) (neg : Bool) : R2 := fun y x H Q => ∃ d kvs k, x = .ref d ∧ NdAt P w K H d kvs ∧ KeyAt K H k y ∧ Q (.bl (if neg = true then !(valV kvs k).isSome else (valV kvs k).isSome)) H
def sNPut (P : Program) (w : World) (K : PySem.W.Frag) (td ty tv : TE) : TS := fun D σ H => tv σ H fun v H1 => td σ H1 fun x H2 => ty σ H2 fun y H3 => ∃ d kvs k, x = .ref d ∧ NdAt P w K H3 d kvs ∧ KeyAt K H3 k y ∧ kvs.length < sizeLine ∧ NdTo P w K H3 d (putK kvs k v) (D.nx σ)
section
variable {X : Cx} {o i e f value : Expr} {pos pos' tpos apos cpos : Pos} {td ty tv tz : TE}
theorem pe_nget {P : Program} {w : World} {K : PySem.W.Frag} (hu : X.A.units + 20 < cLine) (ho : PE X o td) (hi : PE X i ty) (hs : NoSl i) (hX : X.prog = P ∧ X.w = w ∧ X.K = K := by exact ⟨rfl, rfl, rfl⟩) : PE X (.Subscript o i pos) (tNGet P w K td ty) := by
  obtain ⟨rfl, rfl, rfl⟩ := hX
  refine ⟨fun pins s σ H Q I h => ?_⟩
  refine subD_of PySem.F.slot_dict_getitem.lookup hs (thn (ho.run pins s σ H _ I h) fun u s1 ⟨x, H1, I1, rx, q1⟩ => thn (hi.run pins s1 σ H1 _ I1 q1) fun iv s2 ⟨y, H2, I2, ry, d, kvs, k, v, ex, n, hy, l, q2⟩ => ?_)
  subst ex
  obtain rfl : u = Value.ref d := rx
  exact ⟨(nd_type I2 n).1, nd_getItem hu I2 n hy l ry fun w' s3 I3 rw' => ⟨v, H2, I3, rw', q2⟩⟩
theorem op_nin {P : Program} {w : World} {K : PySem.W.Frag} (hu : X.A.units + 20 < cLine) (hX : X.prog = P ∧ X.w = w ∧ X.K = K := by exact ⟨rfl, rfl, rfl⟩) : OpR X (compareOp .In) (rNIn P w K false) := by
  obtain ⟨rfl, rfl, rfl⟩ := hX
  intro pins s σ H y x u r Q I ry rx h
  obtain ⟨d, kvs, k, ex, n, hy, q⟩ := h
  subst ex
  obtain rfl : r = Value.ref d := rx
  exact nd_in hu I n hy ry fun s' I' => ⟨.bl (valV kvs k).isSome, H, I', rfl, q⟩
theorem op_nnotin {P : Program} {w : World} {K : PySem.W.Frag} (hu : X.A.units + 20 < cLine) (hX : X.prog = P ∧ X.w = w ∧ X.K = K := by exact ⟨rfl, rfl, rfl⟩) : OpR X (compareOp .NotIn) (rNIn P w K true) := by
  obtain ⟨rfl, rfl, rfl⟩ := hX
  intro pins s σ H y x u r Q I ry rx h
  obtain ⟨d, kvs, k, ex, n, hy, q⟩ := h
  subst ex
  obtain rfl : r = Value.ref d := rx
  exact nd_notIn hu I n hy ry fun s' I' => ⟨.bl (!(valV kvs k).isSome), H, I', rfl, q⟩
theorem ps_nput {P : Program} {w : World} {K : PySem.W.Frag} (hu : X.A.units + 20 < cLine) (ho : PE X o td) (hi : PE X i ty) (hv : PE X value tv) (hs : swapsWith value (some (.Subscript o i pos')) pos.line X.env = pure false) (hX : X.prog = P ∧ X.w = w ∧ X.K = K := by exact ⟨rfl, rfl, rfl⟩) :
    PS X (.Assign [.Subscript o i pos'] value pos) (sNPut P w K td ty tv) := by
  obtain ⟨rfl, rfl, rfl⟩ := hX
  refine ⟨fun pins s σ H D I h => ?_⟩
  refine wpAny_Assign_Subscript (thn (hv.run pins s σ H _ I h) fun r s1 ⟨v, H1, I1, rv, q1⟩ => thn (ho.run pins s1 σ H1 _ I1 q1) fun u s2 ⟨x, H2, I2, rx, q2⟩ => thn (hi.run pins s2 σ H2 _ I2 q2) fun iv s3 ⟨y, H3, I3, ry, d, kvs, k, ex, n, hy, l, q3⟩ => ?_) hs
  subst ex
  obtain rfl : u = Value.ref d := rx
  exact nd_setItem hu I3 n hy l ry rv fun xs' n' s4 I4 => ⟨σ, _, I4, q3 xs' n'⟩
theorem pe_nget2 {P : Program} {w : World} {K : PySem.W.Frag} (hu : X.A.units + 20 < cLine) (ho : PE X o td) (he : PE X e ty) (hf : PE X f tz) (m : M2 X o "get" apos e f cpos) (hX : X.prog = P ∧ X.w = w ∧ X.K = K := by exact ⟨rfl, rfl, rfl⟩) : PE X (.Call (.Attribute o "get" apos) [e, f] [] cpos) (tNGet2 P w K td ty tz) := by
  obtain ⟨rfl, rfl, rfl⟩ := hX
  refine ⟨fun pins s σ H Q I h => ?_⟩
  refine wpAny_Call_method m.base m.few m.line PySem.F.plainAttrs_dict PySem.F.slot_dict_get PySem.F.type_dict_get (thn (ho.run pins s σ H _ I h) fun u s1 ⟨x, H1, I1, rx, d, ex, ⟨_, n⟩, q1⟩ => ?_)
  subst ex
  obtain rfl : u = Value.ref d := rx
  obtain ⟨t1, t2, _⟩ := nd_type I1 n
  refine ⟨t1, t2, ?_⟩
  rw [m.trees]
  refine Calls.callWith_builtin rfl (Calls.evalArgs_plain (Calls.spliced_cons (thn (he.run pins s1 σ H1 _ I1 q1) fun iv s2 ⟨y, H2, I2, ry, q2⟩ =>
    Calls.spliced_cons (thn (hf.run pins s2 σ H2 _ I2 q2) fun fv s3 ⟨z, H3, I3, rz, kvs, k, n3, hy, q3⟩ => Calls.spliced_nil ?_))))
  exact nd_get2 hu I3 n3 hy ry rz fun w' s4 I4 rw' => ⟨_, H3, I4, rw', q3⟩
theorem pe_npop {P : Program} {w : World} {K : PySem.W.Frag} (hu : X.A.units + 20 < cLine) (ho : PE X o td) (he : PE X e ty) (m : M1 X o "pop" apos e cpos) (hX : X.prog = P ∧ X.w = w ∧ X.K = K := by exact ⟨rfl, rfl, rfl⟩) : PE X (.Call (.Attribute o "pop" apos) [e] [] cpos) (tNPop P w K td ty) := by
  obtain ⟨rfl, rfl, rfl⟩ := hX
  refine ⟨fun pins s σ H Q I h => ?_⟩
  refine wpAny_Call_method m.base m.few m.line PySem.F.plainAttrs_dict PySem.F.slot_dict_pop PySem.F.type_dict_pop (thn (ho.run pins s σ H _ I h) fun u s1 ⟨x, H1, I1, rx, d, ex, ⟨_, n⟩, q1⟩ => ?_)
  subst ex
  obtain rfl : u = Value.ref d := rx
  obtain ⟨t1, t2, _⟩ := nd_type I1 n
  refine ⟨t1, t2, ?_⟩
  rw [m.trees]
  refine Calls.callWith_builtin rfl (Calls.evalArgs_plain (Calls.spliced_cons (thn (he.run pins s1 σ H1 _ I1 q1) fun iv s2 ⟨y, H2, I2, ry, kvs, k, v, n2, hy, l, q2⟩ => Calls.spliced_nil ?_)))
  exact nd_pop hu I2 n2 hy l ry fun xs' n' w' s4 I4 rw' => ⟨v, _, I4, rw', q2 xs' n'⟩
theorem call_nlen : CallR X (.builtin "len") (fun xs H Q => ∃ d kvs, xs = [.ref d] ∧ Nd X H d kvs ∧ Q (.int kvs.length) H) := by
  intro pins s σ H xs us Q I r q
  obtain ⟨d, kvs, rfl, n, q⟩ := q
  obtain ⟨u, eu, rx⟩ := vals1 r
  subst eu
  cases rx
  exact nd_len I n fun t s' I' => ⟨.int kvs.length, H, I', ⟨t, rfl⟩, q⟩
/-- {}, to be a dict of nested keys -/
theorem nd_empty {P : Program} {w : World} {H : Hp} (h : Heap) (hb : sysModules < h.objs.size) : ObjOk P w H (h.push { cls := .type "dict", data := .dict #[] }) h.objs.size (NdO P w h.objs.size []) := by
  refine ⟨⟨Nat.zero_le _, beq_eq_false_iff_ne.mpr (Ne.symm (Nat.ne_of_lt hb)), [], .nil, _, #[], 0, Heap.get?_push_size _ rfl, ⟨rfl, rfl, rfl⟩, rfl, rfl, List.nodup_nil⟩, ⟨_, Heap.get?_push_size _ rfl⟩, ?_⟩
  rintro g1 g2 ⟨z, hd, ys, r, o, es, ep, h1, h⟩ k
  exact ⟨z, hd, ys, r, o, es, ep, k _ h1, h⟩
theorem ndat_empty {P : Program} {w : World} {K : PySem.W.Frag} {H : Hp} {d : Addr} : NdAt P w K (upd H d (NdO P w d [])) d [] := ⟨[], upd_same, rfl, fun _ h => nomatch h⟩
def tNNew (P : Program) (w : World) : TE := fun _ H Q => ∀ p, H p = none → Q (.ref p) (upd H p (NdO P w p []))
theorem pe_nnew {P : Program} {w : World} {K : PySem.W.Frag}  (hX : X.prog = P ∧ X.w = w ∧ X.K = K := by exact ⟨rfl, rfl, rfl⟩) : PE X (.Dict [] [] pos) (tNNew P w) := by
  obtain ⟨rfl, rfl, rfl⟩ := hX
  exact ⟨fun pins s σ H Q I h =>
  wpAny_Dict_empty ⟨.ref s.heap.objs.size, _, I.laid (a := s.heap.objs.size) (o := NdO X.prog X.w s.heap.objs.size []) (t' := s.toks) (fun _ _ q => Heap.get?_push_of_some _ q) (Nat.le_refl _) (nd_empty s.heap I.big), rfl, h _ (I.hok.fresh (Nat.le_refl _))⟩⟩
end
end HH
namespace HH
open PySem PySem.Spec PyProof.Rows L2 PySem.SeqAt

section
variable {X : Cx}
/-- {k: v for target in iter if ..}, keys nested data: D the new dict -/
def tDcN (P : Program) (w : World) (K : PySem.W.Frag) (wi : TI) (g : TG) (tt : TT) (tk tv : TE) (vs : List Nat) : TE := fun σ H Q => wi σ H fun J H1 => ∀ D, H1 D = none → ∃ W : Nat → Nat → Hp → Prop, (∃ m, W 0 m (upd H1 D (NdO P w D []))) ∧ ∀ i m H, W i m H →
  (J.stop i H ∧ Q (.ref D) H) ∨ (J.go i H ∧ ∃ Nx : Hp → Prop, (∀ H', Nx H' → ∃ m', m' < m ∧ W (i + 1) m' H') ∧ ∀ x H', J.yld i H x H' → g x (wipe σ vs) H' fun σ2 H2 => wipe σ2 vs = wipe σ vs ∧ tt σ2 H2 fun b H3 =>
    if b = true then tk σ2 H3 fun y H4 => tv σ2 H4 fun z H5 => ∃ kvs k, NdAt P w K H5 D kvs ∧ KeyAt K H5 k y ∧ kvs.length < sizeLine ∧ NdTo P w K H5 D (putK kvs k z) Nx else Nx H3)
theorem dcn_core {pins : List (Addr × Obj)} {s : Shared} {σ : L2.St} {H : Hp} {Q : VK} {kx vx tg iter : Expr} {ifs : List Expr} {scope : Scope} {own : List (Str × Nat)} {pos pos' : Pos} {wi : TI} {g : TG} {tt : TT} {tk tv : TE} {use : Option (Value → Sem Unit)} {Qf : Value → Shared → Prop}
    (hu : X.A.units + 20 < cLine) (hc : X.calm = true) (hN : X.N.Nodup) (I : Inv X pins σ H s) (hi : PI X tg iter wi) (ok : BlkOk X.N X.env.scope scope own)
    (hg : ∀ s H C cl fp, PG (X.blk s H scope (compEnvC scope cl C X.env) fp) tg g) (ht : ∀ s H C cl fp, PTs (X.blk s H scope (compEnvC scope cl C X.env) fp) ifs tt)
    (hk : ∀ s H C cl fp, PE (X.blk s H scope (compEnvC scope cl C X.env) fp) kx tk) (he : ∀ s H C cl fp, PE (X.blk s H scope (compEnvC scope cl C X.env) fp) vx tv) (hs : ∀ x, foldedSetIterable iter X.env x = pure x)
    (h : tDcN X.prog X.w X.K wi g tt tk tv (own.map (·.2)) σ H Q)
    (hRR : ∀ D C s' m H', Inv X pins σ H' s' → Q (.ref D) H' → s'.heap.Ns C m → FpOk X pins H' C → compPost (model X.prog X.w) X.A X.xe use Qf (.ref D) C (.ok .next) s') :
    wpAny (model X.prog X.w) X.A (comprehension (.DictComp kx vx [⟨tg, iter, ifs, 0⟩] scope pos) scope X.env pos' newDict false (eval iter X.env) use) Qf X.xe s := by
  have free : ∀ y ∈ scope.names, y.2 = .free → ∃ c, X.env.cells.lookup y.1 = some c := fun y hy e => (ok.free y hy e).elim (fun k => I.ok.has _ (.inl k)) fun k => I.ok.has _ (.inr k)
  refine wpAny_comprehension_free (use := use) rfl hs (closure_ok free) ok.kind (fun y hy e => by rw [ok.uniq y hy, e]) (thn (hi.run pins s σ H _ I h) fun xv s1 hx => thn hx fun itv s2 h2 => ?_)
  obtain ⟨it, fp, tn, J, H2, rfl, I2, T, st2, f2, q⟩ := h2
  refine wpAny_newObj_type (newEnv_comp ?_)
  generalize hD : s2.heap.objs.size = D
  have hDn : H2 D = none := I2.hok.fresh (Nat.le_of_eq hD)
  obtain ⟨W, ⟨m0, w0⟩, turn⟩ := q D hDn
  generalize hs3 : ({ s2 with heap := s2.heap.push { cls := .type "dict", data := .dict #[] } } : Shared) = s3
  have I3 : Inv X pins σ (upd H2 D (NdO X.prog X.w D [])) s3 := by
    subst hs3 hD
    exact I2.laid (t' := s2.toks) (fun b o e => Heap.get?_push_of_some _ e) (Nat.le_refl _) (nd_empty s2.heap I2.big)
  have h3 : s3.heap = s2.heap.push { cls := .type "dict", data := .dict #[] } := by rw [← hs3]
  have sz : ∀ b ∈ fp, b < s2.heap.objs.size := fun b hb => let ⟨_, e, _⟩ := T.obj _ _ st2 b hb; Heap.lt_size e
  have f3 : ∀ b ∈ fp, FpOk X pins (upd H2 D (NdO X.prog X.w D [])) b ∧ b < s3.heap.objs.size := fun b hb =>
    ⟨⟨by rw [upd_ne (by rw [← hD]; exact Nat.ne_of_lt (sz b hb))]; exact (f2 b hb).1, (f2 b hb).2⟩, by rw [h3, Heap.size_push]; exact Nat.lt_succ_of_lt (sz b hb)⟩
  have st3 : tn 0 s3.heap := T.keep _ _ _ st2 fun b _ o e => by rw [h3]; exact Heap.get?_push_of_some _ e
  have I4 := block_start I3 ok hN f3
  have pg := hg s3 (upd H2 D (NdO X.prog X.w D [])) s3.heap.objs.size (cellsFrom (s3.heap.objs.size + 1) scope.names (cloFrom X.env.cells scope.names [])) fp
  have pt := ht s3 (upd H2 D (NdO X.prog X.w D [])) s3.heap.objs.size (cellsFrom (s3.heap.objs.size + 1) scope.names (cloFrom X.env.cells scope.names [])) fp
  have pk := hk s3 (upd H2 D (NdO X.prog X.w D [])) s3.heap.objs.size (cellsFrom (s3.heap.objs.size + 1) scope.names (cloFrom X.env.cells scope.names [])) fp
  have pe := he s3 (upd H2 D (NdO X.prog X.w D [])) s3.heap.objs.size (cellsFrom (s3.heap.objs.size + 1) scope.names (cloFrom X.env.cells scope.names [])) fp
  show codeAny _ _ (.compStart (.DictComp kx vx [⟨tg, iter, ifs, 0⟩] scope pos) 0 (.ref it) (.ref D) (compEnvC scope (cellsFrom (s3.heap.objs.size + 1) scope.names (cloFrom X.env.cells scope.names [])) s3.heap.objs.size X.env))
    (compPost (model X.prog X.w) X.A X.xe use Qf (.ref D) s3.heap.objs.size) { s3 with heap := pushCells (s3.heap.push { cls := .type "dict", data := .dict #[] }) scope.names }
  have nfp : ∀ b ∈ fp, (upd H2 D (NdO X.prog X.w D [])) b = none := fun b hb => (f3 b hb).1.1
  generalize hce : compEnvC scope (cellsFrom (s3.heap.objs.size + 1) scope.names (cloFrom X.env.cells scope.names [])) s3.heap.objs.size X.env = ce at I4 pg pt pk pe ⊢
  have cL : ce.locals = s3.heap.objs.size := by subst hce; rfl
  generalize hH3 : upd H2 D (NdO X.prog X.w D []) = H3 at I3 I4 pg pt pk pe w0 nfp f3
  generalize hs4 : ({ s3 with heap := pushCells (s3.heap.push { cls := .type "dict", data := .dict #[] }) scope.names } : Shared) = s4 at I4 ⊢
  have st4 : tn 0 s4.heap := T.keep _ _ _ st3 fun b _ o e => by rw [← hs4]; exact pushCells_keeps _ _ _ _ (Heap.get?_push_of_some _ e)
  have stat : ∀ {σ' : L2.St} {H' : Hp} {s' : Shared}, Inv (X.blk s3 H3 scope ce fp) [] σ' H' s' → (∀ b ∈ fp, H' b = none) → ∀ b ∈ fp, FpOk (X.blk s3 H3 scope ce fp) [] H' b := fun {σ' H' s'} I' hn b hb =>
    ⟨hn b hb, (I'.ok.exf b hb).1, I'.ok.exfs b hb, .inl hb, fun x c e => (I'.ok.exf b hb).2 x c e, fun p hp => absurd (show p ∈ ([] : List (Addr × Obj)) ++ [] from hp) (by simp)⟩
  refine codeAny_compStart_dict ?loop (T.self X.A 0 _ _ _ st4 ?loop)
  refine compLoop_anyD (fun n s' => ∃ i H', Inv (X.blk s3 H3 scope ce fp) [] (wipe σ (own.map (·.2))) H' s' ∧ tn i s'.heap ∧ (∀ b ∈ fp, H' b = none) ∧ W i n H') ?_ m0 ⟨0, H3, I4, st4, nfp, w0⟩
  rintro n s5 ⟨i, H5, I5, st5, n5, w5⟩
  rcases turn i n H5 w5 with ⟨stop, qq⟩ | ⟨go, Nx, hNx, step⟩
  · refine thnF (T.done (X.blk s3 H3 scope ce fp) rfl rfl rfl hc i [] s5 _ H5 (fun _ _ => False) I5 (stat I5 n5) st5 stop) fun r s6 ⟨hr, I6⟩ => ?_
    subst hr
    have I7 : Inv X pins σ H5 s6 := I3.call' (ch := fp) I6.os I6.base I6.hok I6.bare fun b hb => ⟨(f3 b hb).1.2.2.2.1, (f3 b hb).1.2.1, (f3 b hb).1.2.2.2.2.1, (f3 b hb).1.2.2.2.2.2⟩
    have nC : H5 s3.heap.objs.size = none := by rw [← cL]; exact I6.free
    obtain ⟨m, hn, _⟩ := I6.loc
    have hn' : s6.heap.Ns s3.heap.objs.size m := by rw [← cL]; exact hn
    exact hRR D s3.heap.objs.size s6 m H5 I7 qq hn' (I3.fpOk (Nat.le_refl _) nC)
  · refine thnF (T.item (X.blk s3 H3 scope ce fp) rfl rfl rfl hc i [] s5 _ H5 (fun _ _ => False) I5 (stat I5 n5) st5 go) fun r s6 ⟨u, hr, h6⟩ => ?_
    subst hr
    refine thnF h6 fun _ s7 ⟨x, H7, I7, r7, y7, st7, n7⟩ => ?_
    refine thnF (pg.run _ s7 _ H7 x u _ (I7.pinned (stat I7 n7) (T.obj _ _ st7)) r7 (step x H7 y7)) fun _ s8 ⟨σ8, H8, I8, hw8, q8⟩ => ?_
    refine thnF (pt.run _ s8 σ8 H8 _ I8 q8) fun b s9 ⟨H9, I9, q9⟩ => ?_
    have fin : ∀ {s' : Shared} {H' : Hp}, Inv (X.blk s3 H3 scope ce fp) ([] ++ pinsAt fp s7.heap) σ8 H' s' → Nx H' → ∃ m, m < n ∧ ∃ i H', Inv (X.blk s3 H3 scope ce fp) [] (wipe σ (own.map (·.2))) H' s' ∧ tn i s'.heap ∧ (∀ b ∈ fp, H' b = none) ∧ W i m H' := fun {s' H'} I' nx => by
      obtain ⟨m', hm, w'⟩ := hNx H' nx
      have pin' : ∀ b ∈ fp, ∀ o, s7.heap.get? b = some o → s'.heap.get? b = some o ∧ H' b = none := fun b hb o e =>
        let z := I'.pin (b, o) (List.mem_append_right _ (List.mem_append_right _ (mem_pinsAt hb e))); ⟨z.1, z.2.1⟩
      refine ⟨m', hm, i + 1, H', (I'.unpinned (pins := [])).weak (by rw [← hw8, wipe_length]) (fun j v e => ?_), T.keep _ _ _ st7 fun b hb o e => (pin' b hb o e).1, fun b hb => let ⟨o, e, _⟩ := T.obj _ _ st7 b hb; (pin' b hb o e).2, w'⟩
      rw [← hw8] at e
      exact (wipe_some e).1
    cases b with
    | false =>
      simp only [Bool.false_eq_true, if_false] at q9 ⊢
      exact fin I9 q9
    | true =>
      simp only [if_true] at q9 ⊢
      refine thnF (pk.run _ s9 σ8 H9 _ I9 q9) fun z s10 ⟨yk, H10, I10, r10, q10⟩ => ?_
      refine thnF (pe.run _ s10 σ8 H10 _ I10 q10) fun z2 s11 ⟨yv, H11, I11, r11, kvs, k, nd, hy, hz11, nx⟩ => ?_
      exact nd_dictSet (X := X.blk s3 H3 scope ce fp) hu I11 nd hy hz11 r10 r11 fun xs' n' s12 I12 => fin I12 (nx xs' n')
theorem pe_dcn {P : Program} {w : World} {K : PySem.W.Frag} {kx vx tg iter : Expr} {ifs : List Expr} {scope : Scope} {own : List (Str × Nat)} {pos : Pos} {wi : TI} {g : TG} {tt : TT} {tk tv : TE} (hu : X.A.units + 20 < cLine) (hc : X.calm = true) (hN : X.N.Nodup) (hi : PI X tg iter wi) (ok : BlkOk X.N X.env.scope scope own)
    (hg : ∀ s H C cl fp, PG (X.blk s H scope (compEnvC scope cl C X.env) fp) tg g) (ht : ∀ s H C cl fp, PTs (X.blk s H scope (compEnvC scope cl C X.env) fp) ifs tt)
    (hk : ∀ s H C cl fp, PE (X.blk s H scope (compEnvC scope cl C X.env) fp) kx tk) (he : ∀ s H C cl fp, PE (X.blk s H scope (compEnvC scope cl C X.env) fp) vx tv) (hs : ∀ x, foldedSetIterable iter X.env x = pure x := by intro _; rfl) (hX : X.prog = P ∧ X.w = w ∧ X.K = K := by exact ⟨rfl, rfl, rfl⟩) :
    PE X (.DictComp kx vx [⟨tg, iter, ifs, 0⟩] scope pos) (tDcN P w K wi g tt tk tv (own.map (·.2))) := by
  obtain ⟨rfl, rfl, rfl⟩ := hX
  refine ⟨fun pins s σ H Q I h => ?_⟩
  rw [arm_eval_DictComp]
  refine dcn_core hu hc hN I hi ok hg ht hk he hs h fun D C s' m H' I' q hn f => ⟨m, hn, fun h'' sb => ?_⟩
  obtain ⟨f0, f1, f2, f3, f4, f5⟩ := f
  exact ⟨.ref D, H', I'.turned (t' := s'.toks) (fun b o hb e => (sb.2 b hb).trans e) f0 f1 f3 f4 f5, rfl, q⟩
end

/-! ### sorted of nested data -/
section
variable {X : Cx}
/-- sorted(l), l a list of nested data ks, alike in form -/
def rSortK (K : PySem.W.Frag) : List V → Hp → VK → Prop := fun vs H Q => ∃ (a : Addr) (xs : List V) (ks : List NestedKey), vs = [.ref a] ∧ SqL K H a xs ∧ IsKs K H ks xs ∧ (∀ a ∈ ks, ∀ b ∈ ks, cmK a b = true) ∧ NestedKey.depthAll ks ≤ 8 ∧
  ∀ (ys : List V) (ls : List NestedKey) (p : Addr), ls.Perm ks → ls.Pairwise (fun a b => ltK b a = false) → IsKs K H ls ys → H p = none → Q (.ref p) (upd H p (.lst ys))
theorem vals_mem {vs : List V} {us : List Value} (r : Vals vs us) : ∀ u ∈ us, ∃ v ∈ vs, RelV v u := by
  induction r with
  | nil => intro u h; cases h
  | cons a b ih =>
    intro u h
    rcases List.mem_cons.mp h with e | e
    · subst e; exact ⟨_, List.mem_cons_self, a⟩
    · obtain ⟨v, m, q⟩ := ih u e
      exact ⟨v, List.mem_cons_of_mem _ m, q⟩
theorem triples {K : PySem.W.Frag} {H : Hp} {h : Heap} : ∀ {ks : List NestedKey} {vs : List V} {us : List Value}, IsKs K H ks vs → Vals vs us → DAll h ks us → ∀ u ∈ us, ∃ k v, k ∈ ks ∧ IsK K H k v ∧ RelV v u ∧ DIs h k u
  | [], _, _, h1, h2, h3, u, hu => by cases h3; cases hu
  | k :: ks, _, _, ⟨x, r, e, a, b⟩, h2, h3, u, hu => by
    subst e
    cases h2 with
    | cons c1 c2 =>
      cases h3 with
      | cons d1 d2 =>
        rcases List.mem_cons.mp hu with e | e
        · subst e; exact ⟨k, x, List.mem_cons_self, a, c1, d1⟩
        · obtain ⟨k', v', m, q1, q2, q3⟩ := triples b c2 d2 u e
          exact ⟨k', v', List.mem_cons_of_mem _ m, q1, q2, q3⟩
theorem back_keys {K : PySem.W.Frag} {H : Hp} {h : Heap} : ∀ {out : List Value}, (∀ u ∈ out, ∃ k v, IsK K H k v ∧ RelV v u ∧ DIs h k u) → ∃ ls ys, IsKs K H ls ys ∧ Vals ys out ∧ ls = out.map (keyOf h)
  | [], _ => ⟨[], [], rfl, .nil, rfl⟩
  | u :: out, f => by
    obtain ⟨k, v, a, b, c⟩ := f u List.mem_cons_self
    obtain ⟨ls, ys, q1, q2, q3⟩ := back_keys (out := out) fun w hw => f w (List.mem_cons_of_mem _ hw)
    exact ⟨k :: ls, v :: ys, ⟨v, ys, rfl, a, q1⟩, .cons b q2, by rw [List.map_cons, keyOf_eq c, q3]⟩
theorem keys_map {h : Heap} : ∀ {ks : List NestedKey} {us : List Value}, DAll h ks us → us.map (keyOf h) = ks
  | [], _, x => by cases x; rfl
  | k :: ks, _, x => by
    cases x with
    | cons p r => rw [List.map_cons, keyOf_eq p, keys_map r]
theorem cr_sortK {K : PySem.W.Frag} (hu : X.A.units + 20 < cLine) (hX : X.K = K := by rfl) : CallR X (.builtin "sorted") (rSortK K) := by
  subst hX
  intro pins s σ H vs us Q I r q
  obtain ⟨a, xs, ks, rfl, sq, ik, cm, dep, q⟩ := q
  obtain ⟨u, eu, rx⟩ := vals1 r
  subst eu
  cases rx
  obtain ⟨its, rv, pl, hz⟩ := I.list sq
  have d := IsKs.dis I ks xs its ik rv
  refine sorted_keys (s := s) (ks := ks) pl.isList (by rw [← rv.length]; exact hz) d cm (by omega) fun h' p out hs hp hk hd ⟨n, ho⟩ => ?_
  obtain ⟨ls, ys, k1, k2, k3⟩ := back_keys (K := X.K) (H := H) (h := s.heap) (out := out) fun u hu => by
    obtain ⟨k, v, _, b, c, e⟩ := triples ik rv d u (hp.mem_iff.mp hu)
    exact ⟨k, v, b, c, e⟩
  have lz : ys.length ≤ sizeLine := by rw [k2.length, hp.length_eq, ← rv.length]; exact hz
  refine ⟨.ref p, _, I.laid (a := p) (o := .lst ys) (t' := s.toks) hk hd ⟨lz, out, n, k2, ho⟩, rfl, q ys ls p ?_ ?_ k1 (I.hok.fresh hd)⟩
  · rw [k3, ← keys_map d]
    exact hp.map _
  · rw [k3]
    exact List.pairwise_map.mpr hs
end
end HH
namespace HH
open PySem PySem.Spec PyProof.Rows L2 PySem.SeqAt

/-- list.sort of nested data -/
theorem list_sort_keys {prog : Program} {w : World} {A : Around} {E : Value → Shared → Prop} {s : Shared} {a : Addr} {ks : List NestedKey} {vs : List Value} {n : Nat} {R : PySem.Fin → Shared → Prop} (ho : s.heap.get? a = some (seqObj "list" vs.toArray n)) (hz : vs.length ≤ sizeLine)
    (x : DAll s.heap ks vs) (hc : ∀ a ∈ ks, ∀ b ∈ ks, cmK a b = true) (hu : A.units + NestedKey.depthAll ks < cLine)
    (h : ∀ out : List Value, SrtO.Srtd (fun v u => ltK (keyOf s.heap v) (keyOf s.heap u)) out → out.Perm vs → R (.done (.ret .none)) { s with heap := sortedHeap s.heap a vs out.toArray }) :
    wpAny (model prog w) A (Builtin.«list.sort» ⟨[.ref a], []⟩) R E s := by
  refine SrtO.list_sort_ord (swo_key s.heap) ho hz (fun h2 => ?_) fun out hs hb => h out hs hb.perm
  intro h' keep
  have ne : ∀ b vs', s.heap.IsTuple b vs' → b ≠ a := fun b vs' ⟨o, hb, hcl, _⟩ z => by
    subst z
    rw [hb] at ho
    cases ho
    exact absurd (Value.type.inj hcl) (by decide)
  have kt : ∀ b vs', s.heap.IsTuple b vs' → h'.IsTuple b vs' := fun b vs' t => by
    obtain ⟨o, hb, r⟩ := id t
    exact ⟨o, keep b o (ne b vs' t) hb, r⟩
  have xk : DAll h' ks vs := x.keep kt _ _
  obtain ⟨κ, K, run⟩ := kind_run (model prog w) A (s := { s with heap := h' }) xk
  refine ⟨κ, run, cmp_ok (s := { s with heap := h' }) xk (fun v hv k hk => ?_) K hc hu⟩
  obtain ⟨k', mk, hk'⟩ := x.mem v hv
  rw [keyOf_eq hk']
  exact NestedIs.inj _ _ _ ((DIs.keep kt _ _ hk').nested _ _) (hk.nested _ _)
section
variable {X : Cx}
theorem nd_keys {pins : List (Addr × Obj)} {σ : L2.St} {H : Hp} {s : Shared} (I : Inv X pins σ H s) : ∀ {xs : NX} {ys : List (NestedKey × Addr × Value)} {us : List Value}, NdRel xs ys → (∀ x ∈ xs, IsK X.K H x.1 (.ref x.2.1) ∧ x.1.depth ≤ 8) → us.length = ys.length → (∀ (j : Nat) (v : Value), us[j]? = some v → ∃ y, ys[j]? = some y ∧ v = .ref y.2.1) →
    IsKs X.K H (ys.map (·.1)) (ys.map fun y => V.ref y.2.1) ∧ Vals (ys.map fun y => V.ref y.2.1) us
  | [], [], [], _, _, _, _ => ⟨rfl, .nil⟩
  | [], [], _ :: _, _, _, hl, _ => by simp at hl
  | x :: xs, y :: ys, [], _, _, hl, _ => by simp at hl
  | x :: xs, y :: ys, u :: us, r, hk, hl, hu => by
    unfold NdRel at r
    cases r with
    | cons h t =>
      obtain ⟨e1, e2, _⟩ := h
      obtain ⟨a, _⟩ := hk x List.mem_cons_self
      obtain ⟨q1, q2⟩ := nd_keys I (us := us) t (fun z hz => hk z (List.mem_cons_of_mem _ hz)) (by simpa using hl) fun j v e => by
        obtain ⟨y', z1, z2⟩ := hu (j + 1) v (by simpa using e)
        exact ⟨y', by simpa using z1, z2⟩
      obtain ⟨y', z1, z2⟩ := hu 0 u rfl
      obtain rfl : y = y' := by simpa using z1
      rw [e1, e2] at a
      exact ⟨⟨_, _, rfl, a, q1⟩, .cons z2 q2⟩
/-- sorted(d), d a dict of nested keys, alike in form -/
def rSortN (P : Program) (w : World) (K : PySem.W.Frag) : List V → Hp → VK → Prop := fun vs H Q => ∃ (d : Addr) (kvs : List (NestedKey × V)), vs = [.ref d] ∧ NdAt P w K H d kvs ∧ (∀ a ∈ kvs.map (·.1), ∀ b ∈ kvs.map (·.1), cmK a b = true) ∧
  ∀ (ys : List V) (ls : List NestedKey) (p : Addr), ls.Perm (kvs.map (·.1)) → ls.Pairwise (fun a b => ltK b a = false) → IsKs K H ls ys → H p = none → Q (.ref p) (upd H p (.lst ys))
theorem depthAll_le {n : Nat} : ∀ {ks : List NestedKey}, (∀ k ∈ ks, k.depth ≤ n) → NestedKey.depthAll ks ≤ n
  | [], _ => by simp [NestedKey.depthAll]
  | k :: ks, h => by
    simp only [NestedKey.depthAll]
    have a := h k List.mem_cons_self
    have b := depthAll_le (ks := ks) fun x hx => h x (List.mem_cons_of_mem _ hx)
    omega
theorem cr_sortN {P : Program} {w : World} {K : PySem.W.Frag} (hu : X.A.units + 20 < cLine) (hcalm : X.calm = true) (hX : X.prog = P ∧ X.w = w ∧ X.K = K := by exact ⟨rfl, rfl, rfl⟩) : CallR X (.builtin "sorted") (rSortN P w K) := by
  obtain ⟨rfl, rfl, rfl⟩ := hX
  intro pins s σ H vs us Q I r q
  obtain ⟨d, kvs, rfl, ⟨xs, e, rfl, hk⟩, cm, q⟩ := q
  obtain ⟨u, eu, rx⟩ := vals1 r
  subst eu
  cases rx
  obtain ⟨z, lo, ys, rel, dd⟩ := nd_of I e hk
  obtain ⟨o, es, ep, ho, hex, hda, hes, hall, hnd⟩ := id dd
  have raw : s.heap.DictRaw d es ep := ⟨o, ho, hex, hda⟩
  have esz : es.size = ys.length := size_of_entries hes
  have h16 : es.size ≤ sizeLine := by rw [esz, ← rel.length]; exact z
  refine Calls.call_function_entry PyProof.Rows.kind_sorted PyProof.Rows.plain_sorted PyProof.Rows.entry_sorted (PyProof.Rows.args_sorted1 _) ?_
  unfold Builtin.«sorted»
  refine wpAny_bind (m := checkCount "sorted" 1 1 _) (wpAny_pure ?_)
  refine wpAny_bind (PySem.W.kdu_collect (A := X.A.in1) (PySem.KdlSrc.rawDict (es := es) (ep := ep) lo) (I.ok.hd hcalm) raw h16 fun h' tk acc hkp hacc => ?_)
  have hal : acc.toList.length = ys.length := by rw [Array.length_toList, hacc.1, esz]
  obtain ⟨ik, rv⟩ := nd_keys I (us := acc.toList) rel hk hal fun j v ej => by
    obtain ⟨hi, ev⟩ := hacc.2 j v (by rw [← Array.getElem?_toList]; exact ej)
    have hj : j < ys.length := by omega
    refine ⟨ys[j], List.getElem?_eq_getElem hj, ?_⟩
    have en := entry_at (knd := nestedKind X.prog X.w) hes j
    rw [List.getElem?_eq_getElem hj, Option.map_some, Array.getElem?_eq_getElem hi] at en
    rw [ev, Option.some.inj en]
    rfl
  have I1 : Inv X pins σ H { s with heap := h', toks := tk } := I.kept hkp
  have keq : (kvX xs).map (·.1) = ys.map (·.1) := by
    rw [← rel.keys]; unfold kvX; rw [List.map_map]; rfl
  have dep : NestedKey.depthAll (ys.map (·.1)) ≤ 8 := depthAll_le fun k hk' => by
    rw [← rel.keys] at hk'
    obtain ⟨x, hx, ex⟩ := List.mem_map.mp hk'
    rw [← ex]; exact (hk x hx).2
  refine wpAny_bind (wpAny_newList ?_ (by rw [hal, ← esz]; exact h16))
  have hoL : (h'.push (seqObj "list" acc.toList.toArray 0)).get? h'.objs.size = some (seqObj "list" acc.toList.toArray 0) := Heap.get?_push_size _ rfl
  show wpAny _ _ _ _ _ { s with heap := h'.push (seqObj "list" acc.toList.toArray 0), toks := tk }
  have I2 : Inv X pins σ H { s with heap := h'.push (seqObj "list" acc.toList.toArray 0), toks := tk } := I1.kept (t' := tk) fun b o e => Heap.get?_push_of_some _ e
  have da := IsKs.dis I2 _ _ _ ik rv
  refine wpAny_bind (wpAny_holding (wpAny_call_entry PyProof.Rows.slot_list_sort ⟨_, hoL, rfl⟩ PyProof.Rows.entry_list_sort
    (list_sort_keys (s := { s with heap := h'.push (seqObj "list" acc.toList.toArray 0), toks := tk }) hoL (by rw [hal, ← esz]; exact h16) da (by rw [← keq]; exact cm) (by show X.A.units + 1 + 1 + _ < _; omega) fun out hs hp => ⟨_, rfl, ?_⟩)
    (PyProof.Rows.args_list_sort _)))
  obtain ⟨ls, zs, k1, k2, k3⟩ := back_keys (K := X.K) (H := H) (h := h'.push (seqObj "list" acc.toList.toArray 0)) (out := out) fun u hu => by
    obtain ⟨k, v, _, b, c, e⟩ := triples ik rv da u (hp.mem_iff.mp hu)
    exact ⟨k, v, b, c, e⟩
  have sold : ∀ b o, h'.get? b = some o → (sortedHeap (h'.push (seqObj "list" acc.toList.toArray 0)) h'.objs.size acc.toList out.toArray).get? b = some o := fun b o h1 => by
    have hlt := Heap.lt_size h1
    rw [sortedHeap_old (Nat.ne_of_lt hlt) (by rw [size_push']; exact Nat.lt_succ_of_lt hlt)]
    exact Heap.get?_push_of_some _ h1
  obtain ⟨n, hn⟩ := sortedHeap_at (out := out.toArray) hoL
  refine wpAny_pure ⟨_, rfl, ⟨.ref h'.objs.size, _, I1.laid (a := h'.objs.size) (o := .lst zs) (t' := tk) sold (Nat.le_refl _) ⟨by rw [k2.length, hp.length_eq, hal, ← esz]; exact h16, out, n, k2, hn⟩, rfl, q zs ls _ ?_ ?_ k1 (I1.hok.fresh (Nat.le_refl _))⟩⟩
  · rw [k3, keq, ← keys_map da]
    exact hp.map _
  · rw [k3]
    exact List.pairwise_map.mpr hs
end
end HH
namespace HH
open PySem PySem.Spec PyProof.Rows L2 PySem.SeqAt

section
variable {X : Cx}
theorem OpR.or {f : Value → Value → Sem Value} {r r' : R2} (h : OpR X f r) (h' : OpR X f r') : OpR X f (fun x y H Q => r x y H Q ∨ r' x y H Q) := by
  intro pins s σ H x y v u Q I rx ry q
  rcases q with q | q
  · exact h pins s σ H x y v u Q I rx ry q
  · exact h' pins s σ H x y v u Q I rx ry q
theorem CallR.or {f : Value} {r r' : List V → Hp → VK → Prop} (h : CallR X f r) (h' : CallR X f r') : CallR X f (fun xs H Q => r xs H Q ∨ r' xs H Q) := by
  intro pins s σ H xs us Q I rx q
  rcases q with q | q
  · exact h pins s σ H xs us Q I rx q
  · exact h' pins s σ H xs us Q I rx q
/-- t == u of nested data -/
def rEqT (K : PySem.W.Frag) : R2 := fun x y H Q => ∃ ks ls, IsK K H (.tup ks) x ∧ IsK K H (.tup ls) y ∧ NestedKey.depthAll ks ≤ 30 ∧ Q (.bl (decide (ks = ls))) H
theorem op_eqT (hu : X.A.units + 40 < cLine) : OpR X (compareOp .Eq) (rEqT X.K) := by
  intro pins s σ H x y v u Q I rx ry q
  obtain ⟨ks, ls, ik, il, dep, q⟩ := q
  have d1 := IsK.dis I _ _ _ ik rx
  have d2 := IsK.dis I _ _ _ il ry
  cases d1 with
  | @tup a vs _ p r =>
    cases d2 with
    | @tup b us _ p' r' =>
      have n1 : vs.size = ks.length := by simpa using r.length
      have n2 : us.size = ls.length := by simpa using r'.length
      have hu1 : X.A.in1.units = X.A.units + 1 := rfl
      have key := RcAt.tuples (A := X.A) (s := s) (e := keyEqAt ks ls) p p' (by omega) fun j j1 j2 => by
        have := eqAt_keys ks ls X.A.in1 s vs.toList us.toList (r.nested _ _) (r'.nested _ _) (by omega) j (by simpa using j1) (by simpa using j2)
        simpa using this
      rw [n1, n2, beqAll_eq] at key
      refine key X.prog X.w _ _ ⟨.bl (decide (ks = ls)), H, I, ?_, q⟩
      have e : NestedKey.beqAll ks ls = decide (ks = ls) := by
        by_cases h : ks = ls
        · subst h; simp [NestedKey.beqAll_self]
        · rw [decide_eq_false h]
          cases h2 : NestedKey.beqAll ks ls with
          | false => rfl
          | true => exact absurd (NestedKey.eq_of_beqAll ks ls h2) h
      rw [e]
      rfl
/-- t < u of nested data -/
def rLtK (K : PySem.W.Frag) : R2 := fun x y H Q => ∃ k l, IsK K H k x ∧ IsK K H l y ∧ cmK k l = true ∧ k.depth ≤ 30 ∧ Q (.bl (ltK k l)) H
theorem op_ltK (hu : X.A.units + 40 < cLine) : OpR X (compareOp .Lt) (rLtK X.K) := by
  intro pins s σ H x y v u Q I rx ry q
  obtain ⟨k, l, ik, il, cm, dep, q⟩ := q
  have d1 := IsK.dis I _ _ _ ik rx
  have d2 := IsK.dis I _ _ _ il ry
  exact rc_lt _ k l X.A s v u (Nat.le_refl _) d1 d2 cm (by omega) X.prog X.w _ _ ⟨.bl (ltK k l), H, I, rfl, q⟩
end
end HH
namespace HH
open PySem PySem.Spec PyProof.Rows L2 PySem.SeqAt

/-! ### what the defs of a text are called by -/
structure Bi (mg : Str → Option Value) : Prop where
  len_ : mg "len" = none
  int_ : mg "int" = none
  abs_ : mg "abs" = none
  range : mg "range" = none
  sorted_ : mg "sorted" = none
  tuple_ : mg "tuple" = none
  list_ : mg "list" = none
  all_ : mg "all" = none
  any_ : mg "any" = none
  isinstance_ : mg "isinstance" = none
  bool_ : mg "bool" = none
  str_ : mg "str" = none
  dict_ : mg "dict" = none
def Callee (P : Program) (w : World) (K : PySem.W.Frag) (mg : Str → Option Value) (base : Heap) (k : Nat) (x : Str) (ps : List Str) (sp : Sp) : Prop :=
  ∃ f fd, FnOk P w K mg base CX0 k f fd ps sp ∧ mg x = some (.ref f) ∧ PySem.W.keepIn K (.ref f) = true ∧ Binds K fd ps []
/-- all but p stays -/
def Fr (p : Addr) (H H' : Hp) : Prop := ∀ b o, b ≠ p → H b = some o → H' b = some o
theorem Fr.refl (p : Addr) (H : Hp) : Fr p H H := fun _ _ _ h => h
theorem Fr.trans {p : Addr} {H H1 H2 : Hp} (a : Fr p H H1) (b : Fr p H1 H2) : Fr p H H2 := fun c o n h => b c o n (a c o n h)
theorem Fr.of {p : Addr} {H H' : Hp} (e : Same H H') : Fr p H H' := fun b o _ h => e b o h
theorem Fr.upd {p : Addr} {H : Hp} {o : HO} : Fr p H (upd H p o) := fun b u n h => by rw [upd_ne n]; exact h
theorem Fr.new {p a : Addr} {H : Hp} {o : HO} (n : H a = none) : Fr p H (L2.upd H a o) := fun b u _ h => by rw [upd_ne (ne_of_none h n)]; exact h
/-- an object that H does not know is written -/
theorem Fr.mut {p a : Addr} {H H' : Hp} {o : HO} (f : Fr p H H') (n : H a = none) : Fr p H (L2.upd H' a o) := fun b u hb h => by rw [upd_ne (ne_of_none h n)]; exact f b u hb h
theorem Fr.oth {p a : Addr} {H H1 H2 : Hp} (f : Fr p H H1) (n : H a = none) (e : ∀ b, b ≠ a → H2 b = H1 b) : Fr p H H2 := fun b u hb h => by rw [e b (ne_of_none h n)]; exact f b u hb h
theorem Fr.back {p a : Addr} {H H' : Hp} (f : Fr p H H') (ne : a ≠ p) (n : H' a = none) : H a = none := by
  cases h : H a with
  | none => rfl
  | some o => rw [f a o ne h] at n; cases n
theorem Fr.seq {K : PySem.W.Frag} {p a : Addr} {H H' : Hp} {xs : List V} (f : Fr p H H') (ne : a ≠ p) (h : SqL K H a xs) : SqL K H' a xs := by
  rcases h with (h | ⟨o, h⟩) | h
  · exact .inl (.inl (f _ _ ne h))
  · exact .inl (.inr ⟨o, f _ _ ne h⟩)
  · exact .inr h
theorem Fr.tup {K : PySem.W.Frag} {p : Addr} {H H' : Hp} {xs : List V} (f : Fr p H H') (hp : H p = some (.lst xs)) : Tup K H H' := fun a ys h => by
  rcases h with (h | ⟨o, h⟩) | h
  · exact .inl (.inl (f _ _ (ne_of h hp (fun z => nomatch z)) h))
  · exact .inl (.inr ⟨o, f _ _ (ne_of h hp (fun z => nomatch z)) h⟩)
  · exact .inr h
theorem same_new {H : Hp} {a : Addr} {o : HO} (n : H a = none) : Same H (L2.upd H a o) := fun b u h => by rw [upd_ne (ne_of_none h n)]; exact h
/-- what is newer than H may change -/
theorem same_mut {H H' : Hp} {a : Addr} {o : HO} (s : Same H H') (n : H a = none) : Same H (L2.upd H' a o) := fun b u h => by rw [upd_ne (ne_of_none h n)]; exact s b u h
theorem sz_le {n : Nat} (h : n ≤ 1000000) : n ≤ sizeLine := by rw [sizeLine_eq]; omega
theorem sz_lt {n : Nat} (h : n ≤ 1000000) : n < sizeLine := by rw [sizeLine_eq]; omega
def rAddU (K : PySem.W.Frag) : R2 := fun x y H Q => (rI0 (fun i j => .int (i + j)) x y H Q ∨ (∃ i j, x = .str i ∧ y = .str j ∧ i.length + j.length ≤ sizeLine ∧ Q (.str (i ++ j)) H)) ∨ rCat x y H Q ∨ rCatT K x y H Q
def rEqU (K : PySem.W.Frag) : R2 := fun x y H Q => rEq x y H Q ∨ rEqT K x y H Q
def rLtU (K : PySem.W.Frag) : R2 := fun x y H Q => rI0 (fun i j => .bl (decide (i < j))) x y H Q ∨ rLtK K x y H Q
def rLenU (P : Program) (w : World) (K : PySem.W.Frag) : List V → Hp → VK → Prop := fun xs H Q => ((∃ p ys, xs = [.ref p] ∧ (SqL K H p ys ∨ SqT K H p ys) ∧ Q (.int ys.length) H) ∨ (∃ z : Str, xs = [.str z] ∧ z.length ≤ sizeLine ∧ Q (.int z.length) H)) ∨ (∃ d kvs, xs = [.ref d] ∧ NdAt P w K H d kvs ∧ Q (.int kvs.length) H)
section
variable {X : Cx}
theorem op_addU {K : PySem.W.Frag} (hX : X.K = K := by rfl) : OpR X (binaryOp .Add) (rAddU K) := by subst hX; exact OpR.or (OpR.or op_add op_add_str) (OpR.or op_cat op_catT)
theorem op_eqU {K : PySem.W.Frag} (hu : X.A.units + 40 < cLine) (hX : X.K = K := by rfl) : OpR X (compareOp .Eq) (rEqU K) := by subst hX; exact OpR.or op_eq (op_eqT hu)
theorem op_ltU {K : PySem.W.Frag} (hu : X.A.units + 40 < cLine) (hX : X.K = K := by rfl) : OpR X (compareOp .Lt) (rLtU K) := by subst hX; exact OpR.or op_lt (op_ltK hu)
theorem call_lenU {P : Program} {w : World} {K : PySem.W.Frag} (hX : X.prog = P ∧ X.w = w ∧ X.K = K := by exact ⟨rfl, rfl, rfl⟩) : CallR X (.builtin "len") (rLenU P w K) := by obtain ⟨rfl, rfl, rfl⟩ := hX; exact CallR.or (CallR.or call_len_seq call_len_str) call_nlen
end
def rIntC : List V → Hp → VK → Prop := fun xs H Q => (∃ i, xs = [.int i] ∧ Q (.int i) H) ∨ ∃ k, xs = [.bl k] ∧ Q (.int (if k then 1 else 0)) H
def rAbsC : List V → Hp → VK → Prop := fun xs H Q => ∃ i, xs = [.int i] ∧ Q (.int (if i < 0 then -i else i)) H
def rTupC (K : PySem.W.Frag) : List V → Hp → VK → Prop := fun xs H Q => ∃ p ys, xs = [.ref p] ∧ ((SqL K H p ys ∧ ∀ l, H l = none → Q (.ref l) (upd H l (.tup ys))) ∨ (SqT K H p ys ∧ Q (.ref p) H))
theorem call_intC {X : Cx} : CallR X (.type "int") rIntC := call_int1
theorem call_absC {X : Cx} : CallR X (.builtin "abs") rAbsC := call_abs
theorem call_tupC {X : Cx} {K : PySem.W.Frag} (hX : X.K = K := by rfl) : CallR X (.type "tuple") (rTupC K) := by subst hX; exact call_tuple_of
theorem ix_listK {X : Cx} {K : PySem.W.Frag} (hX : X.K = K := by rfl) : IxR X (rIxL K) := by subst hX; exact ix_list
theorem ix_tupK {X : Cx} {K : PySem.W.Frag} (hX : X.K = K := by rfl) : IxR X (rIxT K) := by subst hX; exact ix_tup
theorem sl_listK {X : Cx} {K : PySem.W.Frag} (hX : X.K = K := by rfl) : SlR X (rSlL K) := by subst hX; exact sl_list
theorem cr_allK {X : Cx} {K : PySem.W.Frag} (hc : X.calm = true) (hX : X.K = K := by rfl) : CallR X (.builtin "all") (rAll K) := by subst hX; exact cr_all hc
theorem cr_anyK {X : Cx} {K : PySem.W.Frag} (hc : X.calm = true) (hX : X.K = K := by rfl) : CallR X (.builtin "any") (rAny K) := by subst hX; exact cr_any hc
theorem cr_sortedSK {X : Cx} {K : PySem.W.Frag} (hX : X.K = K := by rfl) : CallR X (.builtin "sorted") (rSortedS K) := by subst hX; exact cr_sortedS
theorem pg_tupK {X : Cx} {K : PySem.W.Frag} {es : List Expr} {k : Nat} {t : TGs} {pos : Pos} (n : Nat) (hc : X.calm = true) (h : PGs X es t) (hn : (assignEach es X.env).length = n := by rfl) (hst : (assignEach es X.env).findIdx? (·.1) = none := by rfl) (hX : X.K = K := by rfl) : PG X (.Tuple es k pos) (gTup K n t) := by subst hX; exact pg_tup hc h hn hst
theorem call_isiK {X : Cx} {K : PySem.W.Frag} (hX : X.K = K := by rfl) : CallR X (.builtin "isinstance") (rIsi K) := by subst hX; exact call_isi
theorem rd_isi {K : PySem.W.Frag} {H : Hp} {Q : VK} {x : V} {a b : String} {r : Bool} (ht : TyX K H x (.type a)) (hk : kitB a b = some r) (h : Q (.bl r) H) : rIsi K [x, .ty b] H Q := ⟨x, .ty b, _, _, r, rfl, .ty b, ht, kit_ty hk, h⟩
theorem iteNotF {A B : Prop} (h : A) : if (!false) = true then A else B := h
theorem iteNotT {A B : Prop} (h : B) : if (!true) = true then A else B := by rw [if_neg (by decide)]; exact h
theorem hu40_of {A : Around} {k : Nat} (hr : Room k A) : A.units + 40 < cLine := by have := hr.un; omega
theorem hu20_of {A : Around} {k : Nat} (hr : Room k A) : A.units + 20 < cLine := by have := hr.un; omega

/-! ### steps through a reading -/
section
variable {P : Program} {w : World} {K : PySem.W.Frag} {X : Cx} {σ : L2.St} {H : Hp} {Q : VK} {D : Ends} {t u : TS} {c d : TT} {te ta tb : TE} {tr : TA} {v x y : V} {i j : Int} {b : Bool} {QB : Bool → Hp → Prop} {g : TG}
theorem rd_seq (h : t { D with nx := u D } σ H) : tSeq t u D σ H := h
theorem rd_cut (Mid : L2.St → Hp → Prop) (h1 : t { D with nx := Mid } σ H) (h2 : ∀ σ' H', Mid σ' H' → u D σ' H') : C8.tCut t u D σ H := ⟨Mid, h1, h2⟩
theorem rd_next (h : D.nx σ H) : tNext D σ H := h
theorem rd_ret (h : te σ H D.rt) : tRet te D σ H := h
theorem rd_retN (h : D.rt .non H) : tRetN D σ H := h
theorem rd_drop (h : te σ H fun _ H1 => D.nx σ H1) : tDrop te D σ H := h
theorem rd_asg (h : te σ H fun x H1 => g x σ H1 D.nx) : tAsg te g D σ H := h
theorem rd_name {n : Nat} {Q : L2.St → Hp → Prop} (h : Q (σ.set n (some v)) H) : gName n v σ H Q := h
theorem rd_sub {to ti : TE} {s : TSet} {Q : L2.St → Hp → Prop} (h : to σ H fun o H1 => ti σ H1 fun i H2 => s o i v H2 fun H3 => Q σ H3) : gSub to ti s v σ H Q := h
theorem rd_ifs (h : c σ H fun b H1 => if b = true then t D σ H1 else u D σ H1) : tIfS c t u D σ H := h
theorem rd_op {r : R2} (h : ta σ H fun x H1 => tb σ H1 fun y H2 => r x y H2 Q) : tOp r ta tb σ H Q := h
theorem rd_un {r : V → Hp → VK → Prop} (h : ta σ H fun x H1 => r x H1 Q) : tUn r ta σ H Q := h
theorem rd_var {n : Nat} (e : σ[n]? = some (some v)) (h : Q v H) : tVar n σ H Q := ⟨v, e, h⟩
theorem rd_c (h : Q v H) : tC v σ H Q := h
theorem rd_test (h : te σ H fun x H' => ∃ k, x = .bl k ∧ QB k H') : tTest te σ H QB := h
theorem rd_tB (h : te σ H fun x H' => ∃ k, x = .bl k ∧ QB k H') : tB te σ H QB := h
theorem rd_bl (h : QB b H) : ∃ k, V.bl b = .bl k ∧ QB k H := ⟨b, rfl, h⟩
theorem rd_and (h : c σ H fun b H1 => if b = true then d σ H1 QB else QB false H1) : tAnd c d σ H QB := h
theorem rd_or (h : c σ H fun b H1 => if b = true then QB true H1 else d σ H1 QB) : tOr c d σ H QB := h
theorem rd_not (h : c σ H fun b H1 => QB (!b) H1) : tNot c σ H QB := h
theorem rd_andV (h : ta σ H fun x H1 => ∃ k, x = .bl k ∧ if k = true then tb σ H1 Q else Q (.bl false) H1) : tAndV ta tb σ H Q := h
theorem rd_orV (h : ta σ H fun x H1 => ∃ k, x = .bl k ∧ if k = true then Q (.bl true) H1 else tb σ H1 Q) : tOrV ta tb σ H Q := h
theorem rd_notV (h : ta σ H fun x H1 => ∃ k, x = .bl k ∧ Q (.bl (!k)) H1) : tNotV ta σ H Q := h
theorem rd_blQ {R : Bool → Prop} (h : R b) : ∃ k, V.bl b = .bl k ∧ R k := ⟨b, rfl, h⟩
theorem rd_if (h : c σ H fun b H1 => if b = true then ta σ H1 Q else tb σ H1 Q) : tIf c ta tb σ H Q := h
theorem rd_I0 {f : Int → Int → V} (h : Q (f i j) H) : rI0 f (.int i) (.int j) H Q := ⟨i, j, rfl, rfl, h⟩
theorem rd_I {C : Int → Int → Prop} {f : Int → Int → V} (hc : C i j) (h : Q (f i j) H) : rI C f (.int i) (.int j) H Q := ⟨i, j, rfl, rfl, hc, h⟩
theorem rd_U {f : Int → V} (h : Q (f i) H) : rU f (.int i) H Q := ⟨i, rfl, h⟩
theorem rd_addI (h : Q (.int (i + j)) H) : rAddU K (.int i) (.int j) H Q := .inl (.inl ⟨i, j, rfl, rfl, h⟩)
theorem rd_addS {z w : Str} (hz : z.length + w.length ≤ sizeLine) (h : Q (.str (z ++ w)) H) : rAddU K (.str z) (.str w) H Q := .inl (.inr ⟨z, w, rfl, rfl, hz, h⟩)
theorem rd_addL {a b : Addr} {xs ys : List V} (ha : H a = some (.lst xs)) (hb : H b = some (.lst ys)) (hz : xs.length + ys.length ≤ sizeLine) (h : ∀ p, H p = none → Q (.ref p) (upd H p (.lst (xs ++ ys)))) : rAddU K (.ref a) (.ref b) H Q :=
  .inr (.inl ⟨a, b, xs, ys, rfl, rfl, ha, hb, hz, h⟩)
theorem rd_eqI (h : Q (.bl (decide (i = j))) H) : rEqU K (.int i) (.int j) H Q := .inl ⟨rfl, by
  rw [show decide (V.int i = V.int j) = decide (i = j) from decide_eq_decide.mpr ⟨fun e => V.int.inj e, fun e => congrArg V.int e⟩]; exact h⟩
theorem rd_eqS {z w : Str} (h : Q (.bl (decide (z = w))) H) : rEqU K (.str z) (.str w) H Q := .inl ⟨rfl, by
  rw [show decide (V.str z = V.str w) = decide (z = w) from decide_eq_decide.mpr ⟨fun e => V.str.inj e, fun e => congrArg V.str e⟩]; exact h⟩
theorem rd_eqB {z w : Bool} (h : Q (.bl (decide (z = w))) H) : rEqU K (.bl z) (.bl w) H Q := .inl ⟨rfl, by
  rw [show decide (V.bl z = V.bl w) = decide (z = w) from decide_eq_decide.mpr ⟨fun e => V.bl.inj e, fun e => congrArg V.bl e⟩]; exact h⟩
theorem rd_eqT {ks ls : List NestedKey} (hx : IsK K H (.tup ks) x) (hy : IsK K H (.tup ls) y) (hd : NestedKey.depthAll ks ≤ 30) (h : Q (.bl (decide (ks = ls))) H) : rEqU K x y H Q := .inr ⟨ks, ls, hx, hy, hd, h⟩
theorem rd_ltI (h : Q (.bl (decide (i < j))) H) : rLtU K (.int i) (.int j) H Q := .inl ⟨i, j, rfl, rfl, h⟩
theorem rd_ixl {p : Addr} {xs : List V} (hp : SqL K H p xs) (ha : atI xs i = some v) (h : Q v H) : rIxL K (.ref p) (.int i) H Q := ⟨p, xs, i, v, rfl, rfl, hp, ha, h⟩
theorem rd_ixt {p : Addr} {xs : List V} (hp : SqT K H p xs) (ha : atI xs i = some v) (h : Q v H) : rIxT K (.ref p) (.int i) H Q := ⟨p, xs, i, v, rfl, rfl, hp, ha, h⟩
theorem rd_ixs {z : Str} {a : Nat} (hz : z.length ≤ sizeLine) (ha : atI z.cps.toList i = some a) (h : Q (.str ⟨#[a]⟩) H) : rIxS (.str z) (.int i) H Q := ⟨z, i, a, rfl, rfl, hz, ha, h⟩
theorem rd_setl {p : Addr} {xs : List V} {n : Nat} {R : Hp → Prop} (hp : H p = some (.lst xs)) (hn : ixN xs.length i = some n) (h : R (upd H p (.lst (xs.set n v)))) : rSetL (.ref p) (.int i) v H R := ⟨p, xs, i, n, rfl, rfl, hp, hn, h⟩
theorem rd_setl' {p : Addr} {xs : List V} {n : Nat} {R : Hp → Prop} (hp : H p = some (.lst xs)) (hn : ixN xs.length i = some n) (h : ∀ H' : Hp, H' p = some (.lst (xs.set n v)) → (∀ b, b ≠ p → H' b = H b) → R H') : rSetL (.ref p) (.int i) v H R :=
  rd_setl hp hn (h _ upd_same fun b hb => upd_ne hb)
theorem rd_cb {r : List V → Hp → VK → Prop} (h : tr σ H fun vs H1 => r vs H1 Q) : tCB r tr σ H Q := h
theorem rd_nil {Q : List V → Hp → Prop} (h : Q [] H) : tNil σ H Q := h
theorem rd_cons {Q : List V → Hp → Prop} (h : ta σ H fun x H1 => tr σ H1 fun xs H2 => Q (x :: xs) H2) : tCons ta tr σ H Q := h
theorem rd_call {sp : Sp} {dvs : List V} {E : XK} (h : tr σ H fun vs H1 => sp (vs ++ dvs) H1 Q E) : tCall sp dvs E tr σ H Q := h
theorem rd_tup (h : tr σ H fun xs H1 => xs.length ≤ sizeLine ∧ ∀ p, H1 p = none → Q (.ref p) (upd H1 p (.tup xs))) : tTup tr σ H Q := h
theorem rd_lst (h : tr σ H fun xs H1 => xs.length ≤ sizeLine ∧ ∀ p, H1 p = none → Q (.ref p) (upd H1 p (.lst xs))) : tLst tr σ H Q := h
theorem rd_lenL {p : Addr} {xs : List V} (hp : SqL K H p xs) (h : Q (.int xs.length) H) : rLenU P w K [.ref p] H Q := .inl (.inl ⟨p, xs, rfl, .inl hp, h⟩)
theorem rd_lenT {p : Addr} {xs : List V} (hp : SqT K H p xs) (h : Q (.int xs.length) H) : rLenU P w K [.ref p] H Q := .inl (.inl ⟨p, xs, rfl, .inr hp, h⟩)
theorem rd_lenS {z : Str} (hz : z.length ≤ sizeLine) (h : Q (.int z.length) H) : rLenU P w K [.str z] H Q := .inl (.inr ⟨z, rfl, hz, h⟩)
theorem rd_lenN {p : Addr} {kvs : List (NestedKey × V)} (n : NdAt P w K H p kvs) (h : Q (.int kvs.length) H) : rLenU P w K [.ref p] H Q := .inr ⟨p, kvs, rfl, n, h⟩
theorem rd_intI (h : Q (.int i) H) : rIntC [.int i] H Q := .inl ⟨i, rfl, h⟩
theorem rd_absI (h : Q (.int (if i < 0 then -i else i)) H) : rAbsC [.int i] H Q := ⟨i, rfl, h⟩
theorem rd_tupL {p : Addr} {ys : List V} (hp : SqL K H p ys) (h : ∀ l, H l = none → Q (.ref l) (upd H l (.tup ys))) : rTupC K [.ref p] H Q := ⟨p, ys, rfl, .inl ⟨hp, h⟩⟩
theorem rd_pow {f : Int → Int → V} (h0 : 0 ≤ j) (h1 : j ≤ 1000000) (h2 : i.natAbs < 2 ^ 64) (h : Q (f i j) H) : rI CPow f (.int i) (.int j) H Q := ⟨i, j, rfl, rfl, ⟨h0, h1, h2⟩, h⟩
theorem rd_mod {f : Int → Int → V} (h0 : j ≠ 0) (h : Q (f i j) H) : rI (fun _ j => j ≠ 0) f (.int i) (.int j) H Q := ⟨i, j, rfl, rfl, h0, h⟩
theorem rd_mulL {f : Int → Int → V} (h0 : -(2 ^ 64) < i) (h1 : i < 2 ^ 64) (h : Q (f i j) H) : rI CMul f (.int i) (.int j) H Q := ⟨i, j, rfl, rfl, .inl ⟨h0, h1⟩, h⟩
theorem rd_mulR {f : Int → Int → V} (h0 : -(2 ^ 64) < j) (h1 : j < 2 ^ 64) (h : Q (f i j) H) : rI CMul f (.int i) (.int j) H Q := ⟨i, j, rfl, rfl, .inr ⟨h0, h1⟩, h⟩
theorem rd_divW {n : Nat} {f : Int → Int → V} (h0 : 0 < j) (hb : j.natAbs < 2 ^ n) (hn : 0 < n) (h9 : n ≤ 9000) (h : Q (f i j) H) : rI CDivW f (.int i) (.int j) H Q := ⟨i, j, rfl, rfl, wide_div h0 hb hn h9, h⟩
theorem rd_bm {T : String} {r : V → List V → Hp → VK → Prop} (h : te σ H fun x H1 => tyV K T x H1 ∧ tr σ H1 fun xs H2 => r x xs H2 Q) : tBM K T r te tr σ H Q := h
theorem sql {a : Addr} {xs : List V} (h : H a = some (.lst xs)) : SqL K H a xs := .inl (.inl h)
theorem sqt {a : Addr} {xs : List V} (h : H a = some (.tup xs)) : SqT K H a xs := .inl (.inl h)
theorem rd_app {p : Addr} {xs : List V} (hp : H p = some (.lst xs)) (hz : xs.length < sizeLine) (h : Q .non (upd H p (.lst (xs ++ [y])))) : rAppend (.ref p) [y] H Q := ⟨p, xs, y, rfl, rfl, hp, hz, h⟩
end
end HH
namespace HH
open PySem PySem.Spec PyProof.Rows L2 PySem.SeqAt
section
variable {P : Program} {w : World} {K : PySem.W.Frag} {σ : L2.St} {H : Hp} {Q : VK} {D : Ends} {te tl : TE} {ta : TA} {tt : TT} {tb : TS} {g : TG} {wi : TI} {vs : List Nat}
theorem rd_lc (h : wi σ H fun J H1 => ∀ D, H1 D = none → ∃ W : Nat → Nat → Hp → Prop, (∃ m, W 0 m (upd H1 D (.lst []))) ∧ ∀ i m H, W i m H →
    (J.stop i H ∧ Q (.ref D) H) ∨ (J.go i H ∧ ∃ Nx : Hp → Prop, (∀ H', Nx H' → ∃ m', m' < m ∧ W (i + 1) m' H') ∧ ∀ x H', J.yld i H x H' → g x (wipe σ vs) H' fun σ2 H2 => wipe σ2 vs = wipe σ vs ∧ tt σ2 H2 fun b H3 =>
      if b = true then te σ2 H3 fun y H4 => ∃ acc, H4 D = some (.lst acc) ∧ acc.length < sizeLine ∧ Nx (upd H4 D (.lst (acc ++ [y]))) else Nx H3)) : tLc wi g tt te vs σ H Q := h
theorem rd_for (h : wi σ H fun J H1 => ∃ W : Nat → Nat → L2.St → Hp → Prop, (∃ m, W 0 m σ H1) ∧ ∀ i m σ H, W i m σ H →
    (J.stop i H ∧ D.nx σ H) ∨ (J.go i H ∧ ∃ N : L2.St → Hp → Prop, (∀ σ' H', N σ' H' → ∃ m', m' < m ∧ W (i + 1) m' σ' H') ∧ ∀ x H', J.yld i H x H' → g x σ H' fun σ2 H2 => tb { D with nx := N, ct := N, bk := D.nx } σ2 H2)) : tFor wi g tb D σ H := h
theorem rd_iL {R : It → Hp → Prop} (h : tl σ H fun x H1 => ∃ a, x = .ref a ∧ (∃ xs, SqL K H1 a xs) ∧ R (Itl K a) H1) : iList K tl σ H R := h
theorem rd_iT {R : It → Hp → Prop} (h : tl σ H fun x H1 => ∃ a, x = .ref a ∧ (∃ xs, SqT K H1 a xs) ∧ R (Itt K a) H1) : iTup K tl σ H R := h
theorem rd_iR1 {R : It → Hp → Prop} (h : ta σ H fun vs H1 => ∃ j : Int, vs = [.int j] ∧ -(2 ^ 62) ≤ j ∧ j < 2 ^ 62 ∧ R (Itr 0 j.toNat) H1) : iRng1 ta σ H R := h
theorem rd_iS {R : It → Hp → Prop} (h : tl σ H fun v H1 => ∃ x, v = .str x ∧ R (Its x) H1) : iStr tl σ H R := h
theorem rd_leafS {z : Str} {R : Str → Prop} (h : R z) : ∃ x, V.str z = .str x ∧ R x := ⟨z, rfl, h⟩
theorem rd_leafR {n : Int} {R : Int → Prop} (h1 : -(2 ^ 62) ≤ n) (h2 : n < 2 ^ 62) (h : R n) : ∃ j : Int, [V.int n] = [.int j] ∧ -(2 ^ 62) ≤ j ∧ j < 2 ^ 62 ∧ R j := ⟨n, rfl, h1, h2, h⟩
theorem rd_leafL {p : Addr} {xs : List V} {R : Addr → Prop} (hp : SqL K H p xs) (h : R p) : ∃ a, V.ref p = .ref a ∧ (∃ xs, SqL K H a xs) ∧ R a := ⟨p, rfl, ⟨_, hp⟩, h⟩
theorem rd_leafT {p : Addr} {xs : List V} {R : Addr → Prop} (hp : SqT K H p xs) (h : R p) : ∃ a, V.ref p = .ref a ∧ (∃ xs, SqT K H a xs) ∧ R a := ⟨p, rfl, ⟨_, hp⟩, h⟩
theorem rd_sl {r : V → Option Int → Option Int → Hp → VK → Prop} {lo hi : TO} (h : te σ H fun x H1 => lo σ H1 fun l H2 => hi σ H2 fun u H3 => r x l u H3 Q) : tSl r te lo hi σ H Q := h
theorem rd_noPart {Q : Option Int → Hp → Prop} (h : Q none H) : tNoPart σ H Q := h
theorem rd_part {Q : Option Int → Hp → Prop} (h : te σ H fun x H1 => ∃ i, x = .int i ∧ Q (some i) H1) : tPart te σ H Q := h
theorem rd_leafI {i : Int} {R : Int → Prop} (h : R i) : ∃ j, V.int i = .int j ∧ R j := ⟨i, rfl, h⟩
theorem rd_slL {p : Addr} {xs : List V} {lo hi : Option Int} (hp : SqL K H p xs) (h : ∀ q, H q = none → Q (.ref q) (upd H q (.lst (cutV xs lo hi)))) : rSlL K (.ref p) lo hi H Q := ⟨p, xs, rfl, hp, h⟩
theorem rd_slS {z : Str} {lo hi : Option Int} (hz : z.length ≤ sizeLine) (h : Q (.str (cutS z lo hi)) H) : rSlS (.str z) lo hi H Q := ⟨z, rfl, hz, h⟩
theorem rd_yes {Q : Bool → Hp → Prop} (h : Q true H) : tYes σ H Q := h
/-- a list comprehension over a list: σ' the slots, its own names forgotten -/
theorem lc_listW {a : Addr} {xs : List V} {H1 : Hp} {D : Addr} {Qd : Hp → Prop} (σ' : L2.St) (hw : wipe σ vs = σ') (Pv : Nat → Hp → Prop) (h0 : Pv 0 (upd H1 D (.lst []))) (hl : ∀ i H, i ≤ xs.length → Pv i H → SqL K H a xs)
    (hs : ∀ i x H, xs[i]? = some x → Pv i H → g x σ' H fun σ2 H2 => wipe σ2 vs = σ' ∧ tt σ2 H2 fun b H3 =>
      if b = true then te σ2 H3 fun y H4 => ∃ acc, H4 D = some (.lst acc) ∧ acc.length < sizeLine ∧ Pv (i + 1) (upd H4 D (.lst (acc ++ [y]))) else Pv (i + 1) H3) (hd : ∀ H, Pv xs.length H → Qd H) :
    ∃ W : Nat → Nat → Hp → Prop, (∃ m, W 0 m (upd H1 D (.lst []))) ∧ ∀ i m H, W i m H →
      ((Itl K a).stop i H ∧ Qd H) ∨ ((Itl K a).go i H ∧ ∃ Nx : Hp → Prop, (∀ H', Nx H' → ∃ m', m' < m ∧ W (i + 1) m' H') ∧ ∀ x H', (Itl K a).yld i H x H' → g x (wipe σ vs) H' fun σ2 H2 => wipe σ2 vs = wipe σ vs ∧ tt σ2 H2 fun b H3 =>
        if b = true then te σ2 H3 fun y H4 => ∃ acc, H4 D = some (.lst acc) ∧ acc.length < sizeLine ∧ Nx (upd H4 D (.lst (acc ++ [y]))) else Nx H3) := by
  subst hw
  exact lc_list Pv h0 hl hs hd
theorem lc_tupW {a : Addr} {xs : List V} {H1 : Hp} {D : Addr} {Qd : Hp → Prop} (σ' : L2.St) (hw : wipe σ vs = σ') (Pv : Nat → Hp → Prop) (h0 : Pv 0 (upd H1 D (.lst []))) (hl : ∀ i H, i ≤ xs.length → Pv i H → SqT K H a xs)
    (hs : ∀ i x H, xs[i]? = some x → Pv i H → g x σ' H fun σ2 H2 => wipe σ2 vs = σ' ∧ tt σ2 H2 fun b H3 =>
      if b = true then te σ2 H3 fun y H4 => ∃ acc, H4 D = some (.lst acc) ∧ acc.length < sizeLine ∧ Pv (i + 1) (upd H4 D (.lst (acc ++ [y]))) else Pv (i + 1) H3) (hd : ∀ H, Pv xs.length H → Qd H) :
    ∃ W : Nat → Nat → Hp → Prop, (∃ m, W 0 m (upd H1 D (.lst []))) ∧ ∀ i m H, W i m H →
      ((Itt K a).stop i H ∧ Qd H) ∨ ((Itt K a).go i H ∧ ∃ Nx : Hp → Prop, (∀ H', Nx H' → ∃ m', m' < m ∧ W (i + 1) m' H') ∧ ∀ x H', (Itt K a).yld i H x H' → g x (wipe σ vs) H' fun σ2 H2 => wipe σ2 vs = wipe σ vs ∧ tt σ2 H2 fun b H3 =>
        if b = true then te σ2 H3 fun y H4 => ∃ acc, H4 D = some (.lst acc) ∧ acc.length < sizeLine ∧ Nx (upd H4 D (.lst (acc ++ [y]))) else Nx H3) := by
  subst hw
  exact lc_tup Pv h0 hl hs hd
theorem cut_map {α : Type} (f : α → V) (xs : List α) (lo hi : Option Int) : ∃ ys : List α, cutV (xs.map f) lo hi = ys.map f ∧ ys.length ≤ xs.length ∧ ∀ y ∈ ys, y ∈ xs := by
  unfold cutV
  rw [← List.map_drop, ← List.map_take]
  exact ⟨_, rfl, by rw [List.length_take, List.length_drop]; omega, fun y hy => List.mem_of_mem_drop (List.mem_of_mem_take hy)⟩
end
end HH
namespace HH
open PySem PySem.Spec PyProof.Rows L2 PySem.SeqAt
/-- the codes of a text -/
abbrev cds (z : Str) : List Nat := z.cps.toList
theorem cds_app (a b : Str) : cds (a ++ b) = cds a ++ cds b := by
  show (a ++ b).cps.toList = _
  rw [Str.cps_append, Array.toList_append]
theorem len_cds (z : Str) : z.length = (cds z).length := by simp [Str.length, cds]
theorem cds_one (c : Nat) : cds ⟨#[c]⟩ = [c] := rfl
theorem cds_cut (z : Str) (lo hi : Option Int) : cds (cutS z lo hi) = ((cds z).drop (HT.sIx z.length 0 lo)).take (HT.sIx z.length z.length hi - HT.sIx z.length 0 lo) := rfl
theorem sIx_le' {n k : Nat} {i : Int} (h0 : 0 ≤ i) (h : i.toNat = k) : HT.sIx n 0 (some i) = min k n := by
  obtain ⟨m, rfl⟩ := Int.eq_ofNat_of_zero_le h0
  have : m = k := by simpa using h
  subst this
  exact HT.sIx_nat n 0 m
theorem sIx_ge' {n k : Nat} {i : Int} (h0 : 0 ≤ i) (h : i.toNat = k) : HT.sIx n n (some i) = min k n := by
  obtain ⟨m, rfl⟩ := Int.eq_ofNat_of_zero_le h0
  have : m = k := by simpa using h
  subst this
  exact HT.sIx_nat n n m
theorem cds_upto (z : Str) {i : Int} (h0 : 0 ≤ i) : cds (cutS z none (some i)) = (cds z).take i.toNat := by
  rw [cds_cut, HT.sIx_none, sIx_ge' h0 rfl, List.drop_zero, Nat.sub_zero, len_cds]
  rcases Nat.le_total i.toNat (cds z).length with h | h
  · rw [Nat.min_eq_left h]
  · rw [Nat.min_eq_right h, List.take_length, List.take_of_length_le h]
theorem cds_from (z : Str) {i : Int} (h0 : 0 ≤ i) : cds (cutS z (some i) none) = (cds z).drop i.toNat := by
  rw [cds_cut, HT.sIx_none, sIx_le' h0 rfl, len_cds]
  rcases Nat.le_total i.toNat (cds z).length with h | h
  · rw [Nat.min_eq_left h]
    exact List.take_of_length_le (by rw [List.length_drop]; omega)
  · rw [Nat.min_eq_right h, List.drop_length, List.drop_of_length_le h]
    exact List.take_nil
/-- a to z -/
def Low (z : Str) : Prop := ∀ c ∈ cds z, 97 ≤ c ∧ c ≤ 122
theorem Low.app {a b : Str} (ha : Low a) (hb : Low b) : Low (a ++ b) := fun c hc => by
  rw [cds_app, List.mem_append] at hc
  exact hc.elim (ha c) (hb c)
theorem Low.cut {z : Str} (h : Low z) (lo hi : Option Int) : Low (cutS z lo hi) := fun c hc => h c (by
  rw [cds_cut] at hc
  exact List.mem_of_mem_drop (List.mem_of_mem_take hc))
theorem Low.one {c : Nat} (h1 : 97 ≤ c) (h2 : c ≤ 122) : Low ⟨#[c]⟩ := fun d hd => by
  rw [cds_one, List.mem_singleton] at hd
  omega
theorem letters_at {r : Int} (h0 : 0 ≤ r) (h1 : r < 26) : atI (cds "abcdefghijklmnopqrstuvwxyz") r = some (97 + r.toNat) := by
  have e : cds "abcdefghijklmnopqrstuvwxyz" = List.range' 97 26 := by decide +kernel
  obtain ⟨n, rfl⟩ := Int.eq_ofNat_of_zero_le h0
  have hn : n < 26 := by omega
  rw [e]
  exact atI_nat (j := n) (by rw [List.getElem?_range' (by omega)]; simp)
/-! ### in -/
def rDIn (neg : Bool) : R2 := fun y x H Q => ∃ a o, x = .ref a ∧ DGet H a y o ∧ Q (.bl (if neg = true then !o.isSome else o.isSome)) H
def rInU (P : Program) (w : World) (K : PySem.W.Frag) (neg : Bool) : R2 := fun x y H Q => (rIn K neg x y H Q ∨ rNIn P w K neg x y H Q) ∨ rDIn neg x y H Q
section
variable {X : Cx}
theorem op_din (hu : X.A.units + 1 < cLine) : OpR X (compareOp .In) (rDIn false) := by
  intro pins s σ H y x u r Q I ry rx h
  obtain ⟨a, o, ex, g, q⟩ := h
  subst ex
  obtain rfl : r = Value.ref a := rx
  exact d_in hu I g ry fun s' I' => ⟨.bl o.isSome, H, I', rfl, q⟩
theorem op_dnotin (hu : X.A.units + 1 < cLine) : OpR X (compareOp .NotIn) (rDIn true) := by
  intro pins s σ H y x u r Q I ry rx h
  obtain ⟨a, o, ex, g, q⟩ := h
  subst ex
  obtain rfl : r = Value.ref a := rx
  exact d_notIn hu I g ry fun s' I' => ⟨.bl (!o.isSome), H, I', rfl, q⟩
theorem op_inU {P : Program} {w : World} {K : PySem.W.Frag} (hu : X.A.units + 20 < cLine) (hX : X.prog = P ∧ X.w = w ∧ X.K = K := by exact ⟨rfl, rfl, rfl⟩) : OpR X (compareOp .In) (rInU P w K false) := by obtain ⟨rfl, rfl, rfl⟩ := hX; exact OpR.or (OpR.or op_in_seq (op_nin hu)) (op_din (by omega))
theorem op_ninU {P : Program} {w : World} {K : PySem.W.Frag} (hu : X.A.units + 20 < cLine) (hX : X.prog = P ∧ X.w = w ∧ X.K = K := by exact ⟨rfl, rfl, rfl⟩) : OpR X (compareOp .NotIn) (rInU P w K true) := by obtain ⟨rfl, rfl, rfl⟩ := hX; exact OpR.or (OpR.or op_notIn_seq (op_nnotin hu)) (op_dnotin (by omega))
end
section
variable {P : Program} {w : World} {K : PySem.W.Frag} {H : Hp} {Q : VK} {neg : Bool}
theorem inV_strs (z : Str) (xs : List Str) : inV (.str z) (xs.map V.str) = decide (z ∈ xs) := by
  unfold inV
  rw [List.any_map, Bool.eq_iff_iff, List.any_eq_true, decide_eq_true_eq]
  constructor
  · rintro ⟨x, hx, e⟩
    have e' : (x == z) = true := e
    rw [← eq_of_beq e']; exact hx
  · intro h
    exact ⟨z, h, beq_self_eq_true z⟩
theorem flat_strs (xs : List Str) : (xs.map V.str).all flatV = true := by
  rw [List.all_map, List.all_eq_true]; intro x _; rfl
theorem rd_inS {z : Str} {p : Addr} {xs : List Str} (hp : SqL K H p (xs.map V.str)) (h : Q (.bl (decide (z ∈ xs))) H) : rInU P w K false (.str z) (.ref p) H Q :=
  .inl (.inl ⟨p, _, rfl, .inl hp, rfl, flat_strs xs, by rw [inV_strs]; exact h⟩)
theorem rd_ninS {z : Str} {p : Addr} {xs : List Str} (hp : SqL K H p (xs.map V.str)) (h : Q (.bl (!decide (z ∈ xs))) H) : rInU P w K true (.str z) (.ref p) H Q :=
  .inl (.inl ⟨p, _, rfl, .inl hp, rfl, flat_strs xs, by rw [inV_strs]; exact h⟩)
theorem rd_inN {x : V} {d : Addr} {kvs : List (NestedKey × V)} {k : NestedKey} (n : NdAt P w K H d kvs) (hy : KeyAt K H k x) (h : Q (.bl (valV kvs k).isSome) H) : rInU P w K false x (.ref d) H Q :=
  .inl (.inr ⟨d, kvs, k, rfl, n, hy, h⟩)
theorem rd_ninN {x : V} {d : Addr} {kvs : List (NestedKey × V)} {k : NestedKey} (n : NdAt P w K H d kvs) (hy : KeyAt K H k x) (h : Q (.bl (!(valV kvs k).isSome)) H) : rInU P w K true x (.ref d) H Q :=
  .inl (.inr ⟨d, kvs, k, rfl, n, hy, h⟩)
theorem rd_sortS {a : Addr} {xs : List Str} (ha : SqL K H a (xs.map V.str)) (hl : xs.length < 64) (h : ∀ (ys : List Str) (p : Addr), ys.Perm xs → sortedS ys = true → H p = none → Q (.ref p) (upd H p (.lst (ys.map V.str)))) : rSortedS K [.ref a] H Q :=
  ⟨a, xs, rfl, ha, hl, h⟩
end
end HH
namespace HH
open PySem PySem.Spec PyProof.Rows L2 PySem.SeqAt
/-! ### tables from texts to whole numbers -/
abbrev Tab := List (Str × Int)
section
variable {α : Type} [DecidableEq α]
def tget (m : List (α × Int)) (z : α) : Option Int := (m.find? fun q => decide (q.1 = z)).map (·.2)
def tput (m : List (α × Int)) (z : α) (n : Int) : List (α × Int) := if z ∈ m.map (·.1) then m.map (fun q => if q.1 = z then (q.1, n) else q) else m ++ [(z, n)]
def tdrop (m : List (α × Int)) (z : α) : List (α × Int) := m.filter fun q => decide (q.1 ≠ z)
theorem tget_cons_pos {q : α × Int} {m : List (α × Int)} {z : α} (e : q.1 = z) : tget (q :: m) z = some q.2 := by simp [tget, List.find?_cons, e]
theorem tget_cons_neg {q : α × Int} {m : List (α × Int)} {z : α} (e : ¬ q.1 = z) : tget (q :: m) z = tget m z := by simp [tget, List.find?_cons, e]
theorem tget_some {m : List (α × Int)} {z : α} : (tget m z).isSome = true ↔ z ∈ m.map (·.1) := by
  induction m with
  | nil => simp [tget]
  | cons q m ih =>
    by_cases e : q.1 = z
    · simp [tget_cons_pos e, e]
    · have e' : ¬ z = q.1 := fun h => e h.symm
      rw [tget_cons_neg e, ih]
      simp [e']
theorem tget_none {m : List (α × Int)} {z : α} (h : z ∉ m.map (·.1)) : tget m z = none := by
  cases q : tget m z with
  | none => rfl
  | some n => exact absurd (tget_some.mp (by rw [q]; rfl)) h
theorem tget_mem {m : List (α × Int)} {z : α} {n : Int} (h : tget m z = some n) : (z, n) ∈ m := by
  unfold tget at h
  obtain ⟨q, hq, e⟩ := Option.map_eq_some_iff.mp h
  have h1 := List.mem_of_find?_eq_some hq
  have h2 := List.find?_some hq
  simp only [decide_eq_true_eq] at h2
  rw [← h2, ← e]
  exact h1
theorem mem_tget {m : List (α × Int)} {z : α} {n : Int} (nd : (m.map (·.1)).Nodup) (h : (z, n) ∈ m) : tget m z = some n := by
  induction m with
  | nil => cases h
  | cons q m ih =>
    rw [List.map_cons, List.nodup_cons] at nd
    rcases List.mem_cons.mp h with e | e
    · subst e
      exact tget_cons_pos rfl
    · have ne : ¬ q.1 = z := fun h => nd.1 (by rw [h]; exact List.mem_map.mpr ⟨(z, n), e, rfl⟩)
      rw [tget_cons_neg ne]
      exact ih nd.2 e
theorem tput_keys (m : List (α × Int)) (z : α) (n : Int) : (tput m z n).map (·.1) = if z ∈ m.map (·.1) then m.map (·.1) else m.map (·.1) ++ [z] := by
  unfold tput
  split
  · rw [List.map_map]
    refine List.map_congr_left fun q _ => ?_
    show (if q.1 = z then (q.1, n) else q).1 = q.1
    split <;> rfl
  · simp
theorem tput_nodup {m : List (α × Int)} {z : α} {n : Int} (nd : (m.map (·.1)).Nodup) : ((tput m z n).map (·.1)).Nodup := by
  rw [tput_keys]
  split
  · exact nd
  · rename_i h
    exact List.nodup_append.mpr ⟨nd, List.nodup_cons.mpr ⟨List.not_mem_nil, List.nodup_nil⟩, fun a ha b hb e => h (by rw [List.mem_singleton.mp hb] at e; rw [← e]; exact ha)⟩
theorem mem_tput {m : List (α × Int)} {z : α} {n : Int} {q : α × Int} (h : q ∈ tput m z n) : q ∈ m ∨ q = (z, n) := by
  unfold tput at h
  split at h
  · obtain ⟨r, hr, e⟩ := List.mem_map.mp h
    split at e
    · rename_i e2
      exact .inr (by rw [← e, e2])
    · exact .inl (by rw [← e]; exact hr)
  · rcases List.mem_append.mp h with h | h
    · exact .inl h
    · exact .inr (List.mem_singleton.mp h)
theorem tput_len (m : List (α × Int)) (z : α) (n : Int) : (tput m z n).length ≤ m.length + 1 := by
  unfold tput
  split
  · rw [List.length_map]; omega
  · rw [List.length_append]; simp
theorem tput_ne (m : List (α × Int)) (z : α) (n : Int) : 1 ≤ (tput m z n).length := by
  unfold tput
  split
  · rename_i h
    obtain ⟨q, hq, _⟩ := List.mem_map.mp h
    rw [List.length_map]
    exact List.length_pos_of_mem hq
  · rw [List.length_append]; simp
theorem tput_has {m : List (α × Int)} {z x : α} {n : Int} (h : x ∈ m.map (·.1) ∨ x = z) : x ∈ (tput m z n).map (·.1) := by
  rw [tput_keys]
  split
  · rename_i hz
    rcases h with h | h
    · exact h
    · rw [h]; exact hz
  · rcases h with h | h
    · exact List.mem_append_left _ h
    · rw [h]; exact List.mem_append_right _ (List.mem_singleton.mpr rfl)
theorem tdrop_nodup {m : List (α × Int)} {z : α} (nd : (m.map (·.1)).Nodup) : ((tdrop m z).map (·.1)).Nodup := nd.sublist (List.filter_sublist.map _)
theorem mem_tdrop {m : List (α × Int)} {z : α} {q : α × Int} (h : q ∈ tdrop m z) : q ∈ m := (List.mem_filter.mp h).1
theorem tdrop_len (m : List (α × Int)) (z : α) : (tdrop m z).length ≤ m.length := List.length_filter_le _ _
theorem upd_sum (z : α) (v : Int) : ∀ m : List (α × Int), (m.map (·.1)).Nodup → z ∈ m.map (·.1) → ((m.map fun q => if q.1 = z then (q.1, v) else q).map (·.2)).sum = (m.map (·.2)).sum + v - (tget m z).getD 0
  | [], _, h => by simp at h
  | q :: m, nd, h => by
    rw [List.map_cons, List.nodup_cons] at nd
    by_cases e : q.1 = z
    · have e2 : (m.map fun q => if q.1 = z then (q.1, v) else q) = m := by
        have : ∀ r ∈ m, (if r.1 = z then (r.1, v) else r) = r := fun r hr => if_neg fun h => nd.1 (by rw [e, ← h]; exact List.mem_map.mpr ⟨r, hr, rfl⟩)
        rw [List.map_congr_left this, List.map_id']
      rw [List.map_cons, if_pos e, e2, tget_cons_pos e, List.map_cons, List.map_cons, List.sum_cons, List.sum_cons]
      simp only [Option.getD_some]
      omega
    · have h' : z ∈ m.map (·.1) := by
        rw [List.map_cons] at h
        rcases List.mem_cons.mp h with r | r
        · exact absurd r.symm e
        · exact r
      have ih := upd_sum z v m nd.2 h'
      rw [List.map_cons, if_neg e, tget_cons_neg e, List.map_cons, List.map_cons, List.sum_cons, List.sum_cons, ih]
      omega
theorem tput_sum {m : List (α × Int)} (nd : (m.map (·.1)).Nodup) (z : α) (v : Int) : ((tput m z v).map (·.2)).sum = (m.map (·.2)).sum + v - (tget m z).getD 0 := by
  unfold tput
  split
  · rename_i h
    exact upd_sum z v m nd h
  · rename_i h
    rw [tget_none h, List.map_append, List.sum_append]
    simp
theorem perm_sum {a b : List Int} (h : a.Perm b) : a.sum = b.sum := by
  induction h with
  | nil => rfl
  | cons x _ ih => rw [List.sum_cons, List.sum_cons, ih]
  | swap x y l => simp only [List.sum_cons]; omega
  | trans _ _ h1 h2 => exact h1.trans h2
/-- the table in another order of its keys -/
theorem tab_perm {m : List (α × Int)} {ys : List α} (nd : (m.map (·.1)).Nodup) (pm : ys.Perm (m.map (·.1))) : (ys.map fun y => (y, (tget m y).getD 0)).Perm m := by
  have h := pm.map fun y => (y, (tget m y).getD 0)
  rw [List.map_map] at h
  have e : m.map ((fun y => (y, (tget m y).getD 0)) ∘ fun q => q.1) = m := by
    have : ∀ q ∈ m, ((fun y => (y, (tget m y).getD 0)) ∘ fun q : α × Int => q.1) q = q := fun q hq => by
      show (q.1, (tget m q.1).getD 0) = q
      rw [mem_tget nd (show (q.1, q.2) ∈ m from hq)]
      rfl
    rw [List.map_congr_left this, List.map_id']
  rw [e] at h
  exact h
/-! ### such a table as a dict's pairs -/
section
variable {κ : Type} [DecidableEq κ] (enc : α → κ) (inj : ∀ a b, enc a = enc b → a = b)
def encV (m : List (α × Int)) : List (κ × V) := m.map fun q => (enc q.1, V.int q.2)
include inj
theorem valV_enc (m : List (α × Int)) (z : α) : valV (encV enc m) (enc z) = (tget m z).map V.int := by
  induction m with
  | nil => rfl
  | cons q m ih =>
    show valV ((enc q.1, V.int q.2) :: encV enc m) _ = _
    by_cases e : q.1 = z
    · rw [valV_pos (p := (enc q.1, V.int q.2)) (by rw [e]), tget_cons_pos e]
      rfl
    · rw [valV_neg (p := (enc q.1, V.int q.2)) (fun h => e (inj _ _ h)), ih, tget_cons_neg e]
theorem putK_enc (m : List (α × Int)) (z : α) (n : Int) : putK (encV enc m) (enc z) (V.int n) = encV enc (tput m z n) := by
  unfold putK tput
  rw [valV_any, valV_enc enc inj, Option.isSome_map]
  by_cases h : z ∈ m.map (·.1)
  · rw [if_pos (tget_some.mpr h), if_pos h]
    unfold encV
    rw [List.map_map, List.map_map]
    refine List.map_congr_left fun q _ => ?_
    by_cases e : q.1 = z
    · simp [e]
    · have : ¬ enc q.1 = enc z := fun h => e (inj _ _ h)
      simp [e, this]
  · rw [if_neg (fun q => h (tget_some.mp q)), if_neg h]
    simp [encV]
theorem dropK_enc (m : List (α × Int)) (z : α) : dropK (encV enc m) (enc z) = encV enc (tdrop m z) := by
  unfold dropK encV tdrop
  rw [List.filter_map]
  congr 1
  refine List.filter_congr fun q _ => ?_
  show decide (enc q.1 ≠ enc z) = decide (q.1 ≠ z)
  by_cases e : q.1 = z
  · simp [e]
  · have : ¬ enc q.1 = enc z := fun h => e (inj _ _ h)
    simp [e, this]
end
end
def tabV (m : Tab) : List (Key × V) := encV Sum.inr m
theorem tabV_len (m : Tab) : (tabV m).length = m.length := List.length_map _
theorem tabV_keys (m : Tab) : (tabV m).map (·.1) = (m.map (·.1)).map Sum.inr := by simp [tabV, encV]
theorem valV_tab (m : Tab) (z : Str) : valV (tabV m) (Sum.inr z) = (tget m z).map V.int := valV_enc Sum.inr (fun _ _ h => Sum.inr.inj h) m z
theorem putK_tab (m : Tab) (z : Str) (n : Int) : putK (tabV m) (Sum.inr z) (V.int n) = tabV (tput m z n) := putK_enc Sum.inr (fun _ _ h => Sum.inr.inj h) m z n
/-! ### steps over such a dict -/
section
variable {P : Program} {w : World} {K : PySem.W.Frag} {σ : L2.St} {H : Hp} {Q : VK} {D : Ends} {td ty tv tx : TE}
theorem rd_tDGet2 (h : td σ H fun x H1 => ∃ a, x = .ref a ∧ IsD H1 a ∧ ty σ H1 fun y H2 => tx σ H2 fun z H3 => ∃ o, DGet H3 a y o ∧ Q (o.getD z) H3) : tDGet2 td ty tx σ H Q := h
theorem rd_tDGet (h : td σ H fun x H1 => ty σ H1 fun y H2 => ∃ a v, x = .ref a ∧ DGet H2 a y (some v) ∧ Q v H2) : tDGet td ty σ H Q := h
theorem rd_sDPut (h : tv σ H fun v H1 => td σ H1 fun x H2 => ty σ H2 fun y H3 => ∃ a H4, x = .ref a ∧ DPut H3 a y v H4 ∧ D.nx σ H4) : sDPut td ty tv D σ H := h
theorem rd_isD {a : Addr} {kvs : List (Key × V)} {R : Addr → Prop} (ha : H a = some (.dK kvs)) (h : R a) : ∃ b, V.ref a = .ref b ∧ IsD H b ∧ R b := ⟨a, rfl, .inl ⟨kvs, .inl ha⟩, h⟩
theorem rd_dgetS {a : Addr} {m : Tab} {z : Str} {x : V} (ha : H a = some (.dK (tabV m))) (h : Q (((tget m z).map V.int).getD x) H) : ∃ o, DGet H a (.str z) o ∧ Q (o.getD x) H :=
  ⟨_, DGet.k (k := Sum.inr z) ha, by rw [valV_tab]; exact h⟩
theorem rd_dgetT {a : Addr} {m : Tab} {z : Str} {n : Int} (ha : H a = some (.dK (tabV m))) (e : tget m z = some n) (h : Q (.int n) H) : ∃ b v, V.ref a = .ref b ∧ DGet H b (.str z) (some v) ∧ Q v H :=
  ⟨a, .int n, rfl, by have := DGet.k (k := Sum.inr z) ha; rw [valV_tab, e] at this; exact this, h⟩
theorem dget_tab {a : Addr} {m : Tab} {z : Str} {n : Int} (ha : H a = some (.dK (tabV m))) (e : tget m z = some n) : DGet H a (.str z) (some (.int n)) := by
  have := DGet.k (k := Sum.inr z) ha
  rw [valV_tab, e] at this
  exact this
theorem rd_dputT {a : Addr} {m : Tab} {z : Str} {n : Int} (ha : H a = some (.dK (tabV m))) (hl : m.length ≤ 1000000) (h : ∀ H' : Hp, H' a = some (.dK (tabV (tput m z n))) → (∀ b, b ≠ a → H' b = H b) → D.nx σ H') :
    ∃ b H4, V.ref a = .ref b ∧ DPut H b (.str z) (.int n) H4 ∧ D.nx σ H4 :=
  ⟨a, _, rfl, DPut.k (k := Sum.inr z) ha (by rw [tabV_len]; exact sz_lt hl), h _ (by rw [upd_same, putK_tab]) fun b hb => upd_ne hb⟩
theorem rd_dnewK (h : ∀ p, H p = none → Q (.ref p) (upd H p (.dK []))) : tDNewK σ H Q := h
def rSortD : List V → Hp → VK → Prop := fun xs H Q => ∃ (a : Addr) (kvs : List (Key × V)) (ks : List Str), xs = [.ref a] ∧ Rd H a (.dK kvs) ∧ kvs.map (·.1) = ks.map Sum.inr ∧ ks.length < 64 ∧
  ∀ ys p, ys.Perm ks → sortedS ys = true → H p = none → Q (.ref p) (upd H p (.lst (ys.map V.str)))
theorem cr_sortD {X : Cx} (hc : X.calm = true) : CallR X (.builtin "sorted") rSortD := call_sortedD hc
theorem rd_sortD {a : Addr} {m : Tab} (ha : H a = some (.dK (tabV m))) (hl : m.length < 64) (h : ∀ (ys : List Str) (p : Addr), ys.Perm (m.map (·.1)) → sortedS ys = true → H p = none → Q (.ref p) (upd H p (.lst (ys.map V.str)))) : rSortD [.ref a] H Q :=
  ⟨a, _, m.map (·.1), rfl, .inl ha, tabV_keys m, by rw [List.length_map]; exact hl, h⟩
end
/-! ### products -/
def prodK (ps : Tab) : NestedKey := .tup (ps.map fun q => .tup [.text q.1, .num q.2])
theorem prodK_depth (ps : Tab) : (prodK ps).depth ≤ 2 := by
  have : NestedKey.depthAll (ps.map fun q => .tup [.text q.1, .num q.2]) ≤ 1 := depthAll_le fun k hk => by
    obtain ⟨q, _, rfl⟩ := List.mem_map.mp hk
    simp [NestedKey.depth, NestedKey.depthAll]
  simp only [prodK, NestedKey.depth]
  omega
theorem prodK_inj {a b : Tab} (h : prodK a = prodK b) : a = b := by
  simp only [prodK, NestedKey.tup.injEq] at h
  induction a generalizing b with
  | nil => cases b with
    | nil => rfl
    | cons y b => simp at h
  | cons x a ih => cases b with
    | nil => simp at h
    | cons y b =>
      simp only [List.map_cons, List.cons.injEq, NestedKey.tup.injEq, NestedKey.text.injEq, NestedKey.num.injEq, and_true] at h
      obtain ⟨⟨h1, h2⟩, h3⟩ := h
      rw [ih h3]
      cases x; cases y
      simp only at h1 h2
      rw [h1, h2]
theorem cm_prod : ∀ (a b : Tab), cmL (a.map fun q => .tup [.text q.1, .num q.2]) (b.map fun q => .tup [.text q.1, .num q.2]) = true
  | [], [] => rfl
  | [], _ :: _ => rfl
  | _ :: _, [] => rfl
  | x :: a, y :: b => by
    rw [List.map_cons, List.map_cons, cmL, cm_prod a b]
    rfl
theorem cmK_prod (a b : Tab) : cmK (prodK a) (prodK b) = true := cm_prod a b
/-! ### sums: coefficients and products -/
abbrev Sm := List (Int × Tab)
def termK (q : Int × Tab) : NestedKey := .tup [.num q.1, prodK q.2]
def sumK (S : Sm) : NestedKey := .tup (S.map termK)
theorem termK_depth (q : Int × Tab) : (termK q).depth ≤ 3 := by
  have := prodK_depth q.2
  simp only [termK, NestedKey.depth, NestedKey.depthAll]
  omega
theorem sumK_depth (S : Sm) : (sumK S).depth ≤ 4 := by
  have : NestedKey.depthAll (S.map termK) ≤ 3 := depthAll_le fun k hk => by
    obtain ⟨q, _, rfl⟩ := List.mem_map.mp hk
    exact termK_depth q
  simp only [sumK, NestedKey.depth]
  omega
/-- a dict from products to whole numbers -/
abbrev Pt := List (Tab × Int)
def ptV (m : Pt) : List (NestedKey × V) := encV prodK m
theorem ptV_len (m : Pt) : (ptV m).length = m.length := List.length_map _
theorem ptV_keys (m : Pt) : (ptV m).map (·.1) = (m.map (·.1)).map prodK := by simp [ptV, encV]
theorem valV_pt (m : Pt) (z : Tab) : valV (ptV m) (prodK z) = (tget m z).map V.int := valV_enc prodK (fun _ _ h => prodK_inj h) m z
theorem putK_pt (m : Pt) (z : Tab) (n : Int) : putK (ptV m) (prodK z) (V.int n) = ptV (tput m z n) := putK_enc prodK (fun _ _ h => prodK_inj h) m z n
theorem dropK_pt (m : Pt) (z : Tab) : dropK (ptV m) (prodK z) = ptV (tdrop m z) := dropK_enc prodK (fun _ _ h => prodK_inj h) m z
theorem ptV_cm (m : Pt) : ∀ a ∈ (ptV m).map (·.1), ∀ b ∈ (ptV m).map (·.1), cmK a b = true := by
  rw [ptV_keys]
  intro a ha b hb
  obtain ⟨x, _, rfl⟩ := List.mem_map.mp ha
  obtain ⟨y, _, rfl⟩ := List.mem_map.mp hb
  exact cmK_prod x y
/-- keys told in another order are products again -/
theorem keys_back {m : Pt} {ls : List NestedKey} (pm : ls.Perm ((ptV m).map (·.1))) : ∃ ys : List Tab, ls = ys.map prodK ∧ ys.Perm (m.map (·.1)) := by
  rw [ptV_keys] at pm
  have all : ∀ l ∈ ls, ∃ y, prodK y = l := fun l hl => by
    obtain ⟨y, _, e⟩ := List.mem_map.mp (pm.mem_iff.mp hl)
    exact ⟨y, e⟩
  have key : ∀ ls : List NestedKey, (∀ l ∈ ls, ∃ y, prodK y = l) → ∃ ys : List Tab, ls = ys.map prodK := by
    intro ls
    induction ls with
    | nil => exact fun _ => ⟨[], rfl⟩
    | cons l ls ih =>
      intro h
      obtain ⟨y, e⟩ := h l List.mem_cons_self
      obtain ⟨ys, e2⟩ := ih fun k hk => h k (List.mem_cons_of_mem _ hk)
      exact ⟨y :: ys, by rw [e2, List.map_cons, e]⟩
  obtain ⟨ys, rfl⟩ := key ls all
  refine ⟨ys, rfl, ?_⟩
  have inj : ∀ (a b : List Tab), (a.map prodK).Perm (b.map prodK) → a.Perm b := by
    intro a b h
    refine List.perm_iff_count.mpr fun x => ?_
    have cnt : ∀ l : List Tab, (l.map prodK).count (prodK x) = l.count x := by
      intro l
      induction l with
      | nil => rfl
      | cons y l ih =>
        rw [List.map_cons, List.count_cons, List.count_cons, ih]
        by_cases e : y = x
        · subst e; simp
        · have e2 : ¬ prodK y = prodK x := fun h => e (prodK_inj h)
          simp [e, e2]
    rw [← cnt a, ← cnt b, h.count_eq]
  exact inj _ _ pm
section
variable {P : Program} {w : World} {K : PySem.W.Frag} {σ : L2.St} {H : Hp} {Q : VK} {D : Ends} {td ty tv tz : TE}
theorem rd_nnew (h : ∀ p, H p = none → Q (.ref p) (upd H p (NdO P w p []))) : tNNew P w σ H Q := h
theorem rd_nget (h : td σ H fun x H1 => ty σ H1 fun y H2 => ∃ d kvs k v, x = .ref d ∧ NdAt P w K H2 d kvs ∧ KeyAt K H2 k y ∧ valV kvs k = some v ∧ Q v H2) : tNGet P w K td ty σ H Q := h
theorem rd_nget2 (h : td σ H fun x H1 => ∃ d, x = .ref d ∧ (∃ kvs, NdAt P w K H1 d kvs) ∧ ty σ H1 fun y H2 => tz σ H2 fun z H3 => ∃ kvs k, NdAt P w K H3 d kvs ∧ KeyAt K H3 k y ∧ Q ((valV kvs k).getD z) H3) : tNGet2 P w K td ty tz σ H Q := h
theorem rd_npop (h : td σ H fun x H1 => ∃ d, x = .ref d ∧ (∃ kvs, NdAt P w K H1 d kvs) ∧ ty σ H1 fun y H2 => ∃ kvs k v, NdAt P w K H2 d kvs ∧ KeyAt K H2 k y ∧ valV kvs k = some v ∧ NdTo P w K H2 d (dropK kvs k) (Q v)) : tNPop P w K td ty σ H Q := h
theorem rd_nput (h : tv σ H fun v H1 => td σ H1 fun x H2 => ty σ H2 fun y H3 => ∃ d kvs k, x = .ref d ∧ NdAt P w K H3 d kvs ∧ KeyAt K H3 k y ∧ kvs.length < sizeLine ∧ NdTo P w K H3 d (putK kvs k v) (D.nx σ)) : sNPut P w K td ty tv D σ H := h
/-- a dict of nested keys stays when its own object and the tuples stay -/
theorem NdAt.keep {H H' : Hp} {d : Addr} {kvs : List (NestedKey × V)} (n : NdAt P w K H d kvs) (s : ∀ o, H d = some o → H' d = some o) (t : Tup K H H') : NdAt P w K H' d kvs := by
  obtain ⟨xs, e, k, h⟩ := n
  exact ⟨xs, s _ e, k, fun x hx => ⟨(h x hx).1.keep t, (h x hx).2⟩⟩
theorem NdAt.at {H : Hp} {d : Addr} {kvs : List (NestedKey × V)} (n : NdAt P w K H d kvs) : ∃ xs, H d = some (NdO P w d xs) := let ⟨xs, e, _⟩ := n; ⟨xs, e⟩
theorem prod_key {H : Hp} {ps : Tab} {t : Addr} (h : IsK K H (prodK ps) (.ref t)) : KeyAt K H (prodK ps) (.ref t) := ⟨t, rfl, h, by have := prodK_depth ps; omega⟩
end
end HH
namespace HH
open PySem PySem.Spec PyProof.Rows L2 PySem.SeqAt
section
variable {P : Program} {w : World} {K : PySem.W.Frag} {σ : L2.St} {H : Hp} {Q : VK} {D : Ends} {te tl tk tv : TE} {ta : TA} {tt : TT} {tb : TS} {g : TG} {wi : TI} {vs : List Nat}
theorem rd_dcn (h : wi σ H fun J H1 => ∀ D, H1 D = none → ∃ W : Nat → Nat → Hp → Prop, (∃ m, W 0 m (upd H1 D (NdO P w D []))) ∧ ∀ i m H, W i m H →
  (J.stop i H ∧ Q (.ref D) H) ∨ (J.go i H ∧ ∃ Nx : Hp → Prop, (∀ H', Nx H' → ∃ m', m' < m ∧ W (i + 1) m' H') ∧ ∀ x H', J.yld i H x H' → g x (wipe σ vs) H' fun σ2 H2 => wipe σ2 vs = wipe σ vs ∧ tt σ2 H2 fun b H3 =>
    if b = true then tk σ2 H3 fun y H4 => tv σ2 H4 fun z H5 => ∃ kvs k, NdAt P w K H5 D kvs ∧ KeyAt K H5 k y ∧ kvs.length < sizeLine ∧ NdTo P w K H5 D (putK kvs k z) Nx else Nx H3)) : tDcN P w K wi g tt tk tv vs σ H Q := h
/-- a dict comprehension over a tuple: σ' the slots, its own names forgotten -/
theorem dcn_tupW {a : Addr} {xs : List V} {H1 : Hp} {D : Addr} {Qd : Hp → Prop} (σ' : L2.St) (hw : wipe σ vs = σ') (Pv : Nat → Hp → Prop) (h0 : Pv 0 (upd H1 D (NdO P w D []))) (hl : ∀ i H, i ≤ xs.length → Pv i H → SqT K H a xs)
    (hs : ∀ i x H, xs[i]? = some x → Pv i H → g x σ' H fun σ2 H2 => wipe σ2 vs = σ' ∧ tt σ2 H2 fun b H3 =>
      if b = true then tk σ2 H3 fun y H4 => tv σ2 H4 fun z H5 => ∃ kvs k, NdAt P w K H5 D kvs ∧ KeyAt K H5 k y ∧ kvs.length < sizeLine ∧ NdTo P w K H5 D (putK kvs k z) (Pv (i + 1)) else Pv (i + 1) H3) (hd : ∀ H, Pv xs.length H → Qd H) :
    ∃ W : Nat → Nat → Hp → Prop, (∃ m, W 0 m (upd H1 D (NdO P w D []))) ∧ ∀ i m H, W i m H →
      ((Itt K a).stop i H ∧ Qd H) ∨ ((Itt K a).go i H ∧ ∃ Nx : Hp → Prop, (∀ H', Nx H' → ∃ m', m' < m ∧ W (i + 1) m' H') ∧ ∀ x H', (Itt K a).yld i H x H' → g x (wipe σ vs) H' fun σ2 H2 => wipe σ2 vs = wipe σ vs ∧ tt σ2 H2 fun b H3 =>
        if b = true then tk σ2 H3 fun y H4 => tv σ2 H4 fun z H5 => ∃ kvs k, NdAt P w K H5 D kvs ∧ KeyAt K H5 k y ∧ kvs.length < sizeLine ∧ NdTo P w K H5 D (putK kvs k z) Nx else Nx H3) := by
  subst hw
  refine ⟨fun i m H => i + m = xs.length ∧ Pv i H, ⟨xs.length, by omega, h0⟩, ?_⟩
  rintro i m H ⟨em, p⟩
  have q := hl i H (by omega) p
  rcases Nat.eq_zero_or_pos m with rfl | hm
  · have e : i = xs.length := by omega
    subst e
    exact .inl ⟨⟨xs, q, Nat.le_refl _⟩, hd H p⟩
  · have hlt : i < xs.length := by omega
    refine .inr ⟨⟨xs, xs[i], q, List.getElem?_eq_getElem hlt⟩, Pv (i + 1), fun H' p' => ⟨m - 1, by omega, by omega, p'⟩, ?_⟩
    rintro x H' ⟨rfl, y⟩
    exact hs i x _ (y xs q) p
theorem rd_gtup {n : Nat} {t : TGs} {v : V} {Q : L2.St → Hp → Prop} (h : ∃ a xs, v = .ref a ∧ SqT K H a xs ∧ xs.length = n ∧ t xs σ H Q) : gTup K n t v σ H Q := h
theorem rd_gcons {t : TG} {u : TGs} {v : V} {r : List V} {Q : L2.St → Hp → Prop} (h : t v σ H fun σ' H' => u r σ' H' Q) : gCons t u (v :: r) σ H Q := ⟨v, r, rfl, h⟩
theorem rd_gnil {Q : L2.St → Hp → Prop} (h : Q σ H) : gNil [] σ H Q := ⟨rfl, h⟩
/-- a term's two things -/
theorem term_at {q : Int × Tab} {v : V} (h : IsK K H (termK q) v) : ∃ a t, v = .ref a ∧ SqT K H a [.int q.1, .ref t] ∧ IsK K H (prodK q.2) (.ref t) := by
  obtain ⟨a, vs, rfl, s, ⟨x, r, rfl, hx, y, r2, rfl, hy, hr⟩⟩ := h
  obtain rfl : x = .int q.1 := hx
  obtain rfl : r2 = [] := hr
  obtain ⟨t, _, rfl, _⟩ := id hy
  exact ⟨a, t, rfl, s, hy⟩
/-- a sum's terms -/
theorem sum_at {S : Sm} {v : V} (h : IsK K H (sumK S) v) : ∃ a vs, v = .ref a ∧ SqT K H a vs ∧ IsKs K H (S.map termK) vs ∧ vs.length = S.length := by
  obtain ⟨a, vs, rfl, s, k⟩ := h
  exact ⟨a, vs, rfl, s, k, by rw [IsKs.length k, List.length_map]⟩
end
/-- what of a sum's terms lies in another one, term by term -/
def ptOf (S : Sm) : Pt := S.map fun q => (q.2, q.1)
def tbt (S R : Sm) : Bool := S.all fun q => decide (q.1 ≤ (tget (ptOf R) q.2).getD 0)
def lies (S R : Sm) : Bool := S.all fun q => R.any fun r => decide (r.2 = q.2) && decide (q.1 ≤ r.1)
theorem ptOf_keys (S : Sm) : (ptOf S).map (·.1) = S.map (·.2) := by simp [ptOf]
theorem tbt_lies {S R : Sm} (nd : (R.map (·.2)).Nodup) (p : ∀ q ∈ S, 1 ≤ q.1) : tbt S R = lies S R := by
  rw [Bool.eq_iff_iff]
  simp only [tbt, lies, List.all_eq_true, List.any_eq_true, Bool.and_eq_true, decide_eq_true_eq]
  have nd' : ((ptOf R).map (·.1)).Nodup := by rw [ptOf_keys]; exact nd
  constructor
  · intro h q hq
    have h1 := h q hq
    have h2 := p q hq
    cases e : tget (ptOf R) q.2 with
    | none => rw [e] at h1; simp at h1; omega
    | some n =>
      rw [e] at h1
      obtain ⟨r, hr, e2⟩ := List.mem_map.mp (tget_mem e)
      injection e2 with e3 e4
      exact ⟨r, hr, e3, by rw [e4]; exact h1⟩
  · intro h q hq
    obtain ⟨r, hr, e1, e2⟩ := h q hq
    have : (q.2, r.1) ∈ ptOf R := by rw [← e1]; exact List.mem_map.mpr ⟨r, hr, rfl⟩
    rw [mem_tget nd' this]
    exact e2
theorem lies_self (S : Sm) : lies S S = true := by
  simp only [lies, List.all_eq_true, List.any_eq_true, Bool.and_eq_true, decide_eq_true_eq]
  exact fun q hq => ⟨q, hq, rfl, Int.le_refl _⟩
/-- a table from the terms so far -/
theorem ptOf_snoc {S : Sm} {q : Int × Tab} (h : q.2 ∉ S.map (·.2)) : tput (ptOf S) q.2 q.1 = ptOf (S ++ [q]) := by
  unfold tput
  rw [ptOf_keys, if_neg h]
  simp [ptOf]
end HH
namespace HH
open PySem PySem.Spec PyProof.Rows L2 PySem.SeqAt
/-! ### error classes with one field, set by their own __init__ -/
/-- what the text has written of such a class at C; its __init__ at fI; the field n -/
structure ErrC (K : PySem.W.Frag) (mg : Str → Option Value) (x n : Str) (C fI : Addr) : Prop where
  ox : OexC K C
  gC : mg x = some (.ref C)
  iC : PySem.W.findIn K (.ref C) "__init__" = some (some (.ref fI))
  tI : PySem.W.typeIn K (.ref fI) = some (.type "function")
  no : PySem.W.findIn K (.ref C) n = some none
  xf : XfC K C
  at_ : PySem.W.findIn K (.ref C) "__class__" = some (some (.builtin "object.__class__"))
  gt : PySem.W.specialIn K (.builtin "object.__class__") "__get__" = some (some (.builtin "getset_descriptor.__get__"))
  tk : PySem.W.takesIn K (.builtin "object.__class__") = some true
  mr : PySem.W.mroIn K C (.type "object") = some true
/-- isinstance(e, c) in an except suite, e the error that it holds -/
def rIsX (K : PySem.W.Frag) (cls : Value) (d : Option Addr) (a : Addr) : List V → Hp → VK → Prop := fun xs H Q => ∃ (mg : Str → Option Value) (x n : Str) (C fI dd : Addr) (fs : List (Str × V)) (c : V) (cv : Value) (b : Bool),
  ErrC K mg x n C fI ∧ cls = .ref C ∧ d = some dd ∧ H dd = some (.xd fs) ∧ xs = [.ref a, c] ∧ (∀ u, RelV c u → u = cv) ∧ PySem.W.kitOne K (.ref C) cv = some b ∧ Q (.bl b) H
theorem call_isX {X : Cx} {a : Addr} {cls : Value} {d : Option Addr} {oe : Obj} {pn : List (Addr × Obj)} (hz : Zc cls d oe) (hf : ∃ vs, oe.data = .fields vs) : CallR (X.suite a ((a, oe) :: pn)) (.builtin "isinstance") (rIsX X.K cls d a) := by
  intro pins s σ H xs us Q I r h
  obtain ⟨mg, x, n, C, fI, dd, fs, c, cv, b, T, rfl, rfl, ed, rfl, hcv, e, q⟩ := h
  cases r with
  | cons rx rr =>
    cases rr with
    | cons rt rr =>
      cases rr
      cases rx
      have ec := hcv _ rt
      subst ec
      obtain ⟨hget, _⟩ := I.pin (a, oe) (List.mem_append_left _ List.mem_cons_self)
      obtain ⟨vs, hv⟩ := hf
      have hx : ObjOk X.prog X.w H s.heap dd (.xd fs) := I.hok dd _ ed
      obtain ⟨mA, hns, _⟩ := hx
      obtain ⟨od, ho, _⟩ := lookIn_ns hns
      have J : PySem.W.InstAt s.heap a oe C (some od) := ⟨hget, hz.1, by unfold PySem.W.notCls; rw [hv] <;> rfl, by rw [hz.2]; exact ho⟩
      have hcl : (PySem.W.clsIn X.K C).isSome = true := by
        obtain ⟨cd, hc, _⟩ := PySem.W.any_some T.xf.hdC
        rw [hc]; rfl
      exact PySem.W.kia_one (PySem.W.kitx_exc hcl T.xf.ga T.xf.gg T.xf.exC T.at_ T.gt T.tk T.mr) I.kIn J e (fun z => nomatch z) fun tk => ⟨.bl b, H, I.kept (t' := tk) fun _ _ z => z, rfl, q⟩
/-- self.n = v, self being made -/
def spInit (n : Str) (C : Addr) : Sp := fun vs H Q _ => ∃ (a : Addr) (v : V), vs = [.ref a, v] ∧ H a = some (exo a C none) ∧
  ∀ dx : Addr, H dx = none → dx ≠ a → Q .non (upd (upd H dx (exd dx [(n, v)])) a (exo a C (some dx)))
/-- a def of the text that may raise -/
def CalleeX (P : Program) (w : World) (K : PySem.W.Frag) (mg : Str → Option Value) (base : Heap) (k : Nat) (x : Str) (ps : List Str) (sp : Sp) : Prop :=
  ∃ f fd, FnOk P w K mg base (L2.CX P w) k f fd ps sp ∧ mg x = some (.ref f) ∧ PySem.W.keepIn K (.ref f) = true ∧ Binds K fd ps []
/-- an error class, its __init__ held to its promise -/
def ErrAt (P : Program) (w : World) (K : PySem.W.Frag) (mg : Str → Option Value) (base : Heap) (x n : Str) (C : Addr) : Prop :=
  ∃ fI fd, ErrC K mg x n C fI ∧ FnOk P w K mg base CX0 1 fI fd ["self", n] (spInit n C) ∧ Binds K fd ["self", n] []
section
variable {P : Program} {w : World} {K : PySem.W.Frag} {σ : L2.St} {H : Hp} {D : Ends} {te : TE} {n : Str} {C : Addr} {v : V}
/-- C(v): the new error's dict holds v -/
theorem rd_mkO {Q : XK} (h : te σ H fun v H1 => ∀ d, H1 d = none → Q (.ref C) (some d) (upd H1 d (.xd [(n, v)])))
    (mono : ∀ R R' : VK, (∀ v H1, R v H1 → R' v H1) → te σ H R → te σ H R') : tMkO C (spInit n C) [] (tCons te tNil) σ H Q := by
  refine mono _ _ (fun v H1 q => ?_) h
  refine ⟨by simp, fun a na => ⟨a, v, rfl, upd_same, fun dx nd ne => ⟨rfl, dx, [(n, v)], upd_same, by rw [upd_ne ne, upd_same], by rw [upd_ne ne] at nd; exact nd, ?_⟩⟩⟩
  have nd' : H1 dx = none := by rw [upd_ne ne] at nd; exact nd
  rw [show upd (del (upd (upd (upd H1 a (exo a C none)) dx (exd dx [(n, v)])) a (exo a C (some dx))) a) dx (.xd [(n, v)]) = upd H1 dx (.xd [(n, v)]) from ?_]
  · exact q dx nd'
  · funext b
    by_cases h1 : b = dx
    · subst h1; rw [upd_same, upd_same]
    · rw [upd_ne h1, upd_ne h1]
      by_cases h2 : b = a
      · subst h2; rw [del_same, na]
      · rw [del_ne h2, upd_ne h2, upd_ne h1, upd_ne h2]
theorem rd_mkOv {Q : XK} {i : Nat} (e : σ[i]? = some (some v)) (h : ∀ d, H d = none → Q (.ref C) (some d) (upd H d (.xd [(n, v)]))) : tMkO C (spInit n C) [] (tCons (tVar i) tNil) σ H Q :=
  rd_mkO (rd_var e h) (fun R R' m ⟨v, e, r⟩ => ⟨v, e, m _ _ r⟩)
theorem rd_callS {sp : Sp} {E : L2.St → XK} {tr : TA} {Q : VK} (h : tr σ H fun vs H1 => sp vs H1 Q (E σ)) : tCallS sp E tr σ H Q := h
theorem rd_xf {a : Addr} {cls : Value} {d : Option Addr} {f : Str} {Q : VK} (h : te σ H fun x H1 => x = .ref a ∧ cls = .ref C ∧ ∃ (dd : Addr) (fs : List (Str × V)) (v : V), d = some dd ∧ H1 dd = some (.xd fs) ∧ fs.lookup f = some v ∧ Q v H1) : tXf a cls d C f te σ H Q := h
/-- self.n = v in __init__ -/
theorem rd_ost {n : Str} {a C : Addr} {v : V} {H : Hp} (T : OexC K C) (hno : PySem.W.findIn K (.ref C) n = some none) (ea : H a = some (exo a C none))
    (h : ∀ dx, H dx = none → dx ≠ a → D.nx [some (.ref a), some v] (upd (upd H dx (exd dx [(n, v)])) a (exo a C (some dx)))) : tOst K n (tVar 0) (tVar 1) D [some (.ref a), some v] H :=
  ⟨v, rfl, .ref a, rfl, a, C, rfl, T, hno, .inl ⟨ea, h⟩⟩
theorem rd_isX {mg : Str → Option Value} {cls : Value} {d : Option Addr} {a : Addr} {x n : Str} {C fI dd : Addr} {fs : List (Str × V)} {Q : VK} {c : V} {cv : Value} {b : Bool} (T : ErrC K mg x n C fI) (ec : cls = .ref C) (ed : d = some dd) (eh : H dd = some (.xd fs))
    (hc : ∀ u, RelV c u → u = cv) (hk : PySem.W.kitOne K (.ref C) cv = some b) (h : Q (.bl b) H) : rIsX K cls d a [.ref a, c] H Q := ⟨mg, x, n, C, fI, dd, fs, c, cv, b, T, ec, ed, eh, rfl, hc, hk, h⟩
end
end HH
namespace HH
open PySem PySem.Spec PyProof.Rows L2 PySem.SeqAt
/-! ### what a product is worth at numbers -/
def worthP (m : Tab) : Tab → Int
  | [] => 1
  | q :: r => (tget m q.1).getD 0 ^ q.2.toNat * worthP m r
def degP : Tab → Nat
  | [] => 0
  | q :: r => q.2.toNat + degP r
def lackOf (m : Tab) (ps : Tab) : Option Str := (ps.map (·.1)).find? fun z => (tget m z).isNone
/-- the numbers of ps are below 2 ^ b -/
structure WB (m ps : Tab) (b : Nat) : Prop where
  nn : ∀ q ∈ ps, 0 ≤ q.2
  lt : ∀ q ∈ ps, ((tget m q.1).getD 0).natAbs < 2 ^ b
  dg : b * degP ps ≤ 200000
  b1 : 1 ≤ b
theorem worthP_app (m a b : Tab) : worthP m (a ++ b) = worthP m a * worthP m b := by
  induction a with
  | nil => simp [worthP]
  | cons q r ih => simp only [List.cons_append, worthP, ih, Int.mul_assoc]
theorem degP_app (a b : Tab) : degP (a ++ b) = degP a + degP b := by
  induction a with
  | nil => simp [degP]
  | cons q r ih => simp only [List.cons_append, degP, ih]; omega
theorem worthP_step (m ps : Tab) {i : Nat} (h : i < ps.length) : worthP m (ps.take (i + 1)) = worthP m (ps.take i) * (tget m ps[i].1).getD 0 ^ ps[i].2.toNat := by
  rw [← List.take_append_getElem h, worthP_app]
  simp [worthP]
theorem degP_step (ps : Tab) {i : Nat} (h : i < ps.length) : degP (ps.take (i + 1)) = degP (ps.take i) + ps[i].2.toNat := by
  rw [← List.take_append_getElem h, degP_app]
  simp [degP]
theorem degP_take (ps : Tab) (i : Nat) : degP (ps.take i) ≤ degP ps := by
  have := degP_app (ps.take i) (ps.drop i)
  rw [List.take_append_drop] at this
  omega
theorem degP_mem {ps : Tab} {q : Str × Int} (h : q ∈ ps) : q.2.toNat ≤ degP ps := by
  induction ps with
  | nil => cases h
  | cons x r ih =>
    rcases List.mem_cons.mp h with e | e
    · rw [e]; exact Nat.le_add_right _ _
    · have := ih e; simp only [degP]; omega
theorem pow_bb {n : Int} {b : Nat} (h : n.natAbs < 2 ^ b) (k : Nat) : (n ^ k).natAbs ≤ 2 ^ (b * k) := by
  rw [Int.natAbs_pow, Nat.pow_mul]
  exact Nat.pow_le_pow_left (Nat.le_of_lt h) k
theorem worthP_le {m ps : Tab} {b : Nat} (h : ∀ q ∈ ps, ((tget m q.1).getD 0).natAbs < 2 ^ b) : (worthP m ps).natAbs ≤ 2 ^ (b * degP ps) := by
  induction ps with
  | nil => simp [worthP, degP]
  | cons q r ih =>
    simp only [worthP, degP, Int.natAbs_mul, Nat.mul_add, Nat.pow_add]
    exact Nat.mul_le_mul (pow_bb (h q (List.mem_cons_self ..)) _) (ih fun x hx => h x (List.mem_cons_of_mem _ hx))
theorem lt_pow1 {n : Int} {k : Nat} (h : n.natAbs ≤ 2 ^ k) : n.natAbs < 2 ^ (k + 1) := Nat.lt_of_le_of_lt h (Nat.pow_lt_pow_right (by decide) (Nat.lt_succ_self _))
theorem lackOf_some {m ps : Tab} {i : Nat} (h : i < ps.length) (h0 : lackOf m (ps.take i) = none) (e : tget m ps[i].1 = none) : lackOf m ps = some ps[i].1 := by
  have e1 : ps.map (·.1) = (ps.take i).map (·.1) ++ (ps[i].1 :: (ps.drop (i + 1)).map (·.1)) := by
    have e0 : ps = ps.take i ++ ps[i] :: ps.drop (i + 1) := by rw [← List.drop_eq_getElem_cons h, List.take_append_drop]
    have e2 := congrArg (List.map (fun q : Str × Int => q.1)) e0
    rwa [List.map_append, List.map_cons] at e2
  unfold lackOf at h0 ⊢
  rw [e1, List.find?_append, h0]
  simp [e]
theorem lackOf_step {m ps : Tab} {i : Nat} (h : i < ps.length) (h0 : lackOf m (ps.take i) = none) {n : Int} (e : tget m ps[i].1 = some n) : lackOf m (ps.take (i + 1)) = none := by
  unfold lackOf at h0 ⊢
  rw [← List.take_append_getElem h, List.map_append, List.find?_append, h0]
  simp [e]
theorem lackOf_has {m ps : Tab} (h : lackOf m ps = none) {q : Str × Int} (hq : q ∈ ps) : ∃ n, tget m q.1 = some n := by
  have := List.find?_eq_none.mp h q.1 (List.mem_map_of_mem hq)
  exact Option.isSome_iff_exists.mp (by rw [Option.isSome_iff_ne_none]; simpa using this)
def worthS (m : Tab) : Sm → Int
  | [] => 0
  | q :: r => q.1 * worthP m q.2 + worthS m r
def lackS (m : Tab) : Sm → Option Str
  | [] => none
  | q :: r => (lackOf m q.2).or (lackS m r)
theorem worthS_app (m : Tab) (a b : Sm) : worthS m (a ++ b) = worthS m a + worthS m b := by
  induction a with
  | nil => simp [worthS]
  | cons q r ih => simp only [List.cons_append, worthS, ih]; omega
theorem worthS_step (m : Tab) (S : Sm) {i : Nat} (h : i < S.length) : worthS m (S.take (i + 1)) = worthS m (S.take i) + S[i].1 * worthP m S[i].2 := by
  rw [← List.take_append_getElem h, worthS_app]
  simp [worthS]
theorem worthS_sum (m : Tab) (S : Sm) : (S.map fun q => q.1 * worthP m q.2).sum = worthS m S := by
  induction S with
  | nil => rfl
  | cons q r ih => simp only [List.map_cons, List.sum_cons, worthS, ih]
theorem lackS_app (m : Tab) (a b : Sm) : lackS m (a ++ b) = (lackS m a).or (lackS m b) := by
  induction a with
  | nil => simp [lackS]
  | cons q r ih => simp only [List.cons_append, lackS, ih, Option.or_assoc]
theorem lackS_step (m : Tab) (S : Sm) {i : Nat} (h : i < S.length) : lackS m (S.take (i + 1)) = (lackS m (S.take i)).or (lackOf m S[i].2) := by
  rw [← List.take_append_getElem h, lackS_app]
  simp [lackS]
theorem lackS_some {m : Tab} {S : Sm} {i : Nat} {z : Str} (h : i < S.length) (h0 : lackS m (S.take i) = none) (e : lackOf m S[i].2 = some z) : lackS m S = some z := by
  conv => lhs; rw [← List.take_append_drop (i + 1) S]
  rw [lackS_app, lackS_step m S h, h0, e]
  rfl
section
variable {P : Program} {w : World} {K : PySem.W.Frag} {H : Hp} {Q : VK}
theorem dgetO {a : Addr} {m : Tab} {z : Str} (ha : H a = some (.dK (tabV m))) : DGet H a (.str z) ((tget m z).map V.int) := by
  have := DGet.k (k := Sum.inr z) ha
  rw [valV_tab] at this
  exact this
theorem rd_inD {z : Str} {d : Addr} {m : Tab} (hd : H d = some (.dK (tabV m))) (h : Q (.bl (tget m z).isSome) H) : rInU P w K false (.str z) (.ref d) H Q :=
  .inr ⟨d, _, rfl, dgetO hd, by simpa using h⟩
theorem rd_ninD {z : Str} {d : Addr} {m : Tab} (hd : H d = some (.dK (tabV m))) (h : Q (.bl (!(tget m z).isSome)) H) : rInU P w K true (.str z) (.ref d) H Q :=
  .inr ⟨d, _, rfl, dgetO hd, by simpa using h⟩
/-- a product's pairs -/
theorem pair_at {q : Str × Int} {v : V} (h : IsK K H (.tup [.text q.1, .num q.2]) v) : ∃ a, v = .ref a ∧ SqT K H a [.str q.1, .int q.2] := by
  obtain ⟨a, vs, rfl, s, ⟨x, r, rfl, hx, y, r2, rfl, hy, hr⟩⟩ := h
  obtain rfl : x = .str q.1 := hx
  obtain rfl : y = .int q.2 := hy
  obtain rfl : r2 = [] := hr
  exact ⟨a, rfl, s⟩
theorem prod_at {ps : Tab} {v : V} (h : IsK K H (prodK ps) v) : ∃ a vs, v = .ref a ∧ SqT K H a vs ∧ IsKs K H (ps.map fun q => .tup [.text q.1, .num q.2]) vs ∧ vs.length = ps.length := by
  obtain ⟨a, vs, rfl, s, k⟩ := h
  exact ⟨a, vs, rfl, s, k, by rw [IsKs.length k, List.length_map]⟩
theorem pair_get {ps : Tab} {vs : List V} {i : Nat} {x : V} (k : IsKs K H (ps.map fun q => .tup [.text q.1, .num q.2]) vs) (hi : i < ps.length) (hx : vs[i]? = some x) : ∃ a, x = .ref a ∧ SqT K H a [.str ps[i].1, .int ps[i].2] := by
  obtain ⟨x', ex, kx⟩ := IsKs.get (i := i) (k := .tup [.text ps[i].1, .num ps[i].2]) k (by rw [List.getElem?_map, List.getElem?_eq_getElem hi]; rfl)
  obtain rfl : x = x' := Option.some.inj (hx.symm.trans ex)
  exact pair_at kx
end
end HH
namespace HH
open PySem PySem.Spec PyProof.Rows L2 PySem.SeqAt
/-! ### a list comprehension whose element may raise -/
section
variable {X : Cx} {W : WX}
/-- an error leaves the block whose names stand at C: it is noted, the names are let go, it goes on in the def's own frame -/
theorem leaves_block {C : Addr} {ce : Env} {u : Value} {s' : Shared} {m0 : Str → Option Value} (hs : X.stack = X.env :: X.outer) (hf : X.env.frame = some X.env.locals) (hA : X.A.frames = some X.stack) (hpn : X.pn = []) (tk : Takes X W)
    (hce : ce.frame = X.env.frame) (hcl : ce.locals = C) (c1 : C ≠ X.env.locals) (c2 : C ∉ frs X.stack) (c3 : C ∈ X.ex ∨ X.s_0.heap.objs.size ≤ C) (c4 : ∀ x c, X.env.cells.lookup x = some c → c ≠ C)
    (hn : s'.heap.Ns C m0) (x : XE X (fun cls d σ H => W cls d σ H ∧ H C = none) u s') :
    notedBy (model X.prog X.w) X.A X.env (fun e s2 => CompFails (model X.prog X.w) X.A X.xe ce e s2) u s' := by
  obtain ⟨a, B, sI, pins, σ, H, cls, d, rfl, I, nb, up, sky, na, os, ag, hW, hC⟩ := x
  have hfr : X.A.frames = some (X.env :: X.outer) := by rw [hA, hs]
  have fin : ∀ g1, HandSPX.HeldZ B (X.env :: X.outer) a (Zc cls d) X.env.locals g1 → s'.heap.UpToSlots g1 → CompFails (model X.prog X.w) X.A X.xe ce (.ref a) { s' with heap := g1 } := fun g1 hh up1 => by
    refine ⟨m0, by rw [hcl]; exact up1.ns hn, fun g2 m2 hn2 sb => ?_⟩
    rw [hcl] at sb hn2
    obtain ⟨B2, b1, b2⟩ := restrict B fun b => decide (b ≠ C)
    have bk : ∀ b o, B2.get? b = some o → b ≠ C ∧ B.get? b = some o := fun b o e => by
      by_cases hb : b = C
      · rw [b2 b (by simp [hb])] at e; cases e
      · exact ⟨hb, (b1 b (by simp [hb])).symm.trans e⟩
    have sb2 : ∀ b, b ≠ C → g2.get? b = g1.get? b := sb.2
    obtain ⟨st, hen, hl, oe, vs, T, oT, ts, he, hz, hd, hv1, hnT, hTe, hT, hdT, h3⟩ := hh
    have hnC : g1.Ns C m0 := up1.ns hn
    obtain ⟨oC, es, ep, eC, dC, _⟩ := id hnC
    have aC : a ≠ C := fun z => by
      rw [z] at he
      have : oC = oe := Option.some.inj (eC.symm.trans he)
      rw [this, hd] at dC; cases dC
    have tC : T ≠ C := fun z => by
      rw [z] at hT
      have : oC = oT := Option.some.inj (eC.symm.trans hT)
      rw [this, hdT] at dC; cases dC
    have gone : ∀ b, B.get? b = none → B2.get? b = none := fun b e => by
      cases q : B2.get? b with
      | none => rfl
      | some o => rw [(bk b o q).2] at e; cases e
    have held : HandSPX.HeldZ B2 (X.env :: X.outer) a (Zc cls d) X.env.locals g2 :=
      ⟨fun b o e => (sb2 b (bk b o e).1).trans (st b o (bk b o e).2), gone a hen, Heap.FunFrames.sameBut sb hn2 (funFrames_none hl fun L hL => gone L (hl.mem hL).1),
        oe, vs, T, oT, ts, (sb2 a aC).trans he, hz, hd, hv1, gone T hnT, hTe, (sb2 T tC).trans hT, hdT, h3⟩
    unfold PySem.passOn
    refine wpAny_bind (wpAny_field ((sb2 a aC).trans he) hd hv1 ?_)
    rw [if_neg (show ¬ ((Value.ref T == Value.none) = true) from by simp), hce, hf]
    have done : ∀ g3, HandSPX.HeldZ B2 (X.env :: X.outer) a (Zc cls d) X.env.locals g3 → g2.UpToSlots g3 → X.xe (.ref a) { s' with heap := g3 } := fun g3 held3 up3 => by
      obtain ⟨G, q1, q2⟩ := restrict sI.heap fun b => decide (b ≠ C)
      have qk : ∀ b o, G.get? b = some o → b ≠ C ∧ sI.heap.get? b = some o := fun b o e => by
        by_cases hb : b = C
        · rw [q2 b (by simp [hb])] at e; cases e
        · exact ⟨hb, (q1 b (by simp [hb])).symm.trans e⟩
      have I2 : Inv X [] σ H { sI with heap := G, toks := sI.toks } :=
        (Inv.unpinned (pins := []) (pl := pins) I).turned (it := C) (fun b o hb e => (q1 b (by simp [hb])).trans e) hC c1 c3 c4 (fun p hp => by rw [hpn] at hp; cases hp)
      have up2 : G.UpToSlots g3 := Heap.UpToSlots.trans (fun b o e hnf => by
        obtain ⟨hb, e1⟩ := qk b o e
        obtain ⟨sl, e2⟩ := (up.trans up1) b o e1 hnf
        exact ⟨sl, (sb2 b hb).trans e2⟩) up3
      refine tk (.ref a) _ ⟨a, B2, _, [], σ, H, cls, d, rfl, I2, fun b o e hb => ?_, up2, by rw [hs]; exact .inr (.inr held3), na, os, ag, hW⟩
      obtain ⟨hbC, e1⟩ := qk b o e
      exact (b1 b (by simp [hbC])).trans (nb b o e1 hb)
    first
      | exact wpAny_bind (wpAny_pure (wpAny_bind (HandSPX.setFlight_onZ held fun g3 h3' u3 => wpAny_throw (done g3 h3' u3))))
      | exact wpAny_bind (HandSPX.setFlight_onZ held fun g3 h3' u3 => wpAny_throw (done g3 h3' u3))
  show wpAny (model X.prog X.w) X.A (noteFrame (.ref a) X.env) (fun _ s2 => CompFails (model X.prog X.w) X.A X.xe ce (.ref a) s2) _ s'
  rw [hs] at sky
  rcases sky with ⟨hB, hne, hl, oe, vs, he, hz, hd, h1⟩ | fl | hh
  · exact HandSPX.look_newZ Zc.steady hfr hl hf he hB hne hd h1 hz fin
  · exact HandSPX.looks_onZ Zc.steady hfr hf fl fin
  · exact HandSPX.againZ hf hh.2.2.2 (fin s'.heap hh (Heap.UpToSlots.refl _))

/-- the block's context, its errors taken by r -/
abbrev blkX (X : Cx) (s : Shared) (H : Hp) (scope : Scope) (ce : Env) (fp : List Addr) (r : Value → Shared → Prop) : Cx := (X.blk s H scope ce fp).tr [] r
theorem toBlkX {s s' : Shared} {H H' : Hp} {scope : Scope} {ce : Env} {fp : List Addr} {r : Value → Shared → Prop} {σ : L2.St} (I : Inv (X.blk s H scope ce fp) [] σ H' s') : Inv (blkX X s H scope ce fp r) [] σ H' s' := I.toTry r
/-- what a call in the block may let out -/
theorem block_passes {E : XK} {pins : List (Addr × Obj)} {σ : L2.St} {H3 : Hp} {s3 : Shared} {scope : Scope} {ce : Env} {fp : List Addr} (hs : X.stack = X.env :: X.outer) (hf : X.env.frame = some X.env.locals) (hpn : X.pn = [])
    (tk : Takes X (fun cls d _ H => E cls d H)) (hce : ce.frame = X.env.frame) (hcl : ce.locals = s3.heap.objs.size) (I3 : Inv X pins σ H3 s3) (f3 : ∀ b ∈ fp, FpOk X pins H3 b) :
    Passes (L2.CX X.prog X.w) (blkX X s3 H3 scope ce fp (notedBy (model X.prog X.w) X.A X.env fun e s2 => CompFails (model X.prog X.w) X.A X.xe ce e s2)) E := by
  intro pins' σ' H' s5 u s' I5 c
  have I7 : Inv X pins σ H' s5 := I3.call' (ch := fp) I5.os I5.base I5.hok I5.bare fun b hb => ⟨(f3 b hb).2.2.2.1, (f3 b hb).2.1, (f3 b hb).2.2.2.2.1, (f3 b hb).2.2.2.2.2⟩
  have nC : H' s3.heap.objs.size = none := by
    have z : H' ce.locals = none := I5.free
    rwa [hcl] at z
  obtain ⟨m, hn, _⟩ := I5.loc
  have hn : s5.heap.Ns s3.heap.objs.size m := by
    have z : s5.heap.Ns ce.locals m := hn
    rwa [hcl] at z
  have fC := I3.fpOk (Nat.le_refl _) nC
  have fs : s3.heap.objs.size ∉ frs X.stack := fun hm => by
    rw [hs] at hm
    have e0 : frs (X.env :: X.outer) = X.env.locals :: X.fs := by
      show (X.env :: X.outer).filterMap (·.frame) = _
      rw [List.filterMap_cons, hf]
      rfl
    rw [e0] at hm
    rcases List.mem_cons.mp hm with z | z
    · exact fC.2.1 z
    · exact fC.2.2.1 z
  obtain ⟨a, B, H2, cls, d, rfl, fl, hok, ub, na, os, ag, hE⟩ := c
  obtain ⟨oC, es, ep, eC, rC⟩ := id hn
  have bC : B.get? s3.heap.objs.size = some oC := ub.keep _ _ eC nC fs
  have hn' : s'.heap.Ns s3.heap.objs.size m := ⟨oC, es, ep, fl.1 _ _ bC, rC⟩
  have x : XE X (fun cls d σ H => (fun cls d _ H => E cls d H : WX) cls d σ H ∧ H s3.heap.objs.size = none) (.ref a) s' :=
    XE.of_call (E := fun cls d H => E cls d H ∧ H s3.heap.objs.size = none) I7 (fun _ _ _ h => h) ⟨a, B, H2, cls, d, rfl, fl, hok, ub, na, os, ag, hE, ub.free _ _ eC nC⟩
  exact leaves_block hs hf I7.ok.frames hpn tk hce hcl fC.2.1 fs fC.2.2.2.1 fC.2.2.2.2.1 hn' x
/-- [elt for tg in iter if ..], elt may let out what E takes -/
theorem pe_lcx {E : XK} {elt tg iter : Expr} {ifs : List Expr} {scope : Scope} {own : List (Str × Nat)} {pos : Pos} {wi : TI} {g : TG} {tt : TT} {te : TE} (hs : X.stack = X.env :: X.outer) (hf : X.env.frame = some X.env.locals) (hpn : X.pn = [])
    (tk : Takes X (fun cls d _ H => E cls d H)) (hc : X.calm = true) (hN : X.N.Nodup) (hi : PI X tg iter wi) (ok : BlkOk X.N X.env.scope scope own)
    (hg : ∀ s H C cl fp r, PG (blkX X s H scope (compEnvC scope cl C X.env) fp r) tg g) (ht : ∀ s H C cl fp r, PTs (blkX X s H scope (compEnvC scope cl C X.env) fp r) ifs tt)
    (he : ∀ s H C cl fp r, Passes (L2.CX X.prog X.w) (blkX X s H scope (compEnvC scope cl C X.env) fp r) E → PE (blkX X s H scope (compEnvC scope cl C X.env) fp r) elt te) (hsf : ∀ x, foldedSetIterable iter X.env x = pure x := by intro _; rfl) :
    PE X (.ListComp elt [⟨tg, iter, ifs, 0⟩] scope pos) (tLc wi g tt te (own.map (·.2))) := by
  refine ⟨fun pins s σ H Q I h => ?_⟩
  rw [eval_ListComp]
  have cells : ∀ y ∈ scope.names, y.2 = .free → ∃ c, X.env.cells.lookup y.1 = some c := fun y hy e => (ok.free y hy e).elim (fun k => I.ok.has _ (.inl k)) fun k => I.ok.has _ (.inr k)
  refine comprehension_at rfl hsf (closure_ok cells) ok.kind (fun y hy e => (ok.uniq y hy).trans (congrArg some e)) (thn (hi.run pins s σ H _ I h) fun v0 sa ha => thn ha fun v1 sb hb => ?_)
  obtain ⟨it, fp, tn, J, Hb, rfl, Ib, T, tb, fb, q⟩ := hb
  refine wpAny_newObj_type (newEnv_comp ?_) (by show 0 ≤ sizeLine; decide)
  have Dn : Hb sb.heap.objs.size = none := Ib.hok.fresh (Nat.le_refl _)
  obtain ⟨Wm, ⟨m0, w0⟩, turn⟩ := q _ Dn
  have old : ∀ b ∈ fp, b < sb.heap.objs.size := fun b hb => let ⟨_, e, _⟩ := T.obj _ _ tb b hb; Heap.lt_size e
  generalize hsc : ({ sb with heap := sb.heap.push { cls := .type "list", data := .seq ([] : List Value).toArray } } : Shared) = sc
  obtain ⟨Hc, hHc⟩ : ∃ Hc : Hp, Hc = upd Hb sb.heap.objs.size (.lst []) := ⟨_, rfl⟩
  have Ic : Inv X pins σ Hc sc := by
    rw [← hsc, hHc]
    exact Ib.laid (t' := sb.toks) (fun b o e => Heap.get?_push_of_some _ e) (Nat.le_refl _) ⟨Nat.zero_le _, [], 0, .nil, Heap.get?_push_size _ rfl⟩
  have szc : sc.heap.objs.size = sb.heap.objs.size + 1 := by rw [← hsc]; exact Heap.size_push ..
  have fc : ∀ b ∈ fp, FpOk X pins Hc b ∧ b < sc.heap.objs.size := fun b hb => by
    have lt := old b hb
    exact ⟨⟨by rw [hHc, upd_ne (Nat.ne_of_lt lt)]; exact (fb b hb).1, (fb b hb).2⟩, by rw [szc]; exact Nat.lt_succ_of_lt lt⟩
  have tc : tn 0 sc.heap := T.keep _ _ _ tb fun b _ o e => by rw [← hsc]; exact Heap.get?_push_of_some _ e
  have bs := block_start Ic ok hN fc
  show codeAny _ _ (.compStart (.ListComp elt [⟨tg, iter, ifs, 0⟩] scope pos) 0 (.ref it) (.ref sb.heap.objs.size)
    (compEnvC scope (cellsFrom (sc.heap.objs.size + 1) scope.names (cloFrom X.env.cells scope.names [])) sc.heap.objs.size X.env)) (compEnds (model X.prog X.w) X.A X.xe none (EP X pins σ Q) (.ref sb.heap.objs.size)
    (compEnvC scope (cellsFrom (sc.heap.objs.size + 1) scope.names (cloFrom X.env.cells scope.names [])) sc.heap.objs.size X.env)) _
  generalize hce : compEnvC scope (cellsFrom (sc.heap.objs.size + 1) scope.names (cloFrom X.env.cells scope.names [])) sc.heap.objs.size X.env = ce at bs ⊢
  have ceL : ce.locals = sc.heap.objs.size := by rw [← hce]; rfl
  have ceF : ce.frame = X.env.frame := by rw [← hce]; rfl
  have hps := block_passes (scope := scope) hs hf hpn tk ceF ceL Ic fun b hb => (fc b hb).1
  have pg := hg sc Hc sc.heap.objs.size (cellsFrom (sc.heap.objs.size + 1) scope.names (cloFrom X.env.cells scope.names [])) fp (notedBy (model X.prog X.w) X.A X.env fun e s2 => CompFails (model X.prog X.w) X.A X.xe ce e s2)
  have pt := ht sc Hc sc.heap.objs.size (cellsFrom (sc.heap.objs.size + 1) scope.names (cloFrom X.env.cells scope.names [])) fp (notedBy (model X.prog X.w) X.A X.env fun e s2 => CompFails (model X.prog X.w) X.A X.xe ce e s2)
  have pe := he sc Hc sc.heap.objs.size (cellsFrom (sc.heap.objs.size + 1) scope.names (cloFrom X.env.cells scope.names [])) fp (notedBy (model X.prog X.w) X.A X.env fun e s2 => CompFails (model X.prog X.w) X.A X.xe ce e s2)
  rw [hce] at pg pt pe
  have pe := pe hps
  generalize hxr : (notedBy (model X.prog X.w) X.A X.env fun e s2 => CompFails (model X.prog X.w) X.A X.xe ce e s2) = r at pg pt pe hps
  have bs := toBlkX (r := r) bs
  generalize hsd : ({ sc with heap := pushCells (sc.heap.push { cls := .type "dict", data := .dict #[] }) scope.names } : Shared) = sd at bs ⊢
  have td : tn 0 sd.heap := T.keep _ _ _ tc fun b _ o e => by rw [← hsd]; exact pushCells_keeps _ _ _ _ (Heap.get?_push_of_some _ e)
  have nfp : ∀ b ∈ fp, Hc b = none := fun b hb => (fc b hb).1.1
  rw [← hHc] at w0
  have same : notedBy (model X.prog X.w) X.A ce (fun e s' => compEnds (model X.prog X.w) X.A X.xe none (EP X pins σ Q) (.ref sb.heap.objs.size) ce (.error e) s') = r := by
    rw [← hxr]
    funext e s'
    show wpAny _ _ (noteFrame e ce) _ _ _ = wpAny _ _ (noteFrame e X.env) _ _ _
    have nf : noteFrame e ce = noteFrame e X.env := by
      unfold noteFrame PySem.frameOf
      rw [ceF]
    rw [nf]
    rfl
  have fpo : ∀ {σ' : L2.St} {H' : Hp} {s' : Shared}, Inv (blkX X sc Hc scope ce fp r) [] σ' H' s' → (∀ b ∈ fp, H' b = none) → ∀ b ∈ fp, FpOk (blkX X sc Hc scope ce fp r) [] H' b := fun {σ' H' s'} J' hz b hb =>
    ⟨hz b hb, (J'.ok.exf b hb).1, J'.ok.exfs b hb, .inl hb, fun x c e => (J'.ok.exf b hb).2 x c e, fun p hp => absurd (show p ∈ ([] : List (Addr × Obj)) ++ [] from hp) (by simp)⟩
  have body : codeAny (model X.prog X.w) X.A (.compLoop (.ListComp elt [⟨tg, iter, ifs, 0⟩] scope pos) 0 (.ref it) (.ref sb.heap.objs.size) ce) (compEnds (model X.prog X.w) X.A X.xe none (EP X pins σ Q) (.ref sb.heap.objs.size) ce) sd := by
    refine compLoop_any (fun n s' => ∃ i H', Inv (blkX X sc Hc scope ce fp r) [] (wipe σ (own.map (·.2))) H' s' ∧ tn i s'.heap ∧ (∀ b ∈ fp, H' b = none) ∧ Wm i n H') ?_ m0 ⟨0, Hc, bs, td, nfp, w0⟩
    rw [same]
    rintro n sx ⟨i, Hx, Ix, tx, nx, wx⟩
    rcases turn i n Hx wx with ⟨stop, fin⟩ | ⟨go, Nx, hNx, step⟩
    · refine thnF (T.done (blkX X sc Hc scope ce fp r) rfl rfl rfl hc i [] sx _ Hx (fun _ _ => False) Ix (fpo Ix nx) tx stop) fun z sy ⟨hz, Iy⟩ => ?_
      subst hz
      have Iz : Inv X pins σ Hx sy := Ic.call' (ch := fp) Iy.os Iy.base Iy.hok Iy.bare fun b hb => ⟨(fc b hb).1.2.2.2.1, (fc b hb).1.2.1, (fc b hb).1.2.2.2.2.1, (fc b hb).1.2.2.2.2.2⟩
      have nC : Hx sc.heap.objs.size = none := by
        have z : Hx ce.locals = none := Iy.free
        rwa [ceL] at z
      obtain ⟨m, hn, _⟩ := Iy.loc
      refine ⟨m, hn, fun g hsb => ?_⟩
      rw [ceL] at hsb
      obtain ⟨f0, f1, f2, f3, f4, f5⟩ := Ic.fpOk (Nat.le_refl _) nC
      exact ⟨.ref sb.heap.objs.size, Hx, Iz.turned (t' := sy.toks) (fun b o hb e => (hsb.2 b hb).trans e) f0 f1 f3 f4 f5, rfl, fin⟩
    · refine thnF (T.item (blkX X sc Hc scope ce fp r) rfl rfl rfl hc i [] sx _ Hx (fun _ _ => False) Ix (fpo Ix nx) tx go) fun z sy ⟨u, hz, hy⟩ => ?_
      subst hz
      refine thnF hy fun _ sz ⟨x, Hz, Iz, rz, yz, tz, nz⟩ => ?_
      have Ip := Iz.pinned (fpo Iz nz) (T.obj _ _ tz)
      refine thn (pg.run _ sz _ Hz x u _ Ip rz (step x Hz yz)) fun _ s8 ⟨σ8, H8, I8, hw8, q8⟩ => ?_
      refine thn (pt.run _ s8 σ8 H8 _ I8 q8) fun b s9 ⟨H9, I9, q9⟩ => ?_
      have again : ∀ {s' : Shared} {H' : Hp}, Inv (blkX X sc Hc scope ce fp r) ([] ++ pinsAt fp sz.heap) σ8 H' s' → Nx H' → ∃ m, m < n ∧ ∃ i H', Inv (blkX X sc Hc scope ce fp r) [] (wipe σ (own.map (·.2))) H' s' ∧ tn i s'.heap ∧ (∀ b ∈ fp, H' b = none) ∧ Wm i m H' := fun {s' H'} J' nx' => by
        obtain ⟨k, hk, w'⟩ := hNx H' nx'
        have kept : ∀ b ∈ fp, ∀ o, sz.heap.get? b = some o → s'.heap.get? b = some o ∧ H' b = none := fun b hb o e =>
          have p := J'.pin (b, o) (List.mem_append_right _ (List.mem_append_right _ (mem_pinsAt hb e)))
          ⟨p.1, p.2.1⟩
        refine ⟨k, hk, i + 1, H', (J'.unpinned (pins := [])).weak (by rw [← hw8, wipe_length]) (fun j v e => ?_), T.keep _ _ _ tz fun b hb o e => (kept b hb o e).1, fun b hb => ?_, w'⟩
        · rw [← hw8] at e
          exact (wipe_some e).1
        · obtain ⟨o, e, _⟩ := T.obj _ _ tz b hb
          exact (kept b hb o e).2
      cases b with
      | false =>
        simp only [Bool.false_eq_true, if_false] at q9 ⊢
        exact again I9 q9
      | true =>
        simp only [if_true] at q9 ⊢
        refine thn (pe.run _ s9 σ8 H9 _ I9 q9) fun y s10 ⟨yv, H10, I10, r10, acc, hD, hz10, nx'⟩ => ?_
        exact app_ok (X := blkX X sc Hc scope ce fp r) I10 hD hz10 r10 fun s11 I11 => again I11 nx'
  exact codeAny_compStart_list body (T.self X.A 0 _ _ _ td body)
end
end HH
namespace HH
open PySem PySem.Spec PyProof.Rows L2 PySem.SeqAt
def kGt (xs ys : List NestedKey) (j : Nat) : Bool := ltK (ys.getD j .none) (xs.getD j .none)
theorem lexAt_gt : ∀ (xs ys : List NestedKey), Ob.lexAt (kEq xs ys) (kGt xs ys) (decide (ys.length < xs.length)) 0 (min xs.length ys.length) = ltL ys xs
  | [], [] => by simp [Ob.lexAt_zero, ltL]
  | [], y :: ys => by simp [Ob.lexAt_zero, ltL]
  | x :: xs, [] => by simp [Ob.lexAt_zero, ltL]
  | x :: xs, y :: ys => by
    have ih := lexAt_gt xs ys
    have em : min (x :: xs).length (y :: ys).length = min xs.length ys.length + 1 := by simp only [List.length_cons]; omega
    rw [em, Ob.lexAt_succ, ltL]
    have e0 : kEq (x :: xs) (y :: ys) 0 = NestedKey.beq x y := rfl
    have r0 : kGt (x :: xs) (y :: ys) 0 = ltK y x := rfl
    rw [e0, r0]
    by_cases e : x = y
    · subst e
      rw [NestedKey.beq_self, if_pos rfl, if_pos rfl]
      have ez : decide ((x :: ys).length < (x :: xs).length) = decide (ys.length < xs.length) := by simp
      rw [ez, ← ih]
      exact lexAt_shift _ 0 (fun j _ => rfl) (fun j _ => rfl)
    · have hb : NestedKey.beq x y = false := by
        cases h : NestedKey.beq x y with
        | false => rfl
        | true => exact absurd (NestedKey.eq_of_beq x y h) e
      rw [hb, if_neg (by simp), if_neg (Ne.symm e)]
/-- u > v of nested data -/
theorem rc_gt : ∀ (n : Nat) (x y : NestedKey) (A : Around) (s : Shared) (u v : Value), x.depth ≤ n → DIs s.heap x u → DIs s.heap y v → cmK x y = true → A.units + x.depth < cLine → Ob.RcOp .Gt A s u v (ltK y x)
  | n, .none, y, A, s, u, v, hn, hx, hy, hc, hu => nomatch hx
  | n, .num a, y, A, s, u, v, hn, hx, hy, hc, hu => by
    cases hy with
    | int b t => cases hx; exact Ob.RcOp.gt_int _ _ _ _
    | text b t => simp [cmK] at hc
    | tup p r => simp [cmK] at hc
  | n, .text a, y, A, s, u, v, hn, hx, hy, hc, hu => by
    cases hy with
    | int b t => simp [cmK] at hc
    | text b t => cases hx; exact fun _ _ _ _ h => PySem.P.gt_str h
    | tup p r => simp [cmK] at hc
  | 0, .tup xs, y, A, s, u, v, hn, hx, hy, hc, hu => by simp [NestedKey.depth] at hn
  | n + 1, .tup xs, y, A, s, u, v, hn, hx, hy, hc, hu => by
    cases hy with
    | int b t => simp [cmK] at hc
    | text b t => simp [cmK] at hc
    | @tup b vs' ys p' r' =>
      cases hx with
      | @tup a vs xs p r =>
        simp only [NestedKey.depth] at hn hu
        simp only [cmK] at hc
        have l1 : vs.size = xs.length := by simpa using r.length
        have l2 : vs'.size = ys.length := by simpa using r'.length
        have hu1 : A.in1.units = A.units + 1 := rfl
        have key := Ob.RcOp.tuples_gt (e := kEq xs ys) (r := kGt xs ys) p p' (A := A) (s := s) (by omega) (fun j h1 h2 => ?_) (fun j h1 h2 _ => ?_)
        · rw [l1, l2, lexAt_gt] at key
          simpa only [ltK] using key
        · have q1 := r.get j (by simpa using h1) (by omega)
          have q2 := r'.get j (by simpa using h2) (by omega)
          have m1 := depth_mem (List.getElem_mem (h := show j < xs.length by omega))
          have := eqAt_key xs[j] ys[j] A.in1 s _ _ (q1.nested _ _) (q2.nested _ _) (by omega)
          simp only [kEq, List.getD_eq_getElem?_getD, List.getElem?_eq_getElem (show j < xs.length by omega), List.getElem?_eq_getElem (show j < ys.length by omega), Option.getD_some]
          simpa using this
        · have q1 := r.get j (by simpa using h1) (by omega)
          have q2 := r'.get j (by simpa using h2) (by omega)
          have m1 := depth_mem (List.getElem_mem (h := show j < xs.length by omega))
          have := rc_gt n xs[j] ys[j] A.in1 s _ _ (by omega) q1 q2 (cmL_get hc j _ _) (by omega)
          simp only [kGt, List.getD_eq_getElem?_getD, List.getElem?_eq_getElem (show j < xs.length by omega), List.getElem?_eq_getElem (show j < ys.length by omega), Option.getD_some]
          simpa using this
section
variable {X : Cx}
def rGtK (K : PySem.W.Frag) : R2 := fun x y H Q => ∃ k l, IsK K H k x ∧ IsK K H l y ∧ cmK k l = true ∧ k.depth ≤ 30 ∧ Q (.bl (ltK l k)) H
theorem op_gtK {K : PySem.W.Frag} (hu : X.A.units + 40 < cLine) (hX : X.K = K := by rfl) : OpR X (compareOp .Gt) (rGtK K) := by
  subst hX
  intro pins s σ H x y v u Q I rx ry q
  obtain ⟨k, l, ik, il, cm, dep, q⟩ := q
  have d1 := IsK.dis I _ _ _ ik rx
  have d2 := IsK.dis I _ _ _ il ry
  exact rc_gt _ k l X.A s v u (Nat.le_refl _) d1 d2 cm (by omega) X.prog X.w _ _ ⟨.bl (ltK l k), H, I, rfl, q⟩
end
/-! ### the names of a product that have no number -/
def lacks (m ps : Tab) : List Str := (ps.map (·.1)).filter fun z => (tget m z).isNone
theorem lackOf_head (m ps : Tab) : lackOf m ps = (lacks m ps).head? := by
  unfold lackOf lacks
  rw [List.head?_filter]
theorem lacks_step (m ps : Tab) {i : Nat} (h : i < ps.length) : lacks m (ps.take (i + 1)) = lacks m (ps.take i) ++ if (tget m ps[i].1).isNone = true then [ps[i].1] else [] := by
  unfold lacks
  rw [← List.take_append_getElem h, List.map_append, List.filter_append]
  cases e : tget m ps[i].1 <;> simp [e]
/-- m2 has the numbers of m, some left out -/
def SubT (m2 m : Tab) : Prop := ∀ z n, tget m2 z = some n → tget m z = some n
theorem SubT.worth {m2 m ps : Tab} (s : SubT m2 m) (h : lackOf m2 ps = none) : worthP m2 ps = worthP m ps := by
  induction ps with
  | nil => rfl
  | cons q r ih =>
    have h1 : tget m2 q.1 ≠ none ∧ lackOf m2 r = none := by
      unfold lackOf at h ⊢
      rw [List.map_cons, List.find?_cons] at h
      cases e : tget m2 q.1 with
      | none => rw [e] at h; simp at h
      | some n => rw [e] at h; exact ⟨by simp, by simpa using h⟩
    obtain ⟨n, e⟩ := Option.ne_none_iff_exists'.mp h1.1
    simp only [worthP, e, s _ _ e, ih h1.2]
theorem SubT.worthS {m2 m : Tab} {S : Sm} (s : SubT m2 m) (h : lackS m2 S = none) : HH.worthS m2 S = HH.worthS m S := by
  induction S with
  | nil => rfl
  | cons q r ih =>
    simp only [lackS, Option.or_eq_none_iff] at h
    simp only [HH.worthS, s.worth h.1, ih h.2]
theorem lackOf_all {m ps : Tab} (h : ∀ q ∈ ps, (tget m q.1).isSome = true) : lackOf m ps = none := by
  unfold lackOf
  rw [List.find?_eq_none]
  intro z hz
  obtain ⟨q, hq, rfl⟩ := List.mem_map.mp hz
  have := h q hq
  cases e : tget m q.1 with
  | none => rw [e] at this; cases this
  | some n => simp
theorem lackS_all {m : Tab} {S : Sm} (h : ∀ q ∈ S, ∀ r ∈ q.2, (tget m r.1).isSome = true) : lackS m S = none := by
  induction S with
  | nil => rfl
  | cons q r ih => simp only [lackS, lackOf_all (h q List.mem_cons_self), ih fun x hx => h x (List.mem_cons_of_mem _ hx)]; rfl
theorem tget_drop (m : Tab) (z x : Str) : tget (tdrop m z) x = if x = z then none else tget m x := by
  unfold tget tdrop
  rw [List.find?_filter]
  by_cases h : x = z
  · subst h
    rw [if_pos rfl, List.find?_eq_none.mpr]
    · rfl
    · intro q _ hq
      simp at hq
  · rw [if_neg h]
    congr 1
    apply congrArg (fun p => m.find? p)
    funext q
    by_cases h2 : q.1 = x
    · have : q.1 ≠ z := fun e => h (h2.symm.trans e)
      simp [h2, h]
    · simp [h2]
section
variable {X : Cx} {K : PySem.W.Frag} {H : Hp} {Q : VK}
theorem hu64_of {A : Around} {k : Nat} (hr : Room k A) : A.units + 64 < cLine := by have := hr.un; omega
theorem op_neP {K : PySem.W.Frag} (hu : X.A.units + 64 < cLine) (hX : X.K = K := by rfl) : OpR X (compareOp .NotEq) (rNeD K) := by
  subst hX
  exact op_neD hu
theorem rd_neI {i : Int} (h : Q (.bl false) H) : rNeD K (.int i) (.int i) H Q :=
  ⟨.int i, .int i, .int i, .int i, rfl, rfl, by rw [show PyData.eqv (.int i) (.int i) = true from PySem.SeqAt.eqv_refl _ rfl]; exact h⟩
theorem rd_neT {a b : Addr} {z : Str} (ha : SqT K H a [.str z]) (hb : SqT K H b [.str z]) (hz : PyData.strOk z = true) (h : Q (.bl false) H) : rNeD K (.ref a) (.ref b) H Q := by
  have c : PyData.canLay0 (.tuple [.str z]) = true := by simp [PyData.canLay0, PyData.canLayAll0, hz]
  have s : PySem.SeqAt.shaped (.tuple [.str z]) = true := by
    unfold PySem.SeqAt.shaped
    rw [c]
    simp [PyData.depth, PyData.depthAll]
  exact ⟨_, _, .tup ha (.cons (.str z) .nil), .tup hb (.cons (.str z) .nil), s, s, by rw [PySem.SeqAt.eqv_refl _ c]; exact h⟩
end
end HH
namespace K03
open PySem PySem.Spec PyProof.Rows L2 HH
def topS (i : Nat) : Stmt := PySem.Challenge.pw_howhigh_k03_values_of_products_and_sums.main.body.getD i (.Pass ⟨0, 0, 0, 0⟩)
abbrev s_NoName___init__ : Stmt := inClass (topS 2) 0
abbrev N_NoName___init__ : List Str := ["self", "name"]
theorem sc_NoName___init__ : FnScope N_NoName___init__ ["self", "name"] (defScope s_NoName___init__) := ⟨rfl, rfl, rfl, by decide +kernel, rfl, by decide +kernel, by decide +kernel⟩
abbrev s_raised : Stmt := topS 4
abbrev N_raised : List Str := ["number", "power", "out"]
theorem sc_raised : FnScope N_raised ["number", "power"] (defScope s_raised) := ⟨rfl, rfl, rfl, by decide +kernel, rfl, by decide +kernel, by decide +kernel⟩
abbrev s_value : Stmt := topS 5
abbrev N_value : List Str := ["product", "numbers", "worth", "name", "power"]
theorem sc_value : FnScope N_value ["product", "numbers"] (defScope s_value) := ⟨rfl, rfl, rfl, by decide +kernel, rfl, by decide +kernel, by decide +kernel⟩
abbrev s_total : Stmt := topS 6
abbrev N_total : List Str := ["terms", "numbers", "coefficient", "product"]
theorem sc_total : FnScope N_total ["terms", "numbers"] (defScope s_total) := ⟨rfl, rfl, rfl, by decide +kernel, rfl, by decide +kernel, by decide +kernel⟩
abbrev s_l_dice : Stmt := topS 8
abbrev N_l_dice : List Str := ["_law_script", "_law_cell"]
theorem sc_l_dice : FnScope N_l_dice ["_law_script"] (defScope s_l_dice) := ⟨rfl, rfl, rfl, by decide +kernel, rfl, by decide +kernel, by decide +kernel⟩
abbrev s_l_draw : Stmt := topS 9
abbrev N_l_draw : List Str := ["_law_dice_here", "_law_many", "_law_cell", "_law_drawn", "_law_number_here"]
theorem sc_l_draw : FnScope N_l_draw ["_law_dice_here", "_law_many"] (defScope s_l_draw) := ⟨rfl, rfl, rfl, by decide +kernel, rfl, by decide +kernel, by decide +kernel⟩
abbrev s_l_word : Stmt := topS 10
abbrev N_l_word : List Str := ["_law_dice_here", "_law_most", "_law_letters", "_law_word_here", "_law_k"]
theorem sc_l_word : FnScope N_l_word ["_law_dice_here", "_law_most"] (defScope s_l_word) := ⟨rfl, rfl, rfl, by decide +kernel, rfl, by decide +kernel, by decide +kernel⟩
abbrev s_l_names : Stmt := topS 11
abbrev N_l_names : List Str := ["_law_dice_here", "_law_many", "_law_alike", "_law_base", "_law_names_here", "_law_k", "_law_word_here", "_law_at", "_law_sign"]
theorem sc_l_names : FnScope N_l_names ["_law_dice_here", "_law_many"] (defScope s_l_names) := ⟨rfl, rfl, rfl, by decide +kernel, rfl, by decide +kernel, by decide +kernel⟩
abbrev s_l_product : Stmt := topS 12
abbrev N_l_product : List Str := ["_law_dice_here", "_law_names_here", "_law_most", "_law_powers", "_law_k", "_law_name"]
theorem sc_l_product : FnScope N_l_product ["_law_dice_here", "_law_names_here", "_law_most"] (defScope s_l_product) := ⟨rfl, rfl, rfl, by decide +kernel, rfl, by decide +kernel, by decide +kernel⟩
abbrev s_l_sum : Stmt := topS 13
abbrev N_l_sum : List Str := ["_law_dice_here", "_law_names_here", "_law_terms", "_law_most", "_law_top", "_law_found", "_law_k", "_law_product_here"]
theorem sc_l_sum : FnScope N_l_sum ["_law_dice_here", "_law_names_here", "_law_terms", "_law_most", "_law_top"] (defScope s_l_sum) := ⟨rfl, rfl, rfl, by decide +kernel, rfl, by decide +kernel, by decide +kernel⟩
abbrev s_l_is_integer : Stmt := topS 14
abbrev N_l_is_integer : List Str := ["_law_thing"]
theorem sc_l_is_integer : FnScope N_l_is_integer ["_law_thing"] (defScope s_l_is_integer) := ⟨rfl, rfl, rfl, by decide +kernel, rfl, by decide +kernel, by decide +kernel⟩
abbrev s_l_worth : Stmt := topS 15
abbrev N_l_worth : List Str := ["_law_product_here", "_law_numbers", "_law_worth_here", "_law_pair", "_law_k"]
theorem sc_l_worth : FnScope N_l_worth ["_law_product_here", "_law_numbers"] (defScope s_l_worth) := ⟨rfl, rfl, rfl, by decide +kernel, rfl, by decide +kernel, by decide +kernel⟩
abbrev s_l_value : Stmt := topS 16
abbrev N_l_value : List Str := ["_law_product_here", "_law_numbers", "e"]
theorem sc_l_value : FnScope N_l_value ["_law_product_here", "_law_numbers"] (defScope s_l_value) := ⟨rfl, rfl, rfl, by decide +kernel, rfl, by decide +kernel, by decide +kernel⟩
abbrev s_l_total : Stmt := topS 17
abbrev N_l_total : List Str := ["_law_terms", "_law_numbers", "e"]
theorem sc_l_total : FnScope N_l_total ["_law_terms", "_law_numbers"] (defScope s_l_total) := ⟨rfl, rfl, rfl, by decide +kernel, rfl, by decide +kernel, by decide +kernel⟩
abbrev s_l_number : Stmt := topS 18
abbrev N_l_number : List Str := ["_law_dice_here"]
theorem sc_l_number : FnScope N_l_number ["_law_dice_here"] (defScope s_l_number) := ⟨rfl, rfl, rfl, by decide +kernel, rfl, by decide +kernel, by decide +kernel⟩
abbrev s_law : Stmt := topS 19
abbrev N_law : List Str := ["_law_script", "_law_dice_here", "_law_names_here", "_law_terms", "_law_numbers", "_law_name", "_law_great", "_law_term", "_law_handed", "_law_k", "_law_lacking", "_law_kept", "_law_first", "_law_due", "_law_pair", "_law_here", "_law_told"]
theorem sc_law : FnScope N_law ["_law_script"] (defScope s_law) := ⟨rfl, rfl, rfl, by decide +kernel, rfl, by decide +kernel, by decide +kernel⟩
def DiceAt (H : Hp) (p c : Addr) : Prop := ∃ (cells : List Int) (pos pend seed cnt : Int), H p = some (.lst [.ref c, .int pos, .int pend, .int seed, .int cnt]) ∧ H c = some (.lst (cells.map V.int)) ∧
  0 ≤ pos ∧ (∀ x ∈ cells, 0 ≤ x) ∧ 0 ≤ pend ∧ 0 ≤ seed ∧ seed < 2147483648
theorem DiceAt.lst {H : Hp} {p c : Addr} (d : DiceAt H p c) : ∃ xs, H p = some (.lst xs) := let ⟨_, _, _, _, _, h, _⟩ := d; ⟨_, h⟩
theorem DiceAt.cel {H : Hp} {p c : Addr} (d : DiceAt H p c) : ∃ xs, H c = some (.lst xs) := let ⟨_, _, _, _, _, _, h, _⟩ := d; ⟨_, h⟩
/-- the dice stand when what they know stays -/
theorem DiceAt.keep {H H' : Hp} {p c : Addr} (d : DiceAt H p c) (s : Same H H') : DiceAt H' p c := by
  obtain ⟨cells, a, b, e, f, h1, h2, r⟩ := d
  exact ⟨cells, a, b, e, f, s _ _ h1, s _ _ h2, r⟩
/-- and when another thing is written -/
theorem DiceAt.mut {H : Hp} {p c l : Addr} {o : HO} (d : DiceAt H p c) (h1 : l ≠ p) (h2 : l ≠ c) : DiceAt (upd H l o) p c := by
  obtain ⟨cells, a, b, e, f, g1, g2, r⟩ := d
  exact ⟨cells, a, b, e, f, by rw [upd_ne h1.symm]; exact g1, by rw [upd_ne h2.symm]; exact g2, r⟩
theorem DiceAt.oth {H H' : Hp} {p c l : Addr} (d : DiceAt H p c) (h1 : l ≠ p) (h2 : l ≠ c) (e : ∀ b, b ≠ l → H' b = H b) : DiceAt H' p c := by
  obtain ⟨cells, a, b, k, f, g1, g2, r⟩ := d
  exact ⟨cells, a, b, k, f, by rw [e _ h1.symm]; exact g1, by rw [e _ h2.symm]; exact g2, r⟩
theorem DiceAt.new {H : Hp} {p c l : Addr} (d : DiceAt H p c) (n : H l = none) : l ≠ p ∧ l ≠ c := by
  obtain ⟨xs, h1⟩ := d.lst
  obtain ⟨ys, h2⟩ := d.cel
  exact ⟨fun e => (by rw [e, h1] at n; cases n), fun e => (by rw [e, h2] at n; cases n)⟩
def spDraw : Sp := fun vs H Q _ => ∃ (p c : Addr) (many : Int), vs = [.ref p, .int many] ∧ DiceAt H p c ∧ 1 ≤ many ∧ many ≤ 10 ^ 40 ∧
  ∀ (r : Int) (H' : Hp), 0 ≤ r → r < many → DiceAt H' p c → Fr p H H' → Q (.int r) H'
theorem use_draw {H : Hp} {p c : Addr} {many : Int} {Q : VK} {E : XK} (D : DiceAt H p c) (h1 : 1 ≤ many) (h2 : many ≤ 10 ^ 40) (q : ∀ (r : Int) (H' : Hp), 0 ≤ r → r < many → DiceAt H' p c → Fr p H H' → Q (.int r) H') : spDraw [.ref p, .int many] H Q E := ⟨p, c, many, rfl, D, h1, h2, q⟩
def spDice (K : PySem.W.Frag) : Sp := fun vs H Q _ => ∃ (a : Addr) (ns : List Int), vs = [.ref a] ∧ SqL K H a (ns.map V.int) ∧ ns.length ≤ 63 ∧
  ∀ (p c : Addr) (H' : Hp), H p = none → DiceAt H' p c → Same H H' → Q (.ref p) H'
theorem use_dice {K : PySem.W.Frag} {H : Hp} {a : Addr} {ns : List Int} {Q : VK} {E : XK} (h : SqL K H a (ns.map V.int)) (h1 : ns.length ≤ 63) (q : ∀ (p c : Addr) (H' : Hp), H p = none → DiceAt H' p c → Same H H' → Q (.ref p) H') : spDice K [.ref a] H Q E := ⟨a, ns, rfl, h, h1, q⟩
def spWord : Sp := fun vs H Q _ => ∃ (p c : Addr) (most : Int), vs = [.ref p, .int most] ∧ DiceAt H p c ∧ 1 ≤ most ∧ most ≤ 1000 ∧
  ∀ (z : Str) (H' : Hp), 1 ≤ z.length → (z.length : Int) ≤ most → Low z → DiceAt H' p c → Fr p H H' → Q (.str z) H'
theorem use_word {H : Hp} {p c : Addr} {most : Int} {Q : VK} {E : XK} (D : DiceAt H p c) (h1 : 1 ≤ most) (h2 : most ≤ 1000) (q : ∀ (z : Str) (H' : Hp), 1 ≤ z.length → (z.length : Int) ≤ most → Low z → DiceAt H' p c → Fr p H H' → Q (.str z) H') : spWord [.ref p, .int most] H Q E := ⟨p, c, most, rfl, D, h1, h2, q⟩
/-- names: one to eight small letters each, ascending, no two alike -/
def NamesOk (ys : List Str) : Prop := (∀ y ∈ ys, 1 ≤ y.length ∧ y.length ≤ 8 ∧ Low y) ∧ ys.Nodup ∧ sortedS ys = true
def spNames : Sp := fun vs H Q _ => ∃ (p c : Addr) (many : Int), vs = [.ref p, .int many] ∧ DiceAt H p c ∧ 1 ≤ many ∧ many ≤ 7 ∧
  ∀ (ys : List Str) (l : Addr) (H' : Hp), (ys.length : Int) = many → NamesOk ys → H l = none → H' l = some (.lst (ys.map V.str)) → DiceAt H' p c → Fr p H H' → Q (.ref l) H'
theorem use_names {H : Hp} {p c : Addr} {many : Int} {Q : VK} {E : XK} (D : DiceAt H p c) (h1 : 1 ≤ many) (h2 : many ≤ 7) (q : ∀ (ys : List Str) (l : Addr) (H' : Hp), (ys.length : Int) = many → NamesOk ys → H l = none → H' l = some (.lst (ys.map V.str)) → DiceAt H' p c → Fr p H H' → Q (.ref l) H') : spNames [.ref p, .int many] H Q E := ⟨p, c, many, rfl, D, h1, h2, q⟩
/-- a product of these names, of at most this degree -/
structure ProdOk (xs : List Str) (most : Int) (ps : Tab) : Prop where
  nm : ∀ q ∈ ps, q.1 ∈ xs ∧ 1 ≤ q.2
  nd : (ps.map (·.1)).Nodup
  so : sortedS (ps.map (·.1)) = true
  dg : (ps.map (·.2)).sum ≤ most
def spProduct (K : PySem.W.Frag) : Sp := fun vs H Q _ => ∃ (p c l : Addr) (xs : List Str) (most : Int), vs = [.ref p, .ref l, .int most] ∧ DiceAt H p c ∧ H l = some (.lst (xs.map V.str)) ∧ l ≠ p ∧ 1 ≤ xs.length ∧ xs.length ≤ 60 ∧ 0 ≤ most ∧ most ≤ 60 ∧
  ∀ (ps : Tab) (t : Addr) (H' : Hp), ProdOk xs most ps → H t = none → IsK K H' (prodK ps) (.ref t) → DiceAt H' p c → Fr p H H' → Q (.ref t) H'
theorem use_product {K : PySem.W.Frag} {H : Hp} {p c l : Addr} {xs : List Str} {most : Int} {Q : VK} {E : XK} (D : DiceAt H p c) (hl : H l = some (.lst (xs.map V.str))) (ne : l ≠ p) (h1 : 1 ≤ xs.length) (h2 : xs.length ≤ 60) (h3 : 0 ≤ most) (h4 : most ≤ 60)
    (q : ∀ (ps : Tab) (t : Addr) (H' : Hp), ProdOk xs most ps → H t = none → IsK K H' (prodK ps) (.ref t) → DiceAt H' p c → Fr p H H' → Q (.ref t) H') : spProduct K [.ref p, .ref l, .int most] H Q E := ⟨p, c, l, xs, most, rfl, D, hl, ne, h1, h2, h3, h4, q⟩
/-- a sum of these names -/
structure SumOk (xs : List Str) (terms most top : Int) (S : Sm) : Prop where
  ne : 1 ≤ S.length
  le : (S.length : Int) ≤ terms
  co : ∀ q ∈ S, 1 ≤ q.1 ∧ q.1 ≤ top ∧ ProdOk xs most q.2
  nd : (S.map (·.2)).Nodup
  so : (S.map fun q => prodK q.2).Pairwise fun a b => ltK b a = false
def spSum (K : PySem.W.Frag) : Sp := fun vs H Q _ => ∃ (p c l : Addr) (xs : List Str) (terms most top : Int), vs = [.ref p, .ref l, .int terms, .int most, .int top] ∧ DiceAt H p c ∧ H l = some (.lst (xs.map V.str)) ∧ l ≠ p ∧ 1 ≤ xs.length ∧ xs.length ≤ 60 ∧
  1 ≤ terms ∧ terms ≤ 60 ∧ 0 ≤ most ∧ most ≤ 60 ∧ 1 ≤ top ∧ top ≤ 10 ^ 30 ∧
  ∀ (S : Sm) (t : Addr) (H' : Hp), SumOk xs terms most top S → H t = none → IsK K H' (sumK S) (.ref t) → DiceAt H' p c → Fr p H H' → Q (.ref t) H'
theorem use_sum {K : PySem.W.Frag} {H : Hp} {p c l : Addr} {xs : List Str} {terms most top : Int} {Q : VK} {E : XK} (D : DiceAt H p c) (hl : H l = some (.lst (xs.map V.str))) (ne : l ≠ p) (h1 : 1 ≤ xs.length) (h2 : xs.length ≤ 60)
    (h3 : 1 ≤ terms) (h4 : terms ≤ 60) (h5 : 0 ≤ most) (h6 : most ≤ 60) (h7 : 1 ≤ top) (h8 : top ≤ 10 ^ 30)
    (q : ∀ (S : Sm) (t : Addr) (H' : Hp), SumOk xs terms most top S → H t = none → IsK K H' (sumK S) (.ref t) → DiceAt H' p c → Fr p H H' → Q (.ref t) H') : spSum K [.ref p, .ref l, .int terms, .int most, .int top] H Q E :=
  ⟨p, c, l, xs, terms, most, top, rfl, D, hl, ne, h1, h2, h3, h4, h5, h6, h7, h8, q⟩
def spRaised : Sp := fun vs H Q _ => ∃ (n p : Int) (b : Nat), vs = [.int n, .int p] ∧ 0 ≤ p ∧ n.natAbs < 2 ^ b ∧ b * p.toNat ≤ 400000 ∧ Q (.int (n ^ p.toNat)) H
theorem use_raised {H : Hp} {n p : Int} {b : Nat} {Q : VK} {E : XK} (h0 : 0 ≤ p) (h1 : n.natAbs < 2 ^ b) (h2 : b * p.toNat ≤ 400000) (q : Q (.int (n ^ p.toNat)) H) : spRaised [.int n, .int p] H Q E := ⟨n, p, b, rfl, h0, h1, h2, q⟩
/-- value: the product's worth; or NoName with the first name that has no number -/
def spValue (K : PySem.W.Frag) (C : Addr) : Sp := fun vs H Q E => ∃ (t d : Addr) (ps m : Tab) (b : Nat), vs = [.ref t, .ref d] ∧ IsK K H (prodK ps) (.ref t) ∧ H d = some (.dK (tabV m)) ∧ WB m ps b ∧
  (lackOf m ps = none → Q (.int (worthP m ps)) H) ∧ ∀ z, lackOf m ps = some z → ∀ e : Addr, H e = none → E (.ref C) (some e) (upd H e (.xd [("name", .str z)]))
theorem use_value {K : PySem.W.Frag} {C : Addr} {H : Hp} {t d : Addr} {ps m : Tab} {b : Nat} {Q : VK} {E : XK} (h1 : IsK K H (prodK ps) (.ref t)) (h2 : H d = some (.dK (tabV m))) (h3 : WB m ps b)
    (q : lackOf m ps = none → Q (.int (worthP m ps)) H) (e : ∀ z, lackOf m ps = some z → ∀ e : Addr, H e = none → E (.ref C) (some e) (upd H e (.xd [("name", .str z)]))) : spValue K C [.ref t, .ref d] H Q E := ⟨t, d, ps, m, b, rfl, h1, h2, h3, q, e⟩
/-- the classes of errors that the law knows -/
structure Errs (K : PySem.W.Frag) (mg : Str → Option Value) (C CH : Addr) : Prop where
  gN : mg "NoName" = some (.ref C)
  gH : mg "HighError" = some (.ref CH)
  zV : mg "ValueError" = none
  xm : PySem.W.exmOne K (.ref C) (.ref CH) = some true
  kN : PySem.W.kitOne K (.ref C) (.ref C) = some true
  kV : PySem.W.kitOne K (.ref C) (.type "ValueError") = some true
/-- value, the name that lacks a number in a tuple -/
def spLawValue (K : PySem.W.Frag) : Sp := fun vs H Q _ => ∃ (t d : Addr) (ps m : Tab) (b : Nat), vs = [.ref t, .ref d] ∧ IsK K H (prodK ps) (.ref t) ∧ H d = some (.dK (tabV m)) ∧ WB m ps b ∧
  (lackOf m ps = none → Q (.int (worthP m ps)) H) ∧ ∀ z, lackOf m ps = some z → ∀ (u : Addr) (H' : Hp), Same H H' → H' u = some (.tup [.str z]) → Q (.ref u) H'
theorem use_lvalue {K : PySem.W.Frag} {H : Hp} {t d : Addr} {ps m : Tab} {b : Nat} {Q : VK} {E : XK} (h1 : IsK K H (prodK ps) (.ref t)) (h2 : H d = some (.dK (tabV m))) (h3 : WB m ps b)
    (q : lackOf m ps = none → Q (.int (worthP m ps)) H) (e : ∀ z, lackOf m ps = some z → ∀ (u : Addr) (H' : Hp), Same H H' → H' u = some (.tup [.str z]) → Q (.ref u) H') : spLawValue K [.ref t, .ref d] H Q E := ⟨t, d, ps, m, b, rfl, h1, h2, h3, q, e⟩
def spWorth (K : PySem.W.Frag) : Sp := fun vs H Q _ => ∃ (t d : Addr) (ps m : Tab) (b : Nat), vs = [.ref t, .ref d] ∧ IsK K H (prodK ps) (.ref t) ∧ H d = some (.dK (tabV m)) ∧ WB m ps b ∧ lackOf m ps = none ∧ Q (.int (worthP m ps)) H
theorem use_worth {K : PySem.W.Frag} {H : Hp} {t d : Addr} {ps m : Tab} {b : Nat} {Q : VK} {E : XK} (h1 : IsK K H (prodK ps) (.ref t)) (h2 : H d = some (.dK (tabV m))) (h3 : WB m ps b) (h4 : lackOf m ps = none)
    (q : Q (.int (worthP m ps)) H) : spWorth K [.ref t, .ref d] H Q E := ⟨t, d, ps, m, b, rfl, h1, h2, h3, h4, q⟩
def spIsInt : Sp := fun vs H Q _ => ∃ i : Int, vs = [.int i] ∧ Q (.bl true) H
theorem use_isInt {H : Hp} {i : Int} {Q : VK} {E : XK} (q : Q (.bl true) H) : spIsInt [.int i] H Q E := ⟨i, rfl, q⟩
def spNumber : Sp := fun vs H Q _ => ∃ (p c : Addr), vs = [.ref p] ∧ DiceAt H p c ∧ ∀ (r : Int) (H' : Hp), 1 ≤ r → r ≤ 10 ^ 30 → DiceAt H' p c → Fr p H H' → Q (.int r) H'
theorem use_number {H : Hp} {p c : Addr} {Q : VK} {E : XK} (D : DiceAt H p c) (q : ∀ (r : Int) (H' : Hp), 1 ≤ r → r ≤ 10 ^ 30 → DiceAt H' p c → Fr p H H' → Q (.int r) H') : spNumber [.ref p] H Q E := ⟨p, c, rfl, D, q⟩
/-- the numbers of each product of S are below 2 ^ b, its coefficients below 2 ^ 100 -/
def SB (m : Tab) (S : Sm) (b : Nat) : Prop := ∀ q ∈ S, WB m q.2 b ∧ 1 ≤ q.1 ∧ q.1.natAbs < 2 ^ 100
def spTotal (K : PySem.W.Frag) (C : Addr) : Sp := fun vs H Q E => ∃ (t d : Addr) (S : Sm) (m : Tab) (b : Nat), vs = [.ref t, .ref d] ∧ IsK K H (sumK S) (.ref t) ∧ H d = some (.dK (tabV m)) ∧ SB m S b ∧ S.length ≤ 1000 ∧
  (lackS m S = none → ∀ H', Same H H' → Q (.int (worthS m S)) H') ∧ ∀ z, lackS m S = some z → ∀ (e : Addr) (H' : Hp), Same H H' → H' e = some (.xd [("name", .str z)]) → E (.ref C) (some e) H'
theorem use_total {K : PySem.W.Frag} {C : Addr} {H : Hp} {t d : Addr} {S : Sm} {m : Tab} {b : Nat} {Q : VK} {E : XK} (h1 : IsK K H (sumK S) (.ref t)) (h2 : H d = some (.dK (tabV m))) (h3 : SB m S b) (h4 : S.length ≤ 1000)
    (q : lackS m S = none → ∀ H', Same H H' → Q (.int (worthS m S)) H') (e : ∀ z, lackS m S = some z → ∀ (e : Addr) (H' : Hp), Same H H' → H' e = some (.xd [("name", .str z)]) → E (.ref C) (some e) H') : spTotal K C [.ref t, .ref d] H Q E := ⟨t, d, S, m, b, rfl, h1, h2, h3, h4, q, e⟩
def spLawTotal (K : PySem.W.Frag) : Sp := fun vs H Q _ => ∃ (t d : Addr) (S : Sm) (m : Tab) (b : Nat), vs = [.ref t, .ref d] ∧ IsK K H (sumK S) (.ref t) ∧ H d = some (.dK (tabV m)) ∧ SB m S b ∧ S.length ≤ 1000 ∧
  (lackS m S = none → ∀ H', Same H H' → Q (.int (worthS m S)) H') ∧ ∀ z, lackS m S = some z → ∀ (u : Addr) (H' : Hp), Same H H' → H' u = some (.tup [.str z]) → Q (.ref u) H'
theorem use_ltotal {K : PySem.W.Frag} {H : Hp} {t d : Addr} {S : Sm} {m : Tab} {b : Nat} {Q : VK} {E : XK} (h1 : IsK K H (sumK S) (.ref t)) (h2 : H d = some (.dK (tabV m))) (h3 : SB m S b) (h4 : S.length ≤ 1000)
    (q : lackS m S = none → ∀ H', Same H H' → Q (.int (worthS m S)) H') (e : ∀ z, lackS m S = some z → ∀ (u : Addr) (H' : Hp), Same H H' → H' u = some (.tup [.str z]) → Q (.ref u) H') : spLawTotal K [.ref t, .ref d] H Q E := ⟨t, d, S, m, b, rfl, h1, h2, h3, h4, q, e⟩
/-- the terms that the law has: names of xs, of degree up to 1000 -/
structure TermsOk (xs : List Str) (S : Sm) : Prop where
  ln : S.length ≤ 20
  co : ∀ q ∈ S, 1 ≤ q.1 ∧ q.1.natAbs < 2 ^ 100
  nm : ∀ q ∈ S, ∀ r ∈ q.2, r.1 ∈ xs ∧ 0 ≤ r.2
  dg : ∀ q ∈ S, degP q.2 ≤ 1000
  pl : ∀ q ∈ S, q.2.length ≤ 1000
structure NumOk (m : Tab) : Prop where
  vl : ∀ q ∈ m, 1 ≤ q.2 ∧ q.2 ≤ 10 ^ 30
  nd : (m.map (·.1)).Nodup
  ln : m.length ≤ 100
theorem NumOk.lt {m : Tab} (h : NumOk m) (z : Str) : ((tget m z).getD 0).natAbs < 2 ^ 100 := by
  cases e : tget m z with
  | none => simp
  | some n =>
    have v := h.vl _ (tget_mem e)
    simp only at v
    simp only [Option.getD_some]
    have : n.natAbs ≤ 10 ^ 30 := by omega
    exact Nat.lt_of_le_of_lt this (by decide)
theorem TermsOk.wb {xs : List Str} {S : Sm} {m : Tab} (h : TermsOk xs S) (n : NumOk m) {q : Int × Tab} (hq : q ∈ S) : WB m q.2 100 :=
  ⟨fun r hr => (h.nm q hq r hr).2, fun r _ => n.lt r.1, by have := h.dg q hq; omega, by decide⟩
theorem TermsOk.sb {xs : List Str} {S : Sm} {m : Tab} (h : TermsOk xs S) (n : NumOk m) : SB m S 100 := fun q hq => ⟨h.wb n hq, h.co q hq⟩
theorem degP_sum {ps : Tab} (h : ∀ q ∈ ps, 0 ≤ q.2) : (degP ps : Int) = (ps.map (·.2)).sum := by
  induction ps with
  | nil => rfl
  | cons q r ih =>
    have h1 := h q List.mem_cons_self
    have h2 := ih fun x hx => h x (List.mem_cons_of_mem _ hx)
    simp only [degP, List.map_cons, List.sum_cons]
    omega
theorem degP_len {ps : Tab} (h : ∀ q ∈ ps, 1 ≤ q.2) : ps.length ≤ degP ps := by
  induction ps with
  | nil => exact Nat.le_refl _
  | cons q r ih =>
    have h1 := h q List.mem_cons_self
    have h2 := ih fun x hx => h x (List.mem_cons_of_mem _ hx)
    simp only [degP, List.length_cons]
    omega
theorem SumOk.terms {xs : List Str} {terms most top : Int} {S : Sm} (h : SumOk xs terms most top S) (h1 : terms ≤ 10) (h2 : most ≤ 10) (h3 : top ≤ 10 ^ 20) : TermsOk xs S where
  ln := by have := h.le; omega
  co := fun q hq => by
    obtain ⟨a, b, _⟩ := h.co q hq
    refine ⟨a, ?_⟩
    have : q.1.natAbs ≤ 10 ^ 20 := by omega
    exact Nat.lt_of_le_of_lt this (by decide)
  nm := fun q hq r hr => by
    have := (h.co q hq).2.2.nm r hr
    exact ⟨this.1, by omega⟩
  dg := fun q hq => by
    have p := (h.co q hq).2.2
    have := degP_sum (ps := q.2) fun r hr => by have := (p.nm r hr).2; omega
    have := p.dg
    omega
  pl := fun q hq => by
    have p := (h.co q hq).2.2
    have := degP_sum (ps := q.2) fun r hr => by have := (p.nm r hr).2; omega
    have := degP_len (ps := q.2) fun r hr => (p.nm r hr).2
    have := p.dg
    omega
end K03
namespace K03
open PySem PySem.Spec PyProof.Rows L2 HH
local macro_rules | `(tactic| walk_at "h1") => `(tactic| first
  | with_reducible refine rd_seq ?_ | with_reducible refine rd_asg ?_ | with_reducible refine rd_op ?_
  | ((with_reducible refine' rd_var ?hv ?_); (case hv => exact rfl)) | with_reducible refine rd_c ?_
  | ((with_reducible refine rd_name ?_); dsimp only [List.set_cons_zero, List.set_cons_succ])
  | with_reducible refine rd_I0 ?_ | ((with_reducible refine rd_pow ?_ ?_ ?_ ?_); (· decide); (· decide); (· decide)) | ((with_reducible refine rd_mod ?_ ?_); (· decide)) | ((with_reducible refine rd_mulR ?_ ?_ ?_); (· decide); (· decide)) | ((with_reducible refine rd_divW (n := 64) ?_ ?_ ?_ ?_ ?_); (· decide); (· decide); (· decide); (· decide)) | with_reducible refine rd_addI ?_ | with_reducible refine rd_eqI ?_ | with_reducible refine rd_eqS ?_ | with_reducible refine rd_eqB ?_ | with_reducible refine rd_ltI ?_
  | with_reducible refine rd_callS ?_ | with_reducible refine rd_xf ?_ | with_reducible refine rd_cons ?_ | with_reducible refine rd_nil ?_ | with_reducible refine rd_cb ?_ | with_reducible refine rd_call ?_
  | with_reducible refine rd_ifs ?_ | with_reducible refine rd_test ?_ | with_reducible refine rd_tB ?_ | with_reducible refine rd_blQ ?_ | with_reducible refine iteT ?_ | with_reducible refine iteF ?_ | with_reducible refine iteNotF ?_ | with_reducible refine iteNotT ?_
  | with_reducible refine rd_and ?_ | with_reducible refine rd_or ?_ | with_reducible refine rd_not ?_ | with_reducible refine rd_andV ?_ | with_reducible refine rd_orV ?_ | with_reducible refine rd_notV ?_ | with_reducible refine rd_if ?_
  | with_reducible refine rd_un ?_ | with_reducible refine rd_U ?_ | with_reducible refine rd_sub ?_ | with_reducible refine rd_tup ?_ | with_reducible refine rd_lst ?_
  | with_reducible refine rd_intI ?_ | with_reducible refine rd_absI ?_ | with_reducible refine rd_drop ?_ | with_reducible refine rd_ret ?_ | with_reducible refine rd_retN ?_ | with_reducible refine rd_next ?_ | with_reducible refine rd_bm ?_
  | with_reducible refine rd_tDGet2 ?_ | with_reducible refine rd_tDGet ?_ | with_reducible refine rd_sDPut ?_ | with_reducible refine rd_dnewK ?_ | with_reducible refine rd_nnew ?_ | with_reducible refine rd_nget ?_ | with_reducible refine rd_nget2 ?_ | with_reducible refine rd_npop ?_ | with_reducible refine rd_nput ?_ | with_reducible refine rd_dcn ?_ | with_reducible refine rd_gtup ?_ | with_reducible refine rd_gcons ?_ | with_reducible refine rd_gnil ?_ | with_reducible refine rd_lc ?_ | with_reducible refine rd_yes ?_ | with_reducible refine rd_for ?_ | with_reducible refine rd_iL ?_ | with_reducible refine rd_iT ?_ | with_reducible refine rd_iR1 ?_ | with_reducible refine rd_iS ?_ | with_reducible refine rd_leafS ?_ | with_reducible refine rd_sl ?_ | with_reducible refine rd_noPart ?_ | with_reducible refine rd_part ?_ | with_reducible refine rd_leafI ?_)
local macro_rules | `(tactic| walk_at "h") => `(tactic| repeat walk_at "h1")

section
variable {P : Program} {w : World} {K : PySem.W.Frag} {mg : Str → Option Value} {base : Heap}
theorem ok_draw {f : Addr} {fd : FuncData} (F : Fun K "_law_draw" "_law_draw" s_l_draw f fd) (T : Bi mg) : FnOk P w K mg base CX0 1 f fd ["_law_dice_here", "_law_many"] spDraw := by
  refine F.ok sc_l_draw (fun vs H Q E h => ?_) (fun cdv A outer s H vs Q E hr h => ?_)
  · obtain ⟨p, c, many, rfl, _⟩ := h
    rfl
  · obtain ⟨p, c, many, rfl, D, h1, hb, q⟩ := h
    obtain ⟨cells, pos, pend, seed, cnt, hp, hc, g1, g2, g3, g4, g5⟩ := D
    have hu := hu_of hr
    have hu20 := hu20_of hr
    have hu40 := hu40_of hr
    have hb2 : many.natAbs < 2 ^ 200 := by
      have : (10 : Int) ^ 40 < 2 ^ 200 := by decide
      omega
    have hcp : c ≠ p := fun e => by rw [e, hp] at hc; cases cells <;> simp at hc
    refine ⟨_, (C8.pss_cut (ps_if (PW.pt (pw_and (pt_cmpR (op_eqU (K := K) hu40) (pe_ix (ix_listK (K := K)) (pv 0) pe_int (fun _ _ => rfl)) pe_int (nomark _)) (pw_and1 (pt_cmpR (op_ltU (K := K) hu40) (pe_ix (ix_listK (K := K)) (pv 0) pe_int (fun _ _ => rfl)) (pe_callB (call_lenU (P := P) (w := w) (K := K)) (by rfl) T.len_ PySem.boot_len (pa_cons (pe_ix (ix_listK (K := K)) (pv 0) pe_int (fun _ _ => rfl)) pa_nil)) (nomark _))))) (pss_cons (ps_set (i := 2) sc_l_draw.nd rfl (.inl rfl) (pe_ix (ix_listK (K := K)) (pe_ix (ix_listK (K := K)) (pv 0) pe_int (fun _ _ => rfl)) (pe_ix (ix_listK (K := K)) (pv 0) pe_int (fun _ _ => rfl)) (fun _ _ => rfl)))
  (pss_cons (ps_asg (pe_op (op_addU (K := K)) (pe_ix (ix_listK (K := K)) (pv 0) pe_int (fun _ _ => rfl)) pe_int) (pg_sub (pv 0) pe_int set_list))
  (pss_one (ps_if (pt_cmpR op_ge (pv 2) (pe_op op_pow pe_int pe_int) (nomark _)) (pss_one (ps_asg (pv 2) (pg_sub (pv 0) pe_int set_list))) (pss_one (ps_asg (pe_op op_modN (pe_callTy call_intC (by rfl) T.int_ (by decide +kernel) (pa_cons (pe_op (op_addU (K := K)) (pe_op (op_addU (K := K)) (pe_op op_mul (pe_ix (ix_listK (K := K)) (pv 0) pe_int (fun _ _ => rfl)) pe_int) (pe_op op_mul (pv 2) pe_int)) (pe_ix (ix_listK (K := K)) (pv 0) pe_int (fun _ _ => rfl))) pa_nil)) pe_int) (pg_sub (pv 0) pe_int set_list))))))) pss_nil)
  (pss_cons (ps_if (pt_cmpR op_gt (pe_ix (ix_listK (K := K)) (pv 0) pe_int (fun _ _ => rfl)) pe_int (nomark _)) (pss_cons (ps_set (i := 3) sc_l_draw.nd rfl (.inl rfl) (pe_op op_modN (pe_callTy call_intC (by rfl) T.int_ (by decide +kernel) (pa_cons (pe_ix (ix_listK (K := K)) (pv 0) pe_int (fun _ _ => rfl)) pa_nil)) (pv 1)))
  (pss_cons (ps_asg (pe_op op_fdivW (pe_ix (ix_listK (K := K)) (pv 0) pe_int (fun _ _ => rfl)) (pv 1)) (pg_sub (pv 0) pe_int set_list))
  (pss_one (ps_ret (pv 3))))) pss_nil)
  (pss_cons (ps_asg (pe_op (op_addU (K := K)) (pe_ix (ix_listK (K := K)) (pv 0) pe_int (fun _ _ => rfl)) pe_int) (pg_sub (pv 0) pe_int set_list))
  (pss_cons (ps_asg (pe_op op_modN (pe_callTy call_intC (by rfl) T.int_ (by decide +kernel) (pa_cons (pe_op (op_addU (K := K)) (pe_op (op_addU (K := K)) (pe_op op_mul (pe_ix (ix_listK (K := K)) (pv 0) pe_int (fun _ _ => rfl)) pe_int) (pe_op op_mul (pe_ix (ix_listK (K := K)) (pv 0) pe_int (fun _ _ => rfl)) pe_int)) pe_int) pa_nil)) pe_int) (pg_sub (pv 0) pe_int set_list))
  (pss_cons (ps_set (i := 4) sc_l_draw.nd rfl (.inl rfl) (pe_op op_modN (pe_callTy call_intC (by rfl) T.int_ (by decide +kernel) (pa_cons (pe_op op_mul (pe_ix (ix_listK (K := K)) (pv 0) pe_int (fun _ _ => rfl)) (pe_op (op_addU (K := K)) (pe_op op_fdivW (pe_ix (ix_listK (K := K)) (pv 0) pe_int (fun _ _ => rfl)) pe_int) pe_int)) pa_nil)) pe_int))
  (pss_cons (ps_set (i := 4) sc_l_draw.nd rfl (.inl rfl) (pe_op op_modN (pe_callTy call_intC (by rfl) T.int_ (by decide +kernel) (pa_cons (pe_op op_mul (pv 4) (pe_op (op_addU (K := K)) (pe_op op_fdivW (pv 4) pe_int) pe_int)) pa_nil)) pe_int))
  (pss_one (ps_ret (pe_op op_modN (pe_callTy call_intC (by rfl) T.int_ (by decide +kernel) (pa_cons (pe_op op_fdivW (pv 4) pe_int) pa_nil)) (pv 1)))))))))), ?_⟩
    rw [show L2.start N_l_draw [V.ref p, V.int many] = [some (V.ref p), some (V.int many), none, none, none] from rfl]
    (try dsimp only [cxOf, Cx.nox, Cx.wish])
    walk_at "h"
    refine rd_cut (fun σ' H' => ∃ (v2 : Option V) (pos pend seed : Int), σ' = [some (V.ref p), some (V.int many), v2, none, none] ∧ H' p = some (.lst [.ref c, .int pos, .int pend, .int seed, .int cnt]) ∧ (∀ b, b ≠ p → H' b = H b) ∧ 0 ≤ pos ∧ 0 ≤ pend ∧ 0 ≤ seed ∧ seed < 2147483648) ?_ ?_
    · walk_at "h"
      refine rd_ixl (sql hp) rfl ?_
      walk_at "h"
      refine ite2 (fun e1 => ?_) (fun e1 => ?_)
      · walk_at "h"
        refine rd_ixl (sql hp) rfl ?_
        walk_at "h"
        refine rd_ixl (sql hp) rfl ?_
        walk_at "h"
        refine rd_lenL (sql hc) ?_
        walk_at "h"
        refine ite2 (fun e2 => ?_) (fun e2 => ?_)
        · have e3 : pos < cells.length := by simpa using e2
          have e4 : pos.toNat < cells.length := by omega
          have ex : atI (cells.map V.int) pos = some (.int cells[pos.toNat]) := by
            have := atI_nat (xs := cells.map V.int) (j := pos.toNat) (v := .int cells[pos.toNat]) (by rw [List.getElem?_map, List.getElem?_eq_getElem e4]; rfl)
            rwa [Int.toNat_of_nonneg g1] at this
          have c0 : 0 ≤ cells[pos.toNat] := g2 _ (List.getElem_mem e4)
          generalize cells[pos.toNat] = x at ex c0
          walk_at "h"
          refine rd_ixl (sql hp) rfl ?_
          walk_at "h"
          refine rd_ixl (sql hp) rfl ?_
          walk_at "h"
          refine rd_ixl (sql hc) ex ?_
          walk_at "h"
          refine rd_ixl (sql hp) rfl ?_
          walk_at "h"
          refine rd_setl' hp rfl fun H1 hp1 f1 => ?_
          walk_at "h"
          refine ite2 (fun e5 => ?_) (fun e5 => ?_)
          · walk_at "h"
            refine rd_setl' hp1 rfl fun H2 hp2 f2 => ?_
            walk_at "h"
            exact ⟨_, _, _, _, rfl, hp2, fun b hb => (f2 b hb).trans (f1 b hb), by omega, c0, g4, g5⟩
          · walk_at "h"
            refine rd_ixl (sql hp1) rfl ?_
            walk_at "h"
            refine rd_ixl (sql hp1) rfl ?_
            walk_at "h"
            refine rd_setl' hp1 rfl fun H2 hp2 f2 => ?_
            walk_at "h"
            exact ⟨_, _, _, _, rfl, hp2, fun b hb => (f2 b hb).trans (f1 b hb), by omega, g3, Int.fmod_nonneg_of_pos (b := 2147483647) _ (by decide), Int.lt_trans (Int.fmod_lt_of_pos (b := 2147483647) _ (by decide)) (by decide)⟩
        · walk_at "h"
          exact ⟨_, _, _, _, rfl, hp, fun b hb => rfl, g1, g3, g4, g5⟩
      · walk_at "h"
        exact ⟨_, _, _, _, rfl, hp, fun b hb => rfl, g1, g3, g4, g5⟩
    · rintro σ' H' ⟨v2, pos, pend, seed, rfl, hp', f', g1, g3, g4, g5⟩
      have hc' : H' c = some (.lst (cells.map V.int)) := by rw [f' c hcp]; exact hc
      have hH : Fr p H H' := fun b o hb e => by rw [f' b hb]; exact e
      clear hp hc f'
      walk_at "h"
      refine rd_ixl (sql hp') rfl ?_
      walk_at "h"
      refine ite2 (fun e1 => ?_) (fun e1 => ?_)
      · have e2 : 0 < pend := of_decide_eq_true e1
        walk_at "h"
        refine rd_ixl (sql hp') rfl ?_
        walk_at "h"
        refine rd_mod (by omega) ?_
        walk_at "h"
        refine rd_ixl (sql hp') rfl ?_
        walk_at "h"
        refine rd_divW (n := 200) (by omega) hb2 (by decide) (by decide) ?_
        walk_at "h"
        refine rd_setl' hp' rfl fun H1 hp1 f1 => ?_
        walk_at "h"
        exact q _ _ (Int.fmod_nonneg_of_pos _ (by omega)) (Int.fmod_lt_of_pos _ (by omega)) ⟨cells, _, _, _, _, hp1, by rw [f1 c hcp]; exact hc', g1, g2, Int.ediv_nonneg g3 (by omega), g4, g5⟩ (hH.trans fun b o hb' e => by rw [f1 b hb']; exact e)
      · walk_at "h"
        refine rd_ixl (sql hp') rfl ?_
        walk_at "h"
        refine rd_setl' hp' rfl fun H1 hp1 f1 => ?_
        walk_at "h"
        refine rd_ixl (sql hp1) rfl ?_
        walk_at "h"
        refine rd_ixl (sql hp1) rfl ?_
        walk_at "h"
        refine rd_setl' hp1 rfl fun H2 hp2 f2 => ?_
        walk_at "h"
        refine rd_ixl (sql hp2) rfl ?_
        walk_at "h"
        refine rd_ixl (sql hp2) rfl ?_
        walk_at "h"
        have s0 := Int.fmod_nonneg_of_pos (b := 2147483647) (seed * 48271 + (cnt + 1) * 7919 + 1) (by decide)
        have s1 := Int.fmod_lt_of_pos (b := 2147483647) (seed * 48271 + (cnt + 1) * 7919 + 1) (by decide)
        refine rd_mulL (by omega) (by omega) ?_
        walk_at "h"
        generalize (seed * 48271 + (cnt + 1) * 7919 + 1).fmod 2147483647 = z at s0 s1 hp2 ⊢
        have s2 := Int.fmod_nonneg_of_pos (b := 2147483399) (z * (z / 1009 + 69623)) (by decide)
        have s3 := Int.fmod_lt_of_pos (b := 2147483399) (z * (z / 1009 + 69623)) (by decide)
        refine rd_mulL (by omega) (by omega) ?_
        walk_at "h"
        refine rd_mod (by omega) ?_
        walk_at "h"
        exact q _ _ (Int.fmod_nonneg_of_pos _ (by omega)) (Int.fmod_lt_of_pos _ (by omega)) ⟨cells, _, _, _, _, hp2, by rw [f2 c hcp, f1 c hcp]; exact hc', g1, g2, g3, s0, by omega⟩ (hH.trans fun b o hb' e => by rw [f2 b hb', f1 b hb']; exact e)
end
end K03
namespace K03
open PySem PySem.Spec PyProof.Rows L2 HH
local macro_rules | `(tactic| walk_at "h1") => `(tactic| first
  | with_reducible refine rd_seq ?_ | with_reducible refine rd_asg ?_ | with_reducible refine rd_op ?_
  | ((with_reducible refine' rd_var ?hv ?_); (case hv => exact rfl)) | with_reducible refine rd_c ?_
  | ((with_reducible refine rd_name ?_); dsimp only [List.set_cons_zero, List.set_cons_succ])
  | with_reducible refine rd_I0 ?_ | ((with_reducible refine rd_pow ?_ ?_ ?_ ?_); (· decide); (· decide); (· decide)) | ((with_reducible refine rd_mod ?_ ?_); (· decide)) | ((with_reducible refine rd_mulR ?_ ?_ ?_); (· decide); (· decide)) | ((with_reducible refine rd_divW (n := 64) ?_ ?_ ?_ ?_ ?_); (· decide); (· decide); (· decide); (· decide)) | with_reducible refine rd_addI ?_ | with_reducible refine rd_eqI ?_ | with_reducible refine rd_eqS ?_ | with_reducible refine rd_eqB ?_ | with_reducible refine rd_ltI ?_
  | with_reducible refine rd_callS ?_ | with_reducible refine rd_xf ?_ | with_reducible refine rd_cons ?_ | with_reducible refine rd_nil ?_ | with_reducible refine rd_cb ?_ | with_reducible refine rd_call ?_
  | with_reducible refine rd_ifs ?_ | with_reducible refine rd_test ?_ | with_reducible refine rd_tB ?_ | with_reducible refine rd_blQ ?_ | with_reducible refine iteT ?_ | with_reducible refine iteF ?_ | with_reducible refine iteNotF ?_ | with_reducible refine iteNotT ?_
  | with_reducible refine rd_and ?_ | with_reducible refine rd_or ?_ | with_reducible refine rd_not ?_ | with_reducible refine rd_andV ?_ | with_reducible refine rd_orV ?_ | with_reducible refine rd_notV ?_ | with_reducible refine rd_if ?_
  | with_reducible refine rd_un ?_ | with_reducible refine rd_U ?_ | with_reducible refine rd_sub ?_ | with_reducible refine rd_tup ?_ | with_reducible refine rd_lst ?_
  | with_reducible refine rd_intI ?_ | with_reducible refine rd_absI ?_ | with_reducible refine rd_drop ?_ | with_reducible refine rd_ret ?_ | with_reducible refine rd_retN ?_ | with_reducible refine rd_next ?_ | with_reducible refine rd_bm ?_
  | with_reducible refine rd_tDGet2 ?_ | with_reducible refine rd_tDGet ?_ | with_reducible refine rd_sDPut ?_ | with_reducible refine rd_dnewK ?_ | with_reducible refine rd_nnew ?_ | with_reducible refine rd_nget ?_ | with_reducible refine rd_nget2 ?_ | with_reducible refine rd_npop ?_ | with_reducible refine rd_nput ?_ | with_reducible refine rd_dcn ?_ | with_reducible refine rd_gtup ?_ | with_reducible refine rd_gcons ?_ | with_reducible refine rd_gnil ?_ | with_reducible refine rd_lc ?_ | with_reducible refine rd_yes ?_ | with_reducible refine rd_for ?_ | with_reducible refine rd_iL ?_ | with_reducible refine rd_iT ?_ | with_reducible refine rd_iR1 ?_ | with_reducible refine rd_iS ?_ | with_reducible refine rd_leafS ?_ | with_reducible refine rd_sl ?_ | with_reducible refine rd_noPart ?_ | with_reducible refine rd_part ?_ | with_reducible refine rd_leafI ?_)
local macro_rules | `(tactic| walk_at "h") => `(tactic| repeat walk_at "h1")

section
variable {P : Program} {w : World} {K : PySem.W.Frag} {mg : Str → Option Value} {base : Heap}
theorem ok_dice {f : Addr} {fd : FuncData} (F : Fun K "_law_dice" "_law_dice" s_l_dice f fd) (T : Bi mg) : FnOk P w K mg base CX0 1 f fd ["_law_script"] (spDice K) := by
  refine F.ok sc_l_dice (fun vs H Q E h => ?_) (fun cdv A outer s H vs Q E hr h => ?_)
  · obtain ⟨p, many, rfl, _⟩ := h
    rfl
  · obtain ⟨a, ns, rfl, ha, hl, q⟩ := h
    refine ⟨_, (pss_one (ps_ret (pe_lst (pa_cons (pe_lc (own := [("_law_cell", 1)]) rfl sc_l_dice.nd (pi_list (pe_slice (sl_listK (K := K)) (pv 0) po_none (po_some pe_int))) (blkOk_by (N := N_l_dice) (sc := defScope s_l_dice) (by decide +kernel)) (fun _ _ _ _ _ => (pg_name (i := 1) sc_l_dice.nd rfl (.inl rfl))) (fun _ _ _ _ _ => pts_nil) (fun _ _ _ _ _ => (pe_callB call_absC (by rfl) T.abs_ (by decide +kernel) (pa_cons (pe_callTy call_intC (by rfl) T.int_ (by decide +kernel) (pa_cons (pv 1) pa_nil)) pa_nil)))) (pa_cons pe_int (pa_cons pe_int (pa_cons pe_int (pa_cons pe_int pa_nil)))))))), ?_⟩
    rw [show L2.start N_l_dice [V.ref a] = [some (V.ref a), none] from rfl]
    (try dsimp only [cxOf, Cx.nox, Cx.wish])
    walk_at "h"
    refine rd_slL ha fun c0 n0 => ?_
    obtain ⟨ms, em, lm, _⟩ := cut_map V.int ns none (some 63)
    rw [em]
    generalize hH1 : upd H c0 (.lst (ms.map V.int)) = H1
    have s1 : Same H H1 := by rw [← hH1]; exact same_new n0
    have h1 : H1 c0 = some (.lst (ms.map V.int)) := by rw [← hH1]; exact upd_same
    refine rd_leafL (sql h1) fun D nD => ?_
    have ncD : c0 ≠ D := ne_of_none h1 nD
    refine lc_listW (xs := ms.map V.int) [some (V.ref a), none] rfl (fun i H2 => Same H1 H2 ∧ H2 D = some (.lst (((ms.take i).map fun x => if x < 0 then -x else x).map V.int))) ⟨same_new nD, by simp [upd_same]⟩ (fun i H2 _ h => sql (h.1 _ _ h1)) ?_ ?_
    · rintro i x H2 hx ⟨s2, h2⟩
      have hi : i < ms.length := by
        have := (List.getElem?_eq_some_iff.mp hx).1
        simpa using this
      obtain rfl : x = V.int ms[i] := by
        rw [List.getElem?_map, List.getElem?_eq_getElem hi] at hx
        exact (Option.some.inj hx).symm
      walk_at "h"
      refine ⟨rfl, ?_⟩
      walk_at "h"
      refine ⟨_, h2, ?_, same_mut s2 nD, ?_⟩
      · simp only [List.length_map, List.length_take]; exact sz_lt (by omega)
      · rw [upd_same, List.take_add_one, List.getElem?_eq_getElem hi, List.map_append, List.map_append]
        rfl
    · rintro H2 ⟨s2, h2⟩
      walk_at "h"
      refine ⟨sz_le (by simp only [List.length_cons, List.length_nil]; omega), fun p np => ?_⟩
      rw [List.length_map, List.take_length] at h2
      refine q p D _ (s1.free (s2.free np)) ⟨_, 0, 0, 1, 0, upd_same, by rw [upd_ne (ne_of_none h2 np)]; exact h2, by decide, ?_, by decide, by decide, by decide⟩ (s1.trans (s2.trans (same_new np)))
      intro x hx
      obtain ⟨y, _, rfl⟩ := List.mem_map.mp hx
      split <;> omega
end
end K03
namespace K03
open PySem PySem.Spec PyProof.Rows L2 HH
local macro_rules | `(tactic| walk_at "h1") => `(tactic| first
  | with_reducible refine rd_seq ?_ | with_reducible refine rd_asg ?_ | with_reducible refine rd_op ?_
  | ((with_reducible refine' rd_var ?hv ?_); (case hv => exact rfl)) | with_reducible refine rd_c ?_
  | ((with_reducible refine rd_name ?_); dsimp only [List.set_cons_zero, List.set_cons_succ])
  | with_reducible refine rd_I0 ?_ | ((with_reducible refine rd_pow ?_ ?_ ?_ ?_); (· decide); (· decide); (· decide)) | ((with_reducible refine rd_mod ?_ ?_); (· decide)) | ((with_reducible refine rd_mulR ?_ ?_ ?_); (· decide); (· decide)) | ((with_reducible refine rd_divW (n := 64) ?_ ?_ ?_ ?_ ?_); (· decide); (· decide); (· decide); (· decide)) | with_reducible refine rd_addI ?_ | with_reducible refine rd_eqI ?_ | with_reducible refine rd_eqS ?_ | with_reducible refine rd_eqB ?_ | with_reducible refine rd_ltI ?_
  | with_reducible refine rd_callS ?_ | with_reducible refine rd_xf ?_ | with_reducible refine rd_cons ?_ | with_reducible refine rd_nil ?_ | with_reducible refine rd_cb ?_ | with_reducible refine rd_call ?_
  | with_reducible refine rd_ifs ?_ | with_reducible refine rd_test ?_ | with_reducible refine rd_tB ?_ | with_reducible refine rd_blQ ?_ | with_reducible refine iteT ?_ | with_reducible refine iteF ?_ | with_reducible refine iteNotF ?_ | with_reducible refine iteNotT ?_
  | with_reducible refine rd_and ?_ | with_reducible refine rd_or ?_ | with_reducible refine rd_not ?_ | with_reducible refine rd_andV ?_ | with_reducible refine rd_orV ?_ | with_reducible refine rd_notV ?_ | with_reducible refine rd_if ?_
  | with_reducible refine rd_un ?_ | with_reducible refine rd_U ?_ | with_reducible refine rd_sub ?_ | with_reducible refine rd_tup ?_ | with_reducible refine rd_lst ?_
  | with_reducible refine rd_intI ?_ | with_reducible refine rd_absI ?_ | with_reducible refine rd_drop ?_ | with_reducible refine rd_ret ?_ | with_reducible refine rd_retN ?_ | with_reducible refine rd_next ?_ | with_reducible refine rd_bm ?_
  | with_reducible refine rd_tDGet2 ?_ | with_reducible refine rd_tDGet ?_ | with_reducible refine rd_sDPut ?_ | with_reducible refine rd_dnewK ?_ | with_reducible refine rd_nnew ?_ | with_reducible refine rd_nget ?_ | with_reducible refine rd_nget2 ?_ | with_reducible refine rd_npop ?_ | with_reducible refine rd_nput ?_ | with_reducible refine rd_dcn ?_ | with_reducible refine rd_gtup ?_ | with_reducible refine rd_gcons ?_ | with_reducible refine rd_gnil ?_ | with_reducible refine rd_lc ?_ | with_reducible refine rd_yes ?_ | with_reducible refine rd_for ?_ | with_reducible refine rd_iL ?_ | with_reducible refine rd_iT ?_ | with_reducible refine rd_iR1 ?_ | with_reducible refine rd_iS ?_ | with_reducible refine rd_leafS ?_ | with_reducible refine rd_sl ?_ | with_reducible refine rd_noPart ?_ | with_reducible refine rd_part ?_ | with_reducible refine rd_leafI ?_)
local macro_rules | `(tactic| walk_at "h") => `(tactic| repeat walk_at "h1")

section
variable {P : Program} {w : World} {K : PySem.W.Frag} {mg : Str → Option Value} {base : Heap}
theorem ok_word {f : Addr} {fd : FuncData} (F : Fun K "_law_word" "_law_word" s_l_word f fd) (T : Bi mg) (G_l_draw : Callee P w K mg base 1 "_law_draw" ["_law_dice_here", "_law_many"] spDraw) : FnOk P w K mg base CX0 2 f fd ["_law_dice_here", "_law_most"] spWord := by
  refine F.ok sc_l_word (fun vs H Q E h => ?_) (fun cdv A outer s H vs Q E hr h => ?_)
  · obtain ⟨p, c, many, rfl, _⟩ := h
    rfl
  · obtain ⟨p, c, most, rfl, D, h1, h2, q⟩ := h
    have hu := hu_of hr
    have hu20 := hu20_of hr
    have hu40 := hu40_of hr
    obtain ⟨f_l_draw, fd_l_draw, F_l_draw, m_l_draw, k_l_draw, b_l_draw⟩ := G_l_draw
    refine ⟨_, (pss_cons (ps_set (i := 2) sc_l_word.nd rfl (.inl rfl) pe_str)
  (pss_cons (ps_set (i := 3) sc_l_word.nd rfl (.inl rfl) pe_str)
  (pss_cons (ps_for PassesOwn.never rfl (pi_range1 (by rfl) T.range (pa_cons (pe_op (op_addU (K := K)) pe_int (pe_call F_l_draw (hr.mono (by decide)) (by rfl) m_l_draw k_l_draw b_l_draw .nil pass0 (pa_cons (pv 0) (pa_cons (pv 1) pa_nil)))) pa_nil)) (pg_name (i := 4) sc_l_word.nd rfl (.inl rfl))
    (pss_one (ps_set (i := 3) sc_l_word.nd rfl (.inl rfl) (pe_op (op_addU (K := K)) (pv 3) (pe_ix ix_str (pv 2) (pe_call F_l_draw (hr.mono (by decide)) (by rfl) m_l_draw k_l_draw b_l_draw .nil pass0 (pa_cons (pv 0) (pa_cons pe_int pa_nil))) (fun _ _ => rfl))))))
  (pss_one (ps_ret (pv 3)))))), ?_⟩
    rw [show L2.start N_l_word [V.ref p, V.int most] = [some (V.ref p), some (V.int most), none, none, none] from rfl]
    (try dsimp only [cxOf, Cx.nox, Cx.wish])
    walk_at "h"
    refine use_draw D h1 (by omega) fun r H1 r0 r1 D1 f1 => ?_
    walk_at "h"
    refine rd_leafR (by omega) (by omega) ?_
    refine for_range (fun i σ H' => ∃ (z : Str) (v4 : Option V), σ = [some (V.ref p), some (V.int most), some (V.str "abcdefghijklmnopqrstuvwxyz"), some (V.str z), v4] ∧ z.length = i ∧ Low z ∧ DiceAt H' p c ∧ Fr p H H') ⟨"", none, rfl, rfl, fun c hc => (by cases hc), D1, f1⟩ ?_ ?_
    · rintro i σ H2 hi ⟨z, v4, rfl, hz, lz, D2, f2⟩
      walk_at "h"
      refine use_draw D2 (by decide) (by decide) fun r2 H3 s0 s1 D3 f3 => ?_
      walk_at "h"
      refine rd_ixs (sz_le (by decide)) (letters_at s0 s1) ?_
      refine rd_addS (sz_le ?_) ?_
      · show z.length + 1 ≤ _
        omega
      walk_at "h"
      exact ⟨_, _, rfl, by rw [Str.length_append, hz]; rfl, lz.app (Low.one (by omega) (by omega)), D3, f2.trans f3⟩
    · rintro σ H2 ⟨z, v4, rfl, hz, lz, D2, f2⟩
      walk_at "h"
      exact q z H2 (by omega) (by omega) lz D2 f2
end
end K03
namespace K03
open PySem PySem.Spec PyProof.Rows L2 HH
local macro_rules | `(tactic| walk_at "h1") => `(tactic| first
  | with_reducible refine rd_seq ?_ | with_reducible refine rd_asg ?_ | with_reducible refine rd_op ?_
  | ((with_reducible refine' rd_var ?hv ?_); (case hv => exact rfl)) | with_reducible refine rd_c ?_
  | ((with_reducible refine rd_name ?_); dsimp only [List.set_cons_zero, List.set_cons_succ])
  | with_reducible refine rd_I0 ?_ | ((with_reducible refine rd_pow ?_ ?_ ?_ ?_); (· decide); (· decide); (· decide)) | ((with_reducible refine rd_mod ?_ ?_); (· decide)) | ((with_reducible refine rd_mulR ?_ ?_ ?_); (· decide); (· decide)) | ((with_reducible refine rd_divW (n := 64) ?_ ?_ ?_ ?_ ?_); (· decide); (· decide); (· decide); (· decide)) | with_reducible refine rd_addI ?_ | with_reducible refine rd_eqI ?_ | with_reducible refine rd_eqS ?_ | with_reducible refine rd_eqB ?_ | with_reducible refine rd_ltI ?_
  | with_reducible refine rd_callS ?_ | with_reducible refine rd_xf ?_ | with_reducible refine rd_cons ?_ | with_reducible refine rd_nil ?_ | with_reducible refine rd_cb ?_ | with_reducible refine rd_call ?_
  | with_reducible refine rd_ifs ?_ | with_reducible refine rd_test ?_ | with_reducible refine rd_tB ?_ | with_reducible refine rd_blQ ?_ | with_reducible refine iteT ?_ | with_reducible refine iteF ?_ | with_reducible refine iteNotF ?_ | with_reducible refine iteNotT ?_
  | with_reducible refine rd_and ?_ | with_reducible refine rd_or ?_ | with_reducible refine rd_not ?_ | with_reducible refine rd_andV ?_ | with_reducible refine rd_orV ?_ | with_reducible refine rd_notV ?_ | with_reducible refine rd_if ?_
  | with_reducible refine rd_un ?_ | with_reducible refine rd_U ?_ | with_reducible refine rd_sub ?_ | with_reducible refine rd_tup ?_ | with_reducible refine rd_lst ?_
  | with_reducible refine rd_intI ?_ | with_reducible refine rd_absI ?_ | with_reducible refine rd_drop ?_ | with_reducible refine rd_ret ?_ | with_reducible refine rd_retN ?_ | with_reducible refine rd_next ?_ | with_reducible refine rd_bm ?_
  | with_reducible refine rd_tDGet2 ?_ | with_reducible refine rd_tDGet ?_ | with_reducible refine rd_sDPut ?_ | with_reducible refine rd_dnewK ?_ | with_reducible refine rd_nnew ?_ | with_reducible refine rd_nget ?_ | with_reducible refine rd_nget2 ?_ | with_reducible refine rd_npop ?_ | with_reducible refine rd_nput ?_ | with_reducible refine rd_dcn ?_ | with_reducible refine rd_gtup ?_ | with_reducible refine rd_gcons ?_ | with_reducible refine rd_gnil ?_ | with_reducible refine rd_lc ?_ | with_reducible refine rd_yes ?_ | with_reducible refine rd_for ?_ | with_reducible refine rd_iL ?_ | with_reducible refine rd_iT ?_ | with_reducible refine rd_iR1 ?_ | with_reducible refine rd_iS ?_ | with_reducible refine rd_leafS ?_ | with_reducible refine rd_sl ?_ | with_reducible refine rd_noPart ?_ | with_reducible refine rd_part ?_ | with_reducible refine rd_leafI ?_)
local macro_rules | `(tactic| walk_at "h") => `(tactic| repeat walk_at "h1")

section
variable {P : Program} {w : World} {K : PySem.W.Frag} {mg : Str → Option Value} {base : Heap}
/-- a word that stands among the names after so many signs has met so many of them -/
def Met (N : List Str) (i : Nat) (z : Str) : Prop := z ∉ N ∨ ∃ S : List Str, S.Nodup ∧ S.length = i ∧ (∀ x ∈ S, x ∈ N) ∧ ∀ x ∈ S, ∃ c, (cds x).getLast? = some c ∧ c < 97 + i
theorem Met.start (N : List Str) (z : Str) : Met N 0 z := .inr ⟨[], List.nodup_nil, rfl, (by simp), (by simp)⟩
theorem Met.stay {N : List Str} {i : Nat} {z : Str} (h : z ∉ N) : Met N (i + 1) z := .inl h
theorem Met.next {N : List Str} {i : Nat} {z z' : Str} (h : Met N i z) (hz : z ∈ N) (e : (cds z').getLast? = some (97 + i)) : Met N (i + 1) z' := by
  rcases h with h | ⟨S, nd, l, s, c⟩
  · exact absurd hz h
  · by_cases hm : z' ∈ N
    · refine .inr ⟨z' :: S, List.nodup_cons.mpr ⟨fun m => ?_, nd⟩, by rw [List.length_cons, l], fun x hx => ?_, fun x hx => ?_⟩
      · obtain ⟨d, e1, e2⟩ := c _ m
        rw [e] at e1
        have := Option.some.inj e1
        omega
      · rcases List.mem_cons.mp hx with r | r
        · rw [r]; exact hm
        · exact s x r
      · rcases List.mem_cons.mp hx with r | r
        · rw [r]; exact ⟨_, e, by omega⟩
        · obtain ⟨d, e1, e2⟩ := c x r
          exact ⟨d, e1, by omega⟩
    · exact .inl hm
theorem Met.done {N : List Str} {z : Str} (h : Met N 8 z) (hN : N.length < 8) : z ∉ N := by
  rcases h with h | ⟨S, nd, l, s, _⟩
  · exact h
  · have := List.Nodup.length_le_of_subset nd s
    omega
theorem sign_at {i c : Nat} (h : ("abcdefgh" : Str).cps[i]? = some c) : c = 97 + i ∧ i < 8 := by
  rw [← Array.getElem?_toList, show ("abcdefgh" : Str).cps.toList = List.range' 97 8 by decide +kernel] at h
  have hi : i < 8 := by
    have := (List.getElem?_eq_some_iff.mp h).1
    simpa using this
  rw [List.getElem?_range' hi] at h
  have := Option.some.inj h
  omega
theorem ok_names {f : Addr} {fd : FuncData} (F : Fun K "_law_names" "_law_names" s_l_names f fd) (T : Bi mg) (G_l_draw : Callee P w K mg base 1 "_law_draw" ["_law_dice_here", "_law_many"] spDraw) (G_l_word : Callee P w K mg base 2 "_law_word" ["_law_dice_here", "_law_most"] spWord) :
    FnOk P w K mg base CX0 3 f fd ["_law_dice_here", "_law_many"] spNames := by
  refine F.ok sc_l_names (fun vs H Q E h => ?_) (fun cdv A outer s H vs Q E hr h => ?_)
  · obtain ⟨p, c, many, rfl, _⟩ := h
    rfl
  · obtain ⟨p, c, many, rfl, D, h1, h2, q⟩ := h
    have hu := hu_of hr
    have hu20 := hu20_of hr
    have hu40 := hu40_of hr
    obtain ⟨f_l_draw, fd_l_draw, F_l_draw, m_l_draw, k_l_draw, b_l_draw⟩ := G_l_draw; obtain ⟨f_l_word, fd_l_word, F_l_word, m_l_word, k_l_word, b_l_word⟩ := G_l_word
    refine ⟨_, (pss_cons (ps_set (i := 2) sc_l_names.nd rfl (.inl rfl) (pe_call F_l_draw (hr.mono (by decide)) (by rfl) m_l_draw k_l_draw b_l_draw .nil pass0 (pa_cons (pv 0) (pa_cons pe_int pa_nil))))
  (pss_cons (ps_set (i := 3) sc_l_names.nd rfl (.inl rfl) (pe_call F_l_word (hr.mono (by decide)) (by rfl) m_l_word k_l_word b_l_word .nil pass0 (pa_cons (pv 0) (pa_cons pe_int pa_nil))))
  (pss_cons (ps_set (i := 4) sc_l_names.nd rfl (.inl rfl) (pe_lst pa_nil))
  (pss_cons (ps_for PassesOwn.never rfl (pi_range1 (by rfl) T.range (pa_cons (pv 1) pa_nil)) (pg_name (i := 5) sc_l_names.nd rfl (.inl rfl))
    (pss_cons (ps_set (i := 6) sc_l_names.nd rfl (.inl rfl) (pe_call F_l_word (hr.mono (by decide)) (by rfl) m_l_word k_l_word b_l_word .nil pass0 (pa_cons (pv 0) (pa_cons pe_int pa_nil))))
  (C8.pss_cut (ps_if (pt_cmpR (op_eqU (K := K) hu40) (pv 2) pe_int (nomark _)) (pss_cons (ps_set (i := 7) sc_l_names.nd rfl (.inl rfl) (pe_call F_l_draw (hr.mono (by decide)) (by rfl) m_l_draw k_l_draw b_l_draw .nil pass0 (pa_cons (pv 0) (pa_cons (pe_callB (call_lenU (P := P) (w := w) (K := K)) (by rfl) T.len_ PySem.boot_len (pa_cons (pv 3) pa_nil)) pa_nil))))
  (pss_one (ps_set (i := 6) sc_l_names.nd rfl (.inl rfl) (pe_op (op_addU (K := K)) (pe_op (op_addU (K := K)) (pe_slice sl_str (pv 3) po_none (po_some (pv 7))) (pe_ix ix_str (pv 6) pe_int (fun _ _ => rfl))) (pe_slice sl_str (pv 3) (po_some (pe_op (op_addU (K := K)) (pv 7) pe_int)) po_none))))) pss_nil)
  (pss_cons (ps_for PassesOwn.never rfl (pi_str pe_str) (pg_name (i := 8) sc_l_names.nd rfl (.inl rfl))
    (pss_one (ps_if (pt_cmpR (op_inU (P := P) (w := w) (K := K) hu20) (pv 6) (pv 4) (by rfl)) (pss_one (ps_set (i := 6) sc_l_names.nd rfl (.inl rfl) (pe_op (op_addU (K := K)) (pe_slice sl_str (pv 6) po_none (po_some pe_int)) (pv 8)))) pss_nil)))
  (pss_one (ps_expr (pe_bm PySem.F.plainAttrs_list PySem.F.slot_list_append PySem.F.type_list_append mt_append (pv 4) (pa_cons (pv 6) pa_nil))))))))
  (pss_one (ps_ret (pe_callB (cr_sortedSK (K := K)) (by rfl) T.sorted_ (by decide +kernel) (pa_cons (pv 4) pa_nil)))))))), ?_⟩
    rw [show L2.start N_l_names [V.ref p, V.int many] = [some (V.ref p), some (V.int many), none, none, none, none, none, none, none] from rfl]
    (try dsimp only [cxOf, Cx.nox, Cx.wish])
    walk_at "h"
    refine use_draw D (by decide) (by decide) fun al H1 a0 a1 D1 f1 => ?_
    walk_at "h"
    refine use_word D1 (by decide) (by decide) fun bs H2 b0 b1 lb D2 f2 => ?_
    walk_at "h"
    refine ⟨Nat.zero_le _, fun l nl => ?_⟩
    obtain ⟨npl, ncl⟩ := D2.new nl
    generalize hH3 : upd H2 l (.lst []) = H3
    have s3 : Same H2 H3 := by rw [← hH3]; exact same_new nl
    have h3 : H3 l = some (.lst (([] : List Str).map V.str)) := by rw [← hH3]; exact upd_same
    walk_at "h"
    refine rd_leafR (by omega) (by omega) ?_
    have f3 : Fr p H H3 := f1.trans (f2.trans (Fr.of s3))
    have nl0 : H l = none := (f1.trans f2).back npl nl
    refine for_range (fun i σ H' => ∃ (N : List Str) (v5 v6 v7 v8 : Option V), σ = [some (V.ref p), some (V.int many), some (V.int al), some (V.str bs), some (V.ref l), v5, v6, v7, v8] ∧ N.length = i ∧ (∀ y ∈ N, 1 ≤ y.length ∧ y.length ≤ 8 ∧ Low y) ∧ N.Nodup ∧ H' l = some (.lst (N.map V.str)) ∧ DiceAt H' p c ∧ Fr p H H')
      ⟨[], none, none, none, none, rfl, rfl, (by simp), List.nodup_nil, h3, D2.keep s3, f3⟩ ?_ ?_
    · rintro i σ H4 hi ⟨N, v5, v6, v7, v8, rfl, lN, oN, nN, hl, D4, f4⟩
      walk_at "h"
      refine use_word D4 (by decide) (by decide) fun wd H5 w0 w1 lw D5 f5 => ?_
      walk_at "h"
      refine rd_cut (fun σ' H' => ∃ (wd : Str) (v7 : Option V), σ' = [some (V.ref p), some (V.int many), some (V.int al), some (V.str bs), some (V.ref l), some (V.int (0 + i)), some (V.str wd), v7, v8] ∧ 1 ≤ wd.length ∧ wd.length ≤ 8 ∧ Low wd ∧ DiceAt H' p c ∧ Fr p H4 H') ?_ ?_
      · walk_at "h"
        refine ite2 (fun e1 => ?_) (fun e1 => ?_)
        · walk_at "h"
          refine rd_lenS (sz_le (by omega)) ?_
          walk_at "h"
          refine use_draw D5 (by omega) (by omega) fun k H6 k0 k1 D6 f6 => ?_
          walk_at "h"
          refine rd_slS (sz_le (by omega)) ?_
          walk_at "h"
          have wn : 0 < (cds wd).length := by rw [← len_cds]; omega
          obtain ⟨c0, hc0⟩ : ∃ c0, (cds wd)[0]? = some c0 := ⟨_, List.getElem?_eq_getElem wn⟩
          refine rd_ixs (sz_le (by omega)) (atI_nat (j := 0) hc0) ?_
          have lc : 97 ≤ c0 ∧ c0 ≤ 122 := lw c0 (List.mem_of_getElem? hc0)
          have lb1 : (cds (cutS bs none (some k))).length = k.toNat := by
            rw [cds_upto _ k0, List.length_take, ← len_cds]; omega
          have lb2 : (cds (cutS bs (some (k + 1)) none)).length = bs.length - (k.toNat + 1) := by
            rw [cds_from _ (by omega), List.length_drop, ← len_cds]
            congr 1
            omega
          refine rd_addS (sz_le ?_) ?_
          · rw [len_cds, len_cds, lb1, cds_one]; simp only [List.length_cons, List.length_nil]; omega
          walk_at "h"
          refine rd_slS (sz_le (by omega)) ?_
          refine rd_addS (sz_le ?_) ?_
          · rw [len_cds, len_cds, cds_app, List.length_append, lb1, lb2, cds_one]; simp only [List.length_cons, List.length_nil]; omega
          walk_at "h"
          refine ⟨_, _, rfl, ?_, ?_, ((lb.cut _ _).app (Low.one lc.1 lc.2)).app (lb.cut _ _), D6, f5.trans f6⟩
          · rw [len_cds, cds_app, cds_app, List.length_append, List.length_append, lb1, lb2, cds_one]; simp only [List.length_cons, List.length_nil]; omega
          · rw [len_cds, cds_app, cds_app, List.length_append, List.length_append, lb1, lb2, cds_one]; simp only [List.length_cons, List.length_nil]; omega
        · walk_at "h"
          exact ⟨wd, v7, rfl, w0, by omega, lw, D5, f5⟩
      · rintro σ' H6 ⟨wd, v7, rfl, w0, w1, lw, D6, f6⟩
        have hl6 : H6 l = some (.lst (N.map V.str)) := f6 _ _ npl hl
        walk_at "h"
        refine for_it walk_str (fun j σ H' => ∃ (z : Str) (v8 : Option V), σ = [some (V.ref p), some (V.int many), some (V.int al), some (V.str bs), some (V.ref l), some (V.int (0 + i)), some (V.str z), v7, v8] ∧ 1 ≤ z.length ∧ z.length ≤ 8 ∧ Low z ∧ Met N j z ∧ H' = H6)
          ⟨wd, v8, rfl, w0, w1, lw, Met.start N wd, rfl⟩ (fun _ _ _ _ _ => True.intro) ?_ ?_
        · rintro j x σ H7 H8 hj ⟨z, v8, rfl, z0, z1, lz, mz, rfl⟩ ⟨rfl, c, hc, rfl⟩
          obtain ⟨rfl, hj8⟩ := sign_at hc
          walk_at "h"
          refine rd_inS (sql hl6) ?_
          walk_at "h"
          refine ite2 (fun e1 => ?_) (fun e1 => ?_)
          · have zN : z ∈ N := of_decide_eq_true e1
            walk_at "h"
            refine rd_slS (sz_le (by omega)) ?_
            have l7 : (cds (cutS z none (some 7))).length ≤ 7 := by
              rw [cds_upto _ (by decide), List.length_take]; exact Nat.min_le_left _ _
            walk_at "h"
            refine rd_addS (sz_le ?_) ?_
            · rw [len_cds, len_cds, cds_one]; simp only [List.length_cons, List.length_nil]; omega
            walk_at "h"
            have le : (cutS z none (some 7) ++ (⟨#[97 + j]⟩ : Str)).length = (cds (cutS z none (some 7))).length + 1 := by
              rw [len_cds, cds_app, List.length_append, cds_one]; rfl
            exact ⟨_, _, rfl, by omega, by omega, (lz.cut _ _).app (Low.one (by omega) (by omega)), mz.next zN (by rw [cds_app, cds_one]; simp), rfl⟩
          · have zN : z ∉ N := of_decide_eq_false (by simpa using e1)
            walk_at "h"
            exact ⟨_, _, rfl, z0, z1, lz, .inl zN, rfl⟩
        · rintro σ H7 ⟨z, v8, rfl, z0, z1, lz, mz, rfl⟩
          have zN : z ∉ N := Met.done (by rw [show ("abcdefgh" : Str).cps.size = 8 by decide +kernel] at mz; exact mz) (by omega)
          walk_at "h"
          refine ⟨.inl ⟨rfl, _, sql hl6⟩, ?_⟩
          walk_at "h"
          refine rd_app hl6 (by rw [List.length_map]; exact sz_lt (by omega)) ?_
          walk_at "h"
          refine ⟨N ++ [z], _, _, _, _, rfl, by rw [List.length_append, lN]; rfl, fun y hy => ?_, List.nodup_append.mpr ⟨nN, List.nodup_cons.mpr ⟨List.not_mem_nil, List.nodup_nil⟩, fun a ha b hb e => ?_⟩, by rw [upd_same, List.map_append]; rfl, ?_, ?_⟩
          · rcases List.mem_append.mp hy with r | r
            · exact oN y r
            · rw [List.mem_singleton.mp r]; exact ⟨z0, z1, lz⟩
          · rw [List.mem_singleton.mp hb] at e
            rw [e] at ha
            exact zN ha
          · exact D6.mut npl ncl
          · exact (f4.trans f6).mut nl0
    · rintro σ H4 ⟨N, v5, v6, v7, v8, rfl, lN, oN, nN, hl, D4, f4⟩
      walk_at "h"
      refine rd_sortS (sql hl) (by omega) fun ys m pm so nm => ?_
      have npm := (D4.new nm).1
      exact q ys m _ (by rw [pm.length_eq]; omega) ⟨fun y hy => oN y (pm.mem_iff.mp hy), pm.nodup_iff.mpr nN, so⟩ (f4.back npm nm) upd_same (D4.keep (same_new nm)) (f4.trans (Fr.new nm))
end
end K03
namespace K03
open PySem PySem.Spec PyProof.Rows L2 HH
local macro_rules | `(tactic| walk_at "h1") => `(tactic| first
  | with_reducible refine rd_seq ?_ | with_reducible refine rd_asg ?_ | with_reducible refine rd_op ?_
  | ((with_reducible refine' rd_var ?hv ?_); (case hv => exact rfl)) | with_reducible refine rd_c ?_
  | ((with_reducible refine rd_name ?_); dsimp only [List.set_cons_zero, List.set_cons_succ])
  | with_reducible refine rd_I0 ?_ | ((with_reducible refine rd_pow ?_ ?_ ?_ ?_); (· decide); (· decide); (· decide)) | ((with_reducible refine rd_mod ?_ ?_); (· decide)) | ((with_reducible refine rd_mulR ?_ ?_ ?_); (· decide); (· decide)) | ((with_reducible refine rd_divW (n := 64) ?_ ?_ ?_ ?_ ?_); (· decide); (· decide); (· decide); (· decide)) | with_reducible refine rd_addI ?_ | with_reducible refine rd_eqI ?_ | with_reducible refine rd_eqS ?_ | with_reducible refine rd_eqB ?_ | with_reducible refine rd_ltI ?_
  | with_reducible refine rd_callS ?_ | with_reducible refine rd_xf ?_ | with_reducible refine rd_cons ?_ | with_reducible refine rd_nil ?_ | with_reducible refine rd_cb ?_ | with_reducible refine rd_call ?_
  | with_reducible refine rd_ifs ?_ | with_reducible refine rd_test ?_ | with_reducible refine rd_tB ?_ | with_reducible refine rd_blQ ?_ | with_reducible refine iteT ?_ | with_reducible refine iteF ?_ | with_reducible refine iteNotF ?_ | with_reducible refine iteNotT ?_
  | with_reducible refine rd_and ?_ | with_reducible refine rd_or ?_ | with_reducible refine rd_not ?_ | with_reducible refine rd_andV ?_ | with_reducible refine rd_orV ?_ | with_reducible refine rd_notV ?_ | with_reducible refine rd_if ?_
  | with_reducible refine rd_un ?_ | with_reducible refine rd_U ?_ | with_reducible refine rd_sub ?_ | with_reducible refine rd_tup ?_ | with_reducible refine rd_lst ?_
  | with_reducible refine rd_intI ?_ | with_reducible refine rd_absI ?_ | with_reducible refine rd_drop ?_ | with_reducible refine rd_ret ?_ | with_reducible refine rd_retN ?_ | with_reducible refine rd_next ?_ | with_reducible refine rd_bm ?_
  | with_reducible refine rd_tDGet2 ?_ | with_reducible refine rd_tDGet ?_ | with_reducible refine rd_sDPut ?_ | with_reducible refine rd_dnewK ?_ | with_reducible refine rd_nnew ?_ | with_reducible refine rd_nget ?_ | with_reducible refine rd_nget2 ?_ | with_reducible refine rd_npop ?_ | with_reducible refine rd_nput ?_ | with_reducible refine rd_dcn ?_ | with_reducible refine rd_gtup ?_ | with_reducible refine rd_gcons ?_ | with_reducible refine rd_gnil ?_ | with_reducible refine rd_lc ?_ | with_reducible refine rd_yes ?_ | with_reducible refine rd_for ?_ | with_reducible refine rd_iL ?_ | with_reducible refine rd_iT ?_ | with_reducible refine rd_iR1 ?_ | with_reducible refine rd_iS ?_ | with_reducible refine rd_leafS ?_ | with_reducible refine rd_sl ?_ | with_reducible refine rd_noPart ?_ | with_reducible refine rd_part ?_ | with_reducible refine rd_leafI ?_)
local macro_rules | `(tactic| walk_at "h") => `(tactic| repeat walk_at "h1")

section
variable {P : Program} {w : World} {K : PySem.W.Frag} {mg : Str → Option Value} {base : Heap}
theorem ok_product {f : Addr} {fd : FuncData} (F : Fun K "_law_product" "_law_product" s_l_product f fd) (T : Bi mg) (G_l_draw : Callee P w K mg base 1 "_law_draw" ["_law_dice_here", "_law_many"] spDraw) :
    FnOk P w K mg base CX0 2 f fd ["_law_dice_here", "_law_names_here", "_law_most"] (spProduct K) := by
  refine F.ok sc_l_product (fun vs H Q E h => ?_) (fun cdv A outer s H vs Q E hr h => ?_)
  · obtain ⟨p, c, l, xs, most, rfl, _⟩ := h
    rfl
  · obtain ⟨p, c, l, xs, most, rfl, D, hl, npl, x1, x2, m0, m1, q⟩ := h
    have hu := hu_of hr
    have hu20 := hu20_of hr
    have hu40 := hu40_of hr
    obtain ⟨f_l_draw, fd_l_draw, F_l_draw, m_l_draw, k_l_draw, b_l_draw⟩ := G_l_draw
    refine ⟨_, (pss_cons (ps_set (i := 3) sc_l_product.nd rfl (.inr rfl) pe_dnewK)
  (pss_cons (ps_for PassesOwn.never rfl (pi_range1 (by rfl) T.range (pa_cons (pe_call F_l_draw (hr.mono (by decide)) (by rfl) m_l_draw k_l_draw b_l_draw .nil pass0 (pa_cons (pv 0) (pa_cons (pe_op (op_addU (K := K)) (pv 2) pe_int) pa_nil))) pa_nil)) (pg_name (i := 4) sc_l_product.nd rfl (.inl rfl))
    (pss_cons (ps_set (i := 5) sc_l_product.nd rfl (.inl rfl) (pe_ix (ix_listK (K := K)) (pv 1) (pe_call F_l_draw (hr.mono (by decide)) (by rfl) m_l_draw k_l_draw b_l_draw .nil pass0 (pa_cons (pv 0) (pa_cons (pe_callB (call_lenU (P := P) (w := w) (K := K)) (by rfl) T.len_ PySem.boot_len (pa_cons (pv 1) pa_nil)) pa_nil))) (fun _ _ => rfl)))
  (pss_one (ps_dput hu (pv 3) (pv 5) (pe_op (op_addU (K := K)) (pe_dget2 hu (pv 3) (pv 5) pe_int ⟨rfl, rfl, rfl, rfl⟩) pe_int) rfl))))
  (pss_one (ps_ret (pe_callTy (call_tupC (K := K)) (by rfl) T.tuple_ (by decide +kernel) (pa_cons (pe_lc (own := [("_law_name", 5)]) rfl sc_l_product.nd (pi_list (pe_callB (cr_sortD rfl) (by rfl) T.sorted_ (by decide +kernel) (pa_cons (pv 3) pa_nil))) (blkOk_by (N := N_l_product) (sc := defScope s_l_product) (by decide +kernel)) (fun _ _ _ _ _ => (pg_name (i := 5) sc_l_product.nd rfl (.inl rfl))) (fun _ _ _ _ _ => pts_nil) (fun _ _ _ _ _ => (pe_tup (pa_cons (pv 5) (pa_cons (pe_dget hu (pv 3) (pv 5) (fun _ _ => rfl)) pa_nil))))) pa_nil)))))), ?_⟩
    rw [show L2.start N_l_product [V.ref p, V.ref l, V.int most] = [some (V.ref p), some (V.ref l), some (V.int most), none, none, none] from rfl]
    (try dsimp only [cxOf, Cx.nox, Cx.wish])
    walk_at "h"
    intro d nd
    obtain ⟨dp, dc⟩ := D.new nd
    have ndl : l ≠ d := ne_of_none hl nd
    generalize hH1 : upd H d (.dK []) = H1
    have s1 : Same H H1 := by rw [← hH1]; exact same_new nd
    have hd : H1 d = some (.dK (tabV [])) := by rw [← hH1]; exact upd_same
    walk_at "h"
    refine use_draw (D.keep s1) (by omega) (by omega) fun r H2 r0 r1 D2 f2 => ?_
    walk_at "h"
    refine rd_leafR (by omega) (by omega) ?_
    refine for_range (fun i σ H' => ∃ (m : Tab) (v4 v5 : Option V), σ = [some (V.ref p), some (V.ref l), some (V.int most), some (V.ref d), v4, v5] ∧ (∀ q ∈ m, q.1 ∈ xs ∧ 1 ≤ q.2) ∧ (m.map (·.1)).Nodup ∧ (m.map (·.2)).sum = i ∧ m.length ≤ i ∧ H' d = some (.dK (tabV m)) ∧ DiceAt H' p c ∧ Fr p H H')
      ⟨[], none, none, rfl, by simp, List.nodup_nil, rfl, Nat.le_refl _, f2 _ _ dp hd, D2, (Fr.of s1).trans f2⟩ ?_ ?_
    · rintro i σ H3 hi ⟨m, v4, v5, rfl, om, nm, sm, lm, hd3, D3, f3⟩
      walk_at "h"
      refine rd_lenL (sql (f3 _ _ npl hl)) ?_
      walk_at "h"
      refine use_draw D3 (by rw [List.length_map]; omega) (by rw [List.length_map]; omega) fun k H4 k0 k1 D4 f4 => ?_
      rw [List.length_map] at k1
      have hk : k.toNat < xs.length := by omega
      have hx : atI (xs.map V.str) k = some (.str xs[k.toNat]) := by
        have := atI_nat (xs := xs.map V.str) (j := k.toNat) (v := .str xs[k.toNat]) (by rw [List.getElem?_map, List.getElem?_eq_getElem hk]; rfl)
        rwa [Int.toNat_of_nonneg k0] at this
      have mx : xs[k.toNat] ∈ xs := List.getElem_mem hk
      generalize xs[k.toNat] = z at hx mx
      refine rd_ixl (sql ((f3.trans f4) _ _ npl hl)) hx ?_
      have hd4 : H4 d = some (.dK (tabV m)) := f4 _ _ dp hd3
      walk_at "h"
      refine rd_isD hd4 ?_
      walk_at "h"
      refine ⟨_, DGet.k (k := Sum.inr z) hd4, ?_⟩
      rw [valV_tab]
      obtain ⟨n0, e0, n0p, n0s⟩ : ∃ n0 : Int, ((tget m z).map V.int).getD (.int 0) = .int n0 ∧ 0 ≤ n0 ∧ (((tput m z (n0 + 1)).map (·.2)).sum = (m.map (·.2)).sum + 1) := by
        have ts := fun n0 : Int => tput_sum nm z (n0 + 1)
        cases e : tget m z with
        | none => exact ⟨0, rfl, by omega, by rw [ts, e]; simp⟩
        | some n => exact ⟨n, rfl, by have := (om _ (tget_mem e)).2; simp only at this; omega, by rw [ts, e]; simp only [Option.getD_some]; omega⟩
      rw [e0]
      walk_at "h"
      refine rd_dputT hd4 (by omega) fun H5 hd5 f5 => ?_
      walk_at "h"
      refine ⟨_, _, _, rfl, fun q hq => ?_, tput_nodup nm, by rw [n0s, sm]; omega, by have := tput_len m z (n0 + 1); omega, hd5, D4.oth dp dc f5, (f3.trans f4).oth nd f5⟩
      rcases mem_tput hq with r | r
      · exact om q r
      · rw [r]; exact ⟨mx, by simp only; omega⟩
    · rintro σ H3 ⟨m, v4, v5, rfl, om, nm, sm, lm, hd3, D3, f3⟩
      walk_at "h"
      refine rd_sortD hd3 (by omega) fun ys e pm so ne => ?_
      generalize hH4 : upd H3 e (.lst (ys.map V.str)) = H4
      have s4 : Same H3 H4 := by rw [← hH4]; exact same_new ne
      have he : H4 e = some (.lst (ys.map V.str)) := by rw [← hH4]; exact upd_same
      have my : ∀ y ∈ ys, ∃ n, tget m y = some n := fun y hy => by
        have := tget_some.mpr (pm.mem_iff.mp hy)
        exact Option.isSome_iff_exists.mp this
      have ly : ys.length ≤ 100 := by rw [pm.length_eq, List.length_map]; omega
      let ps : Tab := ys.map fun y => (y, (tget m y).getD 0)
      have lps : ps.length = ys.length := List.length_map _
      refine rd_leafL (sql he) fun D nD => ?_
      refine lc_listW (xs := ys.map V.str) [some (V.ref p), some (V.ref l), some (V.int most), some (V.ref d), v4, none] rfl
        (fun i H' => Same H4 H' ∧ ∃ ts : List V, H' D = some (.lst ts) ∧ ts.length = i ∧ IsKs K H' ((ps.take i).map fun q => .tup [.text q.1, .num q.2]) ts) ⟨same_new nD, [], upd_same, rfl, rfl⟩ (fun i H' _ h => sql (h.1 _ _ he)) ?_ ?_
      · rintro i x H5 hx ⟨s5, ts, ht, lt, kt⟩
        have hi : i < ys.length := by
          have := (List.getElem?_eq_some_iff.mp hx).1
          simpa using this
        obtain rfl : x = V.str ys[i] := by
          rw [List.getElem?_map, List.getElem?_eq_getElem hi] at hx
          exact (Option.some.inj hx).symm
        obtain ⟨n, en⟩ := my _ (List.getElem_mem hi)
        walk_at "h"
        refine ⟨rfl, ?_⟩
        walk_at "h"
        refine ⟨d, .int n, rfl, dget_tab (s5 _ _ (s4 _ _ hd3)) en, ?_⟩
        walk_at "h"
        refine ⟨sz_le (by simp only [List.length_cons, List.length_nil]; omega), fun u nu => ?_⟩
        have nuD : D ≠ u := ne_of_none ht nu
        refine ⟨ts, by rw [upd_ne nuD]; exact ht, sz_lt (by omega), same_mut (s5.trans (same_new nu)) nD, _, upd_same, by rw [List.length_append, lt]; rfl, ?_⟩
        have hps : ps[i]? = some (ys[i], n) := by
          show (ys.map _)[i]? = _
          rw [List.getElem?_map, List.getElem?_eq_getElem hi, Option.map_some, en]
          rfl
        rw [List.take_add_one, hps, List.map_append]
        have tp : Tup K H5 (upd (upd H5 u (.tup [V.str ys[i], V.int n])) D (.lst (ts ++ [V.ref u]))) :=
          (tup_new nu).trans (tup_upd (o := .lst ts) (by rw [upd_ne nuD]; exact ht) (fun _ z => nomatch z) (fun _ _ z => nomatch z))
        refine IsKs.app (IsKs.keep tp _ _ kt) ⟨_, [], rfl, ⟨u, _, rfl, sqt (by rw [upd_ne nuD.symm, upd_same]), ⟨_, _, rfl, rfl, _, _, rfl, rfl, rfl⟩⟩, rfl⟩
      · rintro H5 ⟨s5, ts, ht, lt, kt⟩
        walk_at "h"
        refine rd_tupL (sql ht) fun t nt => ?_
        have np := (D3.keep (s4.trans s5)).new nt
        rw [List.length_map, ← lps, List.take_length] at kt
        have dn : H t = none := (f3.trans (Fr.of (s4.trans s5))).back np.1 nt
        refine q ps t _ ⟨fun r hr => ?_, ?_, ?_, ?_⟩ dn ⟨t, ts, rfl, sqt upd_same, IsKs.keep (tup_new nt) _ _ kt⟩ ((D3.keep (s4.trans s5)).keep (same_new nt)) ((f3.trans (Fr.of (s4.trans s5))).trans (Fr.new nt))
        · obtain ⟨y, hy, rfl⟩ := List.mem_map.mp hr
          obtain ⟨n, en⟩ := my y hy
          have := om _ (tget_mem en)
          rw [en]
          exact this
        · have e1 : ps.map (·.1) = ys := by show (ys.map _).map _ = _; rw [List.map_map]; exact List.map_id' _
          rw [e1]; exact pm.nodup_iff.mpr nm
        · have e1 : ps.map (·.1) = ys := by show (ys.map _).map _ = _; rw [List.map_map]; exact List.map_id' _
          rw [e1]; exact so
        · rw [perm_sum ((tab_perm nm pm).map (·.2)), sm]; omega
end
end K03
namespace K03
open PySem PySem.Spec PyProof.Rows L2 HH
local macro_rules | `(tactic| walk_at "h1") => `(tactic| first
  | with_reducible refine rd_seq ?_ | with_reducible refine rd_asg ?_ | with_reducible refine rd_op ?_
  | ((with_reducible refine' rd_var ?hv ?_); (case hv => exact rfl)) | with_reducible refine rd_c ?_
  | ((with_reducible refine rd_name ?_); dsimp only [List.set_cons_zero, List.set_cons_succ])
  | with_reducible refine rd_I0 ?_ | ((with_reducible refine rd_pow ?_ ?_ ?_ ?_); (· decide); (· decide); (· decide)) | ((with_reducible refine rd_mod ?_ ?_); (· decide)) | ((with_reducible refine rd_mulR ?_ ?_ ?_); (· decide); (· decide)) | ((with_reducible refine rd_divW (n := 64) ?_ ?_ ?_ ?_ ?_); (· decide); (· decide); (· decide); (· decide)) | with_reducible refine rd_addI ?_ | with_reducible refine rd_eqI ?_ | with_reducible refine rd_eqS ?_ | with_reducible refine rd_eqB ?_ | with_reducible refine rd_ltI ?_
  | with_reducible refine rd_callS ?_ | with_reducible refine rd_xf ?_ | with_reducible refine rd_cons ?_ | with_reducible refine rd_nil ?_ | with_reducible refine rd_cb ?_ | with_reducible refine rd_call ?_
  | with_reducible refine rd_ifs ?_ | with_reducible refine rd_test ?_ | with_reducible refine rd_tB ?_ | with_reducible refine rd_blQ ?_ | with_reducible refine iteT ?_ | with_reducible refine iteF ?_ | with_reducible refine iteNotF ?_ | with_reducible refine iteNotT ?_
  | with_reducible refine rd_and ?_ | with_reducible refine rd_or ?_ | with_reducible refine rd_not ?_ | with_reducible refine rd_andV ?_ | with_reducible refine rd_orV ?_ | with_reducible refine rd_notV ?_ | with_reducible refine rd_if ?_
  | with_reducible refine rd_un ?_ | with_reducible refine rd_U ?_ | with_reducible refine rd_sub ?_ | with_reducible refine rd_tup ?_ | with_reducible refine rd_lst ?_
  | with_reducible refine rd_intI ?_ | with_reducible refine rd_absI ?_ | with_reducible refine rd_drop ?_ | with_reducible refine rd_ret ?_ | with_reducible refine rd_retN ?_ | with_reducible refine rd_next ?_ | with_reducible refine rd_bm ?_
  | with_reducible refine rd_tDGet2 ?_ | with_reducible refine rd_tDGet ?_ | with_reducible refine rd_sDPut ?_ | with_reducible refine rd_dnewK ?_ | with_reducible refine rd_nnew ?_ | with_reducible refine rd_nget ?_ | with_reducible refine rd_nget2 ?_ | with_reducible refine rd_npop ?_ | with_reducible refine rd_nput ?_ | with_reducible refine rd_dcn ?_ | with_reducible refine rd_gtup ?_ | with_reducible refine rd_gcons ?_ | with_reducible refine rd_gnil ?_ | with_reducible refine rd_lc ?_ | with_reducible refine rd_yes ?_ | with_reducible refine rd_for ?_ | with_reducible refine rd_iL ?_ | with_reducible refine rd_iT ?_ | with_reducible refine rd_iR1 ?_ | with_reducible refine rd_iS ?_ | with_reducible refine rd_leafS ?_ | with_reducible refine rd_sl ?_ | with_reducible refine rd_noPart ?_ | with_reducible refine rd_part ?_ | with_reducible refine rd_leafI ?_)
local macro_rules | `(tactic| walk_at "h") => `(tactic| repeat walk_at "h1")

section
variable {P : Program} {w : World} {K : PySem.W.Frag} {mg : Str → Option Value} {base : Heap}
theorem ok_sum {f : Addr} {fd : FuncData} (F : Fun K "_law_sum" "_law_sum" s_l_sum f fd) (T : Bi mg) (G_l_draw : Callee P w K mg base 1 "_law_draw" ["_law_dice_here", "_law_many"] spDraw)
    (G_l_product : Callee P w K mg base 2 "_law_product" ["_law_dice_here", "_law_names_here", "_law_most"] (spProduct K)) :
    FnOk P w K mg base CX0 3 f fd ["_law_dice_here", "_law_names_here", "_law_terms", "_law_most", "_law_top"] (spSum K) := by
  refine F.ok sc_l_sum (fun vs H Q E h => ?_) (fun cdv A outer s H vs Q E hr h => ?_)
  · obtain ⟨p, c, l, xs, terms, most, top, rfl, _⟩ := h
    rfl
  · obtain ⟨p, c, l, xs, terms, most, top, rfl, D, hl, npl, x1, x2, t1, t2, m0, m1, o1, o2, q⟩ := h
    have hu := hu_of hr
    have hu20 := hu20_of hr
    have hu40 := hu40_of hr
    obtain ⟨f_l_draw, fd_l_draw, F_l_draw, m_l_draw, k_l_draw, b_l_draw⟩ := G_l_draw; obtain ⟨f_l_product, fd_l_product, F_l_product, m_l_product, k_l_product, b_l_product⟩ := G_l_product
    refine ⟨_, (pss_cons (ps_set (i := 5) sc_l_sum.nd rfl (.inr rfl) (pe_nnew (K := K)))
  (pss_cons (ps_for PassesOwn.never rfl (pi_range1 (by rfl) T.range (pa_cons (pe_op (op_addU (K := K)) pe_int (pe_call F_l_draw (hr.mono (by decide)) (by rfl) m_l_draw k_l_draw b_l_draw .nil pass0 (pa_cons (pv 0) (pa_cons (pv 2) pa_nil)))) pa_nil)) (pg_name (i := 6) sc_l_sum.nd rfl (.inl rfl))
    (pss_cons (ps_set (i := 7) sc_l_sum.nd rfl (.inl rfl) (pe_call F_l_product (hr.mono (by decide)) (by rfl) m_l_product k_l_product b_l_product .nil pass0 (pa_cons (pv 0) (pa_cons (pv 1) (pa_cons (pv 3) pa_nil)))))
  (pss_one (ps_nput (P := P) (w := w) (K := K) hu20 (pv 5) (pv 7) (pe_op (op_addU (K := K)) pe_int (pe_call F_l_draw (hr.mono (by decide)) (by rfl) m_l_draw k_l_draw b_l_draw .nil pass0 (pa_cons (pv 0) (pa_cons (pv 4) pa_nil)))) rfl))))
  (pss_one (ps_ret (pe_callTy (call_tupC (K := K)) (by rfl) T.tuple_ (by decide +kernel) (pa_cons (pe_lc (own := [("_law_product_here", 7)]) rfl sc_l_sum.nd (pi_list (pe_callB (cr_sortN (P := P) (w := w) (K := K) hu20 rfl) (by rfl) T.sorted_ (by decide +kernel) (pa_cons (pv 5) pa_nil))) (blkOk_by (N := N_l_sum) (sc := defScope s_l_sum) (by decide +kernel)) (fun _ _ _ _ _ => (pg_name (i := 7) sc_l_sum.nd rfl (.inl rfl))) (fun _ _ _ _ _ => pts_nil) (fun _ _ _ _ _ => (pe_tup (pa_cons (pe_nget (P := P) (w := w) (K := K) hu20 (pv 5) (pv 7) (fun _ _ => rfl)) (pa_cons (pv 7) pa_nil))))) pa_nil)))))), ?_⟩
    rw [show L2.start N_l_sum [V.ref p, V.ref l, V.int terms, V.int most, V.int top] = [some (V.ref p), some (V.ref l), some (V.int terms), some (V.int most), some (V.int top), none, none, none] from rfl]
    (try dsimp only [cxOf, Cx.nox, Cx.wish])
    walk_at "h"
    intro d nd
    obtain ⟨dp, dc⟩ := D.new nd
    generalize hH1 : upd H d (NdO P w d []) = H1
    have s1 : Same H H1 := by rw [← hH1]; exact same_new nd
    have hd : NdAt P w K H1 d (ptV []) := by rw [← hH1]; exact ndat_empty
    walk_at "h"
    refine use_draw (D.keep s1) (by omega) (by omega) fun r H2 r0 r1 D2 f2 => ?_
    walk_at "h"
    refine rd_leafR (by omega) (by omega) ?_
    obtain ⟨lp, hlp⟩ := D.lst
    refine for_range (fun i σ H' => ∃ (m : Pt) (v6 v7 : Option V), σ = [some (V.ref p), some (V.ref l), some (V.int terms), some (V.int most), some (V.int top), some (V.ref d), v6, v7] ∧ (∀ q ∈ m, ProdOk xs most q.1 ∧ 1 ≤ q.2 ∧ q.2 ≤ top) ∧ (m.map (·.1)).Nodup ∧ m.length ≤ i ∧ (1 ≤ i → 1 ≤ m.length) ∧ NdAt P w K H' d (ptV m) ∧ DiceAt H' p c ∧ Fr p H H')
      ⟨[], none, none, rfl, by simp, List.nodup_nil, Nat.le_refl _, by omega, hd.keep (f2 _ · dp) (f2.tup (s1 _ _ hlp)), D2, (Fr.of s1).trans f2⟩ ?_ ?_
    · rintro i σ H3 hi ⟨m, v6, v7, rfl, om, nm, lm, l1, hd3, D3, f3⟩
      walk_at "h"
      refine use_product D3 (f3 _ _ npl hl) npl x1 x2 m0 m1 fun ps t H4 pok nt kt D4 f4 => ?_
      walk_at "h"
      refine use_draw D4 o1 (by omega) fun v H5 v0 v1 D5 f5 => ?_
      walk_at "h"
      obtain ⟨lp3, hlp3⟩ := D3.lst
      obtain ⟨lp4, hlp4⟩ := D4.lst
      have t45 : Tup K H4 H5 := f5.tup hlp4
      have hd5 : NdAt P w K H5 d (ptV m) := hd3.keep (fun o e => f5 _ _ dp (f4 _ _ dp e)) ((f4.tup hlp3).trans t45)
      refine ⟨d, _, _, rfl, hd5, prod_key (kt.keep t45), by rw [ptV_len]; exact sz_lt (by omega), fun xs' n' => ?_⟩
      rw [putK_pt] at n'
      generalize hH6 : upd H5 d (NdO P w d xs') = H6 at n' ⊢
      have e6 : ∀ b, b ≠ d → H6 b = H5 b := fun b hb => by rw [← hH6]; exact upd_ne hb
      walk_at "h"
      refine ⟨_, _, _, rfl, fun q hq => ?_, tput_nodup nm, by have := tput_len m ps (1 + v); omega, fun _ => tput_ne _ _ _, n', D5.oth dp dc e6, (f3.trans (f4.trans f5)).oth nd e6⟩
      rcases mem_tput hq with r | r
      · exact om q r
      · rw [r]; exact ⟨pok, by simp only; omega, by simp only; omega⟩
    · rintro σ H3 ⟨m, v6, v7, rfl, om, nm, lm, l1, hd3, D3, f3⟩
      walk_at "h"
      refine ⟨d, _, rfl, hd3, ptV_cm m, fun zs ls e pm so kz ne => ?_⟩
      obtain ⟨ys, rfl, py⟩ := keys_back pm
      generalize hH4 : upd H3 e (.lst zs) = H4
      have s4 : Same H3 H4 := by rw [← hH4]; exact same_new ne
      have he : H4 e = some (.lst zs) := by rw [← hH4]; exact upd_same
      have kz4 : IsKs K H4 (ys.map prodK) zs := IsKs.keep (same_tup s4) _ _ kz
      have lz : zs.length = ys.length := by rw [IsKs.length kz, List.length_map]
      have ly : ys.length = m.length := by rw [py.length_eq, List.length_map]
      have my : ∀ y ∈ ys, ∃ n, tget m y = some n := fun y hy => Option.isSome_iff_exists.mp (tget_some.mpr (py.mem_iff.mp hy))
      let S : Sm := ys.map fun y => ((tget m y).getD 0, y)
      have lS : S.length = ys.length := List.length_map _
      refine rd_leafL (sql he) fun D nD => ?_
      refine lc_listW (xs := zs) [some (V.ref p), some (V.ref l), some (V.int terms), some (V.int most), some (V.int top), some (V.ref d), v6, none] rfl
        (fun i H' => Same H4 H' ∧ ∃ ts : List V, H' D = some (.lst ts) ∧ ts.length = i ∧ IsKs K H' ((S.take i).map termK) ts) ⟨same_new nD, [], upd_same, rfl, rfl⟩ (fun i H' _ h => sql (h.1 _ _ he)) ?_ ?_
      · rintro i x H5 hx ⟨s5, ts, ht, lt, kt⟩
        have hi : i < ys.length := by rw [← lz]; exact (List.getElem?_eq_some_iff.mp hx).1
        obtain ⟨n, en⟩ := my _ (List.getElem_mem hi)
        obtain ⟨x', ex, kx⟩ := IsKs.get (i := i) (k := prodK ys[i]) kz4 (by rw [List.getElem?_map, List.getElem?_eq_getElem hi]; rfl)
        obtain rfl : x = x' := Option.some.inj (hx.symm.trans ex)
        obtain ⟨t, _, rfl, _, _⟩ := id kx
        have kx5 := kx.keep (same_tup s5)
        have hd5 : NdAt P w K H5 d (ptV m) := hd3.keep (fun o e => s5 _ _ (s4 _ _ e)) ((same_tup s4).trans (same_tup s5))
        walk_at "h"
        refine ⟨rfl, ?_⟩
        walk_at "h"
        refine ⟨d, _, _, .int n, rfl, hd5, prod_key kx5, by rw [valV_pt, en]; rfl, ?_⟩
        walk_at "h"
        refine ⟨sz_le (by simp only [List.length_cons, List.length_nil]; omega), fun u nu => ?_⟩
        have nuD : D ≠ u := ne_of_none ht nu
        refine ⟨ts, by rw [upd_ne nuD]; exact ht, sz_lt (by omega), same_mut (s5.trans (same_new nu)) nD, _, upd_same, by rw [List.length_append, lt]; rfl, ?_⟩
        have hS : S[i]? = some (n, ys[i]) := by
          show (ys.map _)[i]? = _
          rw [List.getElem?_map, List.getElem?_eq_getElem hi, Option.map_some, en]
          rfl
        rw [List.take_add_one, hS, List.map_append]
        have tp : Tup K H5 (upd (upd H5 u (.tup [V.int n, V.ref t])) D (.lst (ts ++ [V.ref u]))) :=
          (tup_new nu).trans (tup_upd (o := .lst ts) (by rw [upd_ne nuD]; exact ht) (fun _ z => nomatch z) (fun _ _ z => nomatch z))
        refine IsKs.app (IsKs.keep tp _ _ kt) ⟨_, [], rfl, ⟨u, _, rfl, sqt (by rw [upd_ne nuD.symm, upd_same]), ⟨_, _, rfl, rfl, _, _, rfl, kx5.keep tp, rfl⟩⟩, rfl⟩
      · rintro H5 ⟨s5, ts, ht, lt, kt⟩
        walk_at "h"
        refine rd_tupL (sql ht) fun t nt => ?_
        have np := (D3.keep (s4.trans s5)).new nt
        rw [lz, ← lS, List.take_length] at kt
        have dn : H t = none := (f3.trans (Fr.of (s4.trans s5))).back np.1 nt
        refine q S t _ ⟨?_, ?_, fun r hr => ?_, ?_, ?_⟩ dn ⟨t, ts, rfl, sqt upd_same, IsKs.keep (tup_new nt) _ _ kt⟩ ((D3.keep (s4.trans s5)).keep (same_new nt)) ((f3.trans (Fr.of (s4.trans s5))).trans (Fr.new nt))
        · rw [lS, ly]; exact l1 (by omega)
        · rw [lS, ly]; omega
        · obtain ⟨y, hy, rfl⟩ := List.mem_map.mp hr
          obtain ⟨n, en⟩ := my y hy
          have := om _ (tget_mem en)
          rw [en]
          exact ⟨this.2.1, this.2.2, this.1⟩
        · have e1 : S.map (·.2) = ys := by show (ys.map _).map _ = _; rw [List.map_map]; exact List.map_id' _
          rw [e1]; exact py.nodup_iff.mpr nm
        · have e1 : (S.map fun q => prodK q.2) = ys.map prodK := by show (ys.map _).map _ = _; rw [List.map_map]; rfl
          rw [e1]; exact so
end
end K03
namespace K03
open PySem PySem.Spec PyProof.Rows L2 HH
local macro_rules | `(tactic| walk_at "h1") => `(tactic| first
  | with_reducible refine rd_seq ?_ | with_reducible refine rd_asg ?_ | with_reducible refine rd_op ?_
  | ((with_reducible refine' rd_var ?hv ?_); (case hv => exact rfl)) | with_reducible refine rd_c ?_
  | ((with_reducible refine rd_name ?_); dsimp only [List.set_cons_zero, List.set_cons_succ])
  | with_reducible refine rd_I0 ?_ | ((with_reducible refine rd_pow ?_ ?_ ?_ ?_); (· decide); (· decide); (· decide)) | ((with_reducible refine rd_mod ?_ ?_); (· decide)) | ((with_reducible refine rd_mulR ?_ ?_ ?_); (· decide); (· decide)) | ((with_reducible refine rd_divW (n := 64) ?_ ?_ ?_ ?_ ?_); (· decide); (· decide); (· decide); (· decide)) | with_reducible refine rd_addI ?_ | with_reducible refine rd_eqI ?_ | with_reducible refine rd_eqS ?_ | with_reducible refine rd_eqB ?_ | with_reducible refine rd_ltI ?_
  | with_reducible refine rd_callS ?_ | with_reducible refine rd_xf ?_ | with_reducible refine rd_cons ?_ | with_reducible refine rd_nil ?_ | with_reducible refine rd_cb ?_ | with_reducible refine rd_call ?_
  | with_reducible refine rd_ifs ?_ | with_reducible refine rd_test ?_ | with_reducible refine rd_tB ?_ | with_reducible refine rd_blQ ?_ | with_reducible refine iteT ?_ | with_reducible refine iteF ?_ | with_reducible refine iteNotF ?_ | with_reducible refine iteNotT ?_
  | with_reducible refine rd_and ?_ | with_reducible refine rd_or ?_ | with_reducible refine rd_not ?_ | with_reducible refine rd_andV ?_ | with_reducible refine rd_orV ?_ | with_reducible refine rd_notV ?_ | with_reducible refine rd_if ?_
  | with_reducible refine rd_un ?_ | with_reducible refine rd_U ?_ | with_reducible refine rd_sub ?_ | with_reducible refine rd_tup ?_ | with_reducible refine rd_lst ?_
  | with_reducible refine rd_intI ?_ | with_reducible refine rd_absI ?_ | with_reducible refine rd_drop ?_ | with_reducible refine rd_ret ?_ | with_reducible refine rd_retN ?_ | with_reducible refine rd_next ?_ | with_reducible refine rd_bm ?_
  | with_reducible refine rd_tDGet2 ?_ | with_reducible refine rd_tDGet ?_ | with_reducible refine rd_sDPut ?_ | with_reducible refine rd_dnewK ?_ | with_reducible refine rd_nnew ?_ | with_reducible refine rd_nget ?_ | with_reducible refine rd_nget2 ?_ | with_reducible refine rd_npop ?_ | with_reducible refine rd_nput ?_ | with_reducible refine rd_dcn ?_ | with_reducible refine rd_gtup ?_ | with_reducible refine rd_gcons ?_ | with_reducible refine rd_gnil ?_ | with_reducible refine rd_lc ?_ | with_reducible refine rd_yes ?_ | with_reducible refine rd_for ?_ | with_reducible refine rd_iL ?_ | with_reducible refine rd_iT ?_ | with_reducible refine rd_iR1 ?_ | with_reducible refine rd_iS ?_ | with_reducible refine rd_leafS ?_ | with_reducible refine rd_sl ?_ | with_reducible refine rd_noPart ?_ | with_reducible refine rd_part ?_ | with_reducible refine rd_leafI ?_)
local macro_rules | `(tactic| walk_at "h") => `(tactic| repeat walk_at "h1")

section
variable {P : Program} {w : World} {K : PySem.W.Frag} {mg : Str → Option Value} {base : Heap}
theorem pow_b {n : Int} {b : Nat} (h : n.natAbs < 2 ^ b) (k : Nat) : (n ^ k).natAbs < 2 ^ (b * k + 1) := by
  rw [Int.natAbs_pow]
  calc n.natAbs ^ k ≤ (2 ^ b) ^ k := Nat.pow_le_pow_left (Nat.le_of_lt h) k
    _ = 2 ^ (b * k) := by rw [← Nat.pow_mul]
    _ < 2 ^ (b * k + 1) := Nat.pow_lt_pow_right (by decide) (Nat.lt_succ_self _)
theorem ok_raised {f : Addr} {fd : FuncData} (F : Fun K "raised" "raised" s_raised f fd) (T : Bi mg) : FnOk P w K mg base CX0 1 f fd ["number", "power"] spRaised := by
  refine F.ok sc_raised (fun vs H Q E h => ?_) (fun cdv A outer s H vs Q E hr h => ?_)
  · obtain ⟨n, p, b, rfl, _⟩ := h
    rfl
  · obtain ⟨n, p, b, rfl, p0, hn, hb, q⟩ := h
    have hu := hu_of hr
    have hu20 := hu20_of hr
    have hu40 := hu40_of hr
    refine ⟨_, (pss_cons (ps_set (i := 2) sc_raised.nd rfl (.inl rfl) pe_int)
  (pss_cons (ps_while PassesOwn.never (pt_cmpR op_gt (pv 1) pe_int (nomark _)) (C8.pss_cut (ps_if (pt_truth (pe_op op_and (pv 1) pe_int) (by intro _; rfl)) (pss_one (ps_set (i := 2) sc_raised.nd rfl (.inl rfl) (pe_op op_mulW (pv 2) (pv 0)))) pss_nil)
  (pss_cons (ps_set (i := 1) sc_raised.nd rfl (.inl rfl) (pe_op op_shr (pv 1) pe_int))
  (pss_one (ps_if (pt_cmpR op_gt (pv 1) pe_int (nomark _)) (pss_one (ps_set (i := 0) sc_raised.nd rfl (.inl rfl) (pe_op op_mulW (pv 0) (pv 0)))) pss_nil)))))
  (pss_one (ps_ret (pv 2))))), ?_⟩
    rw [show L2.start N_raised [V.int n, V.int p] = [some (V.int n), some (V.int p), none] from rfl]
    (try dsimp only [cxOf, Cx.nox, Cx.wish])
    walk_at "h"
    obtain ⟨p, rfl⟩ := Int.eq_ofNat_of_zero_le p0
    rw [Int.toNat_natCast] at hb q
    refine ⟨fun m σ H' => ∃ k j : Nat, σ = [some (.int (n ^ k)), some (.int (m : Nat)), some (.int (n ^ j))] ∧ 1 ≤ k ∧ j + k * m = p ∧ H' = H, ⟨p, 1, 0, by rw [Int.pow_succ, Int.pow_zero, Int.one_mul], Nat.le_refl _, by omega, rfl⟩, ?_⟩
    rintro m σ H' ⟨k, j, rfl, k1, e, rfl⟩
    walk_at "h"
    refine ite2 (fun c => ?_) (fun c => ?_)
    · have m1 : 1 ≤ m := by have := of_decide_eq_true c; omega
      refine ⟨fun σ' H'' => ∃ k j : Nat, σ' = [some (.int (n ^ k)), some (.int ((m / 2 : Nat) : Int)), some (.int (n ^ j))] ∧ 1 ≤ k ∧ j + k * (m / 2) = p ∧ H'' = H', fun σ' H'' h => ⟨m / 2, by omega, h⟩, ?_⟩
      have kp : k ≤ p := by
        have : k * 1 ≤ k * m := Nat.mul_le_mul_left k m1
        omega
      have jp : j + k ≤ p := by
        have : k * 1 ≤ k * m := Nat.mul_le_mul_left k m1
        omega
      have bb : ∀ x : Nat, x ≤ p → b * x ≤ 400000 := fun x hx => Nat.le_trans (Nat.mul_le_mul_left b hx) hb
      have em : k * m = k * (2 * (m / 2)) + k * (m % 2) := by rw [← Nat.mul_add, Nat.div_add_mod]
      walk_at "h"
      refine rd_cut (fun σ' H'' => ∃ j' : Nat, σ' = [some (.int (n ^ k)), some (.int (m : Nat)), some (.int (n ^ j'))] ∧ j' + k * (2 * (m / 2)) = p ∧ H'' = H') ?_ ?_
      · walk_at "h"
        refine ⟨_, rfl, ?_⟩
        rw [bitAnd_m1]
        refine ite2 (fun c2 => ?_) (fun c2 => ?_)
        · have m2 : m % 2 = 1 := by
            have : ((m : Int) % 2 != 0) = true := c2
            have h3 : (m : Int) % 2 ≠ 0 := by simpa using this
            omega
          walk_at "h"
          refine rd_I (wide_mul (pow_b hn j) (pow_b hn k) (by omega) (by omega) (by have := bb j (by omega); have := bb k (by omega); omega)) ?_
          rw [← Int.pow_add]
          walk_at "h"
          exact ⟨j + k, rfl, by rw [m2] at em; omega, rfl⟩
        · have m2 : m % 2 = 0 := by
            have h3 : ¬ ((m : Int) % 2 != 0) = true := c2
            have : (m : Int) % 2 = 0 := by simpa using h3
            omega
          walk_at "h"
          exact ⟨j, rfl, by rw [m2] at em; omega, rfl⟩
      · rintro σ' H'' ⟨j', rfl, ej, rfl⟩
        walk_at "h"
        refine rd_I (by decide) ?_
        rw [show ((m : Int) / 2 ^ (1 : Int).toNat) = ((m / 2 : Nat) : Int) from by rw [show (1 : Int).toNat = 1 from rfl, Int.pow_succ, Int.pow_zero, Int.one_mul]; omega]
        walk_at "h"
        refine ite2 (fun c2 => ?_) (fun c2 => ?_)
        · have q1 : 1 ≤ m / 2 := by have := of_decide_eq_true c2; omega
          have k2 : 2 * k ≤ p := by
            have : k * (2 * 1) ≤ k * (2 * (m / 2)) := Nat.mul_le_mul_left k (by omega)
            omega
          walk_at "h"
          refine rd_I (wide_mul (pow_b hn k) (pow_b hn k) (by omega) (by omega) (by have := bb (2 * k) k2; rw [Nat.mul_left_comm] at this; omega)) ?_
          rw [← Int.pow_add]
          walk_at "h"
          exact ⟨k + k, j', rfl, by omega, by rw [← ej, Nat.mul_left_comm, ← Nat.two_mul, Nat.mul_assoc], rfl⟩
        · have q0 : m / 2 = 0 := by
            have : ¬ ((0 : Int) < ((m / 2 : Nat) : Int)) := fun z => c2 (decide_eq_true z)
            omega
          walk_at "h"
          exact ⟨k, j', rfl, k1, by rw [q0] at ej ⊢; omega, rfl⟩
    · have m0 : m = 0 := by
        have : ¬ ((0 : Int) < ((m : Nat) : Int)) := fun z => c (decide_eq_true z)
        omega
      subst m0
      walk_at "h"
      rw [show j = p by omega]
      exact q
end
end K03
namespace K03
open PySem PySem.Spec PyProof.Rows L2 HH
local macro_rules | `(tactic| walk_at "h1") => `(tactic| first
  | with_reducible refine rd_seq ?_ | with_reducible refine rd_asg ?_ | with_reducible refine rd_op ?_
  | ((with_reducible refine' rd_var ?hv ?_); (case hv => exact rfl)) | with_reducible refine rd_c ?_
  | ((with_reducible refine rd_name ?_); dsimp only [List.set_cons_zero, List.set_cons_succ])
  | with_reducible refine rd_I0 ?_ | ((with_reducible refine rd_pow ?_ ?_ ?_ ?_); (· decide); (· decide); (· decide)) | ((with_reducible refine rd_mod ?_ ?_); (· decide)) | ((with_reducible refine rd_mulR ?_ ?_ ?_); (· decide); (· decide)) | ((with_reducible refine rd_divW (n := 64) ?_ ?_ ?_ ?_ ?_); (· decide); (· decide); (· decide); (· decide)) | with_reducible refine rd_addI ?_ | with_reducible refine rd_eqI ?_ | with_reducible refine rd_eqS ?_ | with_reducible refine rd_eqB ?_ | with_reducible refine rd_ltI ?_
  | with_reducible refine rd_callS ?_ | with_reducible refine rd_xf ?_ | with_reducible refine rd_cons ?_ | with_reducible refine rd_nil ?_ | with_reducible refine rd_cb ?_ | with_reducible refine rd_call ?_
  | with_reducible refine rd_ifs ?_ | with_reducible refine rd_test ?_ | with_reducible refine rd_tB ?_ | with_reducible refine rd_blQ ?_ | with_reducible refine iteT ?_ | with_reducible refine iteF ?_ | with_reducible refine iteNotF ?_ | with_reducible refine iteNotT ?_
  | with_reducible refine rd_and ?_ | with_reducible refine rd_or ?_ | with_reducible refine rd_not ?_ | with_reducible refine rd_andV ?_ | with_reducible refine rd_orV ?_ | with_reducible refine rd_notV ?_ | with_reducible refine rd_if ?_
  | with_reducible refine rd_un ?_ | with_reducible refine rd_U ?_ | with_reducible refine rd_sub ?_ | with_reducible refine rd_tup ?_ | with_reducible refine rd_lst ?_
  | with_reducible refine rd_intI ?_ | with_reducible refine rd_absI ?_ | with_reducible refine rd_drop ?_ | with_reducible refine rd_ret ?_ | with_reducible refine rd_retN ?_ | with_reducible refine rd_next ?_ | with_reducible refine rd_bm ?_
  | with_reducible refine rd_tDGet2 ?_ | with_reducible refine rd_tDGet ?_ | with_reducible refine rd_sDPut ?_ | with_reducible refine rd_dnewK ?_ | with_reducible refine rd_nnew ?_ | with_reducible refine rd_nget ?_ | with_reducible refine rd_nget2 ?_ | with_reducible refine rd_npop ?_ | with_reducible refine rd_nput ?_ | with_reducible refine rd_dcn ?_ | with_reducible refine rd_gtup ?_ | with_reducible refine rd_gcons ?_ | with_reducible refine rd_gnil ?_ | with_reducible refine rd_lc ?_ | with_reducible refine rd_yes ?_ | with_reducible refine rd_for ?_ | with_reducible refine rd_iL ?_ | with_reducible refine rd_iT ?_ | with_reducible refine rd_iR1 ?_ | with_reducible refine rd_iS ?_ | with_reducible refine rd_leafS ?_ | with_reducible refine rd_sl ?_ | with_reducible refine rd_noPart ?_ | with_reducible refine rd_part ?_ | with_reducible refine rd_leafI ?_)
local macro_rules | `(tactic| walk_at "h") => `(tactic| repeat walk_at "h1")

section
variable {P : Program} {w : World} {K : PySem.W.Frag} {mg : Str → Option Value} {base : Heap}
theorem ok_init {C : Addr} {f : Addr} {fd : FuncData} (F : Fun K "__init__" "NoName.__init__" s_NoName___init__ f fd) (T : OexC K C) (no : PySem.W.findIn K (.ref C) "name" = some none) : FnOk P w K mg base CX0 1 f fd ["self", "name"] (spInit "name" C) := by
  refine F.ok sc_NoName___init__ (fun vs H Q E h => ?_) (fun cdv A outer s H vs Q E hr h => ?_)
  · obtain ⟨a, v, rfl, _⟩ := h
    rfl
  · obtain ⟨a, v, rfl, ea, q⟩ := h
    refine ⟨_, (pss_one (ps_ost (pv 0) (pv 1))), ?_⟩
    rw [show L2.start N_NoName___init__ [V.ref a, v] = [some (V.ref a), some v] from rfl]
    (try dsimp only [cxOf, Cx.nox, Cx.wish])
    exact rd_ost T no ea fun dx nd ne => q dx nd ne
end
end K03
namespace K03
open PySem PySem.Spec PyProof.Rows L2 HH
local macro_rules | `(tactic| walk_at "h1") => `(tactic| first
  | with_reducible refine rd_seq ?_ | with_reducible refine rd_asg ?_ | with_reducible refine rd_op ?_
  | ((with_reducible refine' rd_var ?hv ?_); (case hv => exact rfl)) | with_reducible refine rd_c ?_
  | ((with_reducible refine rd_name ?_); dsimp only [List.set_cons_zero, List.set_cons_succ])
  | with_reducible refine rd_I0 ?_ | ((with_reducible refine rd_pow ?_ ?_ ?_ ?_); (· decide); (· decide); (· decide)) | ((with_reducible refine rd_mod ?_ ?_); (· decide)) | ((with_reducible refine rd_mulR ?_ ?_ ?_); (· decide); (· decide)) | ((with_reducible refine rd_divW (n := 64) ?_ ?_ ?_ ?_ ?_); (· decide); (· decide); (· decide); (· decide)) | with_reducible refine rd_addI ?_ | with_reducible refine rd_eqI ?_ | with_reducible refine rd_eqS ?_ | with_reducible refine rd_eqB ?_ | with_reducible refine rd_ltI ?_
  | with_reducible refine rd_callS ?_ | with_reducible refine rd_xf ?_ | with_reducible refine rd_cons ?_ | with_reducible refine rd_nil ?_ | with_reducible refine rd_cb ?_ | with_reducible refine rd_call ?_
  | with_reducible refine rd_ifs ?_ | with_reducible refine rd_test ?_ | with_reducible refine rd_tB ?_ | with_reducible refine rd_blQ ?_ | with_reducible refine iteT ?_ | with_reducible refine iteF ?_ | with_reducible refine iteNotF ?_ | with_reducible refine iteNotT ?_
  | with_reducible refine rd_and ?_ | with_reducible refine rd_or ?_ | with_reducible refine rd_not ?_ | with_reducible refine rd_andV ?_ | with_reducible refine rd_orV ?_ | with_reducible refine rd_notV ?_ | with_reducible refine rd_if ?_
  | with_reducible refine rd_un ?_ | with_reducible refine rd_U ?_ | with_reducible refine rd_sub ?_ | with_reducible refine rd_tup ?_ | with_reducible refine rd_lst ?_
  | with_reducible refine rd_intI ?_ | with_reducible refine rd_absI ?_ | with_reducible refine rd_drop ?_ | with_reducible refine rd_ret ?_ | with_reducible refine rd_retN ?_ | with_reducible refine rd_next ?_ | with_reducible refine rd_bm ?_
  | with_reducible refine rd_tDGet2 ?_ | with_reducible refine rd_tDGet ?_ | with_reducible refine rd_sDPut ?_ | with_reducible refine rd_dnewK ?_ | with_reducible refine rd_nnew ?_ | with_reducible refine rd_nget ?_ | with_reducible refine rd_nget2 ?_ | with_reducible refine rd_npop ?_ | with_reducible refine rd_nput ?_ | with_reducible refine rd_dcn ?_ | with_reducible refine rd_gtup ?_ | with_reducible refine rd_gcons ?_ | with_reducible refine rd_gnil ?_ | with_reducible refine rd_lc ?_ | with_reducible refine rd_yes ?_ | with_reducible refine rd_for ?_ | with_reducible refine rd_iL ?_ | with_reducible refine rd_iT ?_ | with_reducible refine rd_iR1 ?_ | with_reducible refine rd_iS ?_ | with_reducible refine rd_leafS ?_ | with_reducible refine rd_sl ?_ | with_reducible refine rd_noPart ?_ | with_reducible refine rd_part ?_ | with_reducible refine rd_leafI ?_)
local macro_rules | `(tactic| walk_at "h") => `(tactic| repeat walk_at "h1")

section
variable {P : Program} {w : World} {K : PySem.W.Frag} {mg : Str → Option Value} {base : Heap}
theorem ok_value {C : Addr} {f : Addr} {fd : FuncData} (F : Fun K "value" "value" s_value f fd) (T : Bi mg) (X_NoName : ErrAt P w K mg base "NoName" "name" C) (G_raised : Callee P w K mg base 1 "raised" ["number", "power"] spRaised) :
    FnOk P w K mg base (L2.CX P w) 3 f fd ["product", "numbers"] (spValue K C) := by
  refine F.okX sc_value (fun vs H Q E h => ?_) (fun cdv A outer s H vs Q E hr h => ?_)
  · obtain ⟨t, d, ps, m, b, rfl, _⟩ := h
    rfl
  · obtain ⟨t, d, ps, m, b, rfl, kt, hd, B, q, qe⟩ := h
    have hu := hu_of hr
    have hu20 := hu20_of hr
    have hu40 := hu40_of hr
    obtain ⟨_, vs, et, st, kv, nv⟩ := prod_at kt
    obtain rfl := V.ref.inj et
    obtain ⟨f_raised, fd_raised, F_raised, m_raised, k_raised, b_raised⟩ := G_raised; obtain ⟨fI_NoName, fdI_NoName, E_NoName, FI_NoName, BI_NoName⟩ := X_NoName
    refine ⟨_, (pss_cons (ps_set (i := 2) sc_value.nd rfl (.inl rfl) pe_int)
  (pss_cons (ps_for (passes_of rfl) rfl (pi_tup (pv 0)) (pg_tupK (K := K) 2 rfl (pgs_cons (pg_name (i := 3) sc_value.nd rfl (.inl rfl)) (pgs_cons (pg_name (i := 4) sc_value.nd rfl (.inl rfl)) pgs_nil)))
    (pss_cons (ps_if (pt_cmpR (op_ninU (P := P) (w := w) (K := K) hu20) (pv 3) (pv 1) (by rfl)) (pss_one (ps_raise rfl (takes_of rfl rfl rfl rfl) (pmk_oex E_NoName.ox E_NoName.iC E_NoName.tI FI_NoName (hr.mono (by decide)) BI_NoName .nil pass0 (by rfl) E_NoName.gC (pa_cons (pv 3) pa_nil)))) pss_nil)
  (pss_one (ps_set (i := 2) sc_value.nd rfl (.inl rfl) (pe_op op_mulW (pv 2) (pe_call F_raised (hr.mono (by decide)) (by rfl) m_raised k_raised b_raised .nil pass0 (pa_cons (pe_dget hu (pv 1) (pv 3) (fun _ _ => rfl)) (pa_cons (pv 4) pa_nil))))))))
  (pss_one (ps_ret (pv 2))))), ?_⟩
    rw [show L2.start N_value [V.ref t, V.ref d] = [some (V.ref t), some (V.ref d), none, none, none] from rfl]
    (try dsimp only [cxOf, Cx.nox, Cx.wish])
    walk_at "h"
    refine rd_leafT st ?_
    refine for_tup (xs := vs) (fun i σ H' => ∃ v2 v3 : Option V, σ = [some (V.ref t), some (V.ref d), some (V.int (worthP m (ps.take i))), v2, v3] ∧ H' = H ∧ lackOf m (ps.take i) = none) ⟨none, none, rfl, rfl, rfl⟩ (fun i σ H' _ ⟨_, _, _, e, _⟩ => by rw [e]; exact st) ?_ ?_
    · rintro i x σ H1 hx ⟨v2, v3, rfl, rfl, l0⟩
      have hi : i < ps.length := by rw [← nv]; exact (List.getElem?_eq_some_iff.mp hx).1
      obtain ⟨a, rfl, sa⟩ := pair_get kv hi hx
      have mi : ps[i] ∈ ps := List.getElem_mem hi
      walk_at "h"
      refine ⟨a, _, rfl, sa, rfl, ?_⟩
      walk_at "h"
      have pi := B.nn _ mi
      have db : ∀ x : Nat, x ≤ degP ps → b * x ≤ 200000 := fun x hx => Nat.le_trans (Nat.mul_le_mul_left b hx) B.dg
      have di := degP_step ps hi
      have d1 := degP_take ps (i + 1)
      rw [worthP_step m ps hi]
      have hb := B.lt _ mi
      refine rd_ninD hd ?_
      cases e : tget m ps[i].1 with
      | none =>
        walk_at "h"
        refine iteNotF ?_
        walk_at "h"
        refine rd_mkOv rfl fun e1 ne => ?_
        exact qe _ (lackOf_some hi l0 e) e1 ne
      | some n =>
        rw [e] at hb
        simp only [Option.getD_some] at hb ⊢
        walk_at "h"
        refine iteNotT ?_
        walk_at "h"
        refine ⟨d, _, rfl, dget_tab hd e, ?_⟩
        walk_at "h"
        refine use_raised pi hb (by have := db _ (degP_mem mi); omega) ?_
        refine rd_I (wide_mul (lt_pow1 (worthP_le fun q hq => B.lt q (List.mem_of_mem_take hq))) (lt_pow1 (pow_bb hb _)) (by omega) (by omega) (by have := db (degP (ps.take i)) (degP_take ps i); have := db _ (degP_mem mi); omega)) ?_
        walk_at "h"
        exact ⟨_, _, rfl, rfl, lackOf_step hi l0 e⟩
    · rintro σ H1 ⟨v2, v3, rfl, rfl, l0⟩
      rw [nv, List.take_length] at l0 ⊢
      walk_at "h"
      exact q l0
end
end K03
namespace K03
open PySem PySem.Spec PyProof.Rows L2 HH
local macro_rules | `(tactic| walk_at "h1") => `(tactic| first
  | with_reducible refine rd_seq ?_ | with_reducible refine rd_asg ?_ | with_reducible refine rd_op ?_
  | ((with_reducible refine' rd_var ?hv ?_); (case hv => exact rfl)) | with_reducible refine rd_c ?_
  | ((with_reducible refine rd_name ?_); dsimp only [List.set_cons_zero, List.set_cons_succ])
  | with_reducible refine rd_I0 ?_ | ((with_reducible refine rd_pow ?_ ?_ ?_ ?_); (· decide); (· decide); (· decide)) | ((with_reducible refine rd_mod ?_ ?_); (· decide)) | ((with_reducible refine rd_mulR ?_ ?_ ?_); (· decide); (· decide)) | ((with_reducible refine rd_divW (n := 64) ?_ ?_ ?_ ?_ ?_); (· decide); (· decide); (· decide); (· decide)) | with_reducible refine rd_addI ?_ | with_reducible refine rd_eqI ?_ | with_reducible refine rd_eqS ?_ | with_reducible refine rd_eqB ?_ | with_reducible refine rd_ltI ?_
  | with_reducible refine rd_callS ?_ | with_reducible refine rd_xf ?_ | with_reducible refine rd_cons ?_ | with_reducible refine rd_nil ?_ | with_reducible refine rd_cb ?_ | with_reducible refine rd_call ?_
  | with_reducible refine rd_ifs ?_ | with_reducible refine rd_test ?_ | with_reducible refine rd_tB ?_ | with_reducible refine rd_blQ ?_ | with_reducible refine iteT ?_ | with_reducible refine iteF ?_ | with_reducible refine iteNotF ?_ | with_reducible refine iteNotT ?_
  | with_reducible refine rd_and ?_ | with_reducible refine rd_or ?_ | with_reducible refine rd_not ?_ | with_reducible refine rd_andV ?_ | with_reducible refine rd_orV ?_ | with_reducible refine rd_notV ?_ | with_reducible refine rd_if ?_
  | with_reducible refine rd_un ?_ | with_reducible refine rd_U ?_ | with_reducible refine rd_sub ?_ | with_reducible refine rd_tup ?_ | with_reducible refine rd_lst ?_
  | with_reducible refine rd_intI ?_ | with_reducible refine rd_absI ?_ | with_reducible refine rd_drop ?_ | with_reducible refine rd_ret ?_ | with_reducible refine rd_retN ?_ | with_reducible refine rd_next ?_ | with_reducible refine rd_bm ?_
  | with_reducible refine rd_tDGet2 ?_ | with_reducible refine rd_tDGet ?_ | with_reducible refine rd_sDPut ?_ | with_reducible refine rd_dnewK ?_ | with_reducible refine rd_nnew ?_ | with_reducible refine rd_nget ?_ | with_reducible refine rd_nget2 ?_ | with_reducible refine rd_npop ?_ | with_reducible refine rd_nput ?_ | with_reducible refine rd_dcn ?_ | with_reducible refine rd_gtup ?_ | with_reducible refine rd_gcons ?_ | with_reducible refine rd_gnil ?_ | with_reducible refine rd_lc ?_ | with_reducible refine rd_yes ?_ | with_reducible refine rd_for ?_ | with_reducible refine rd_iL ?_ | with_reducible refine rd_iT ?_ | with_reducible refine rd_iR1 ?_ | with_reducible refine rd_iS ?_ | with_reducible refine rd_leafS ?_ | with_reducible refine rd_sl ?_ | with_reducible refine rd_noPart ?_ | with_reducible refine rd_part ?_ | with_reducible refine rd_leafI ?_)
local macro_rules | `(tactic| walk_at "h") => `(tactic| repeat walk_at "h1")

section
variable {P : Program} {w : World} {K : PySem.W.Frag} {mg : Str → Option Value} {base : Heap}
theorem ok_total {C : Addr} {f : Addr} {fd : FuncData} (F : Fun K "total" "total" s_total f fd) (T : Bi mg) (z_sum : mg "sum" = none) (G_value : CalleeX P w K mg base 3 "value" ["product", "numbers"] (spValue K C)) :
    FnOk P w K mg base (L2.CX P w) 4 f fd ["terms", "numbers"] (spTotal K C) := by
  refine F.okX sc_total (fun vs H Q E h => ?_) (fun cdv A outer s H vs Q E hr h => ?_)
  · obtain ⟨t, d, S, m, b, rfl, _⟩ := h
    rfl
  · obtain ⟨t, d, S, m, b, rfl, kt, hd, B, lS, q, qe⟩ := h
    have hu := hu_of hr
    have hu20 := hu20_of hr
    have hu40 := hu40_of hr
    obtain ⟨_, vs, et, st, kv, nv⟩ := sum_at kt
    obtain rfl := V.ref.inj et
    obtain ⟨f_value, fd_value, F_value, m_value, k_value, b_value⟩ := G_value
    refine ⟨_, (pss_one (ps_ret (pe_callB (cr_sum rfl) (by rfl) z_sum (by decide +kernel) (pa_cons (pe_lcx (own := [("coefficient", 2), ("product", 3)]) rfl rfl rfl (takes_of rfl rfl rfl rfl) rfl sc_total.nd (pi_tup (pv 0)) (blkOk_by (N := N_total) (sc := defScope s_total) (by decide +kernel)) (fun _ _ _ _ _ _ => (pg_tupK (K := K) 2 rfl (pgs_cons (pg_name (i := 2) sc_total.nd rfl (.inl rfl)) (pgs_cons (pg_name (i := 3) sc_total.nd rfl (.inl rfl)) pgs_nil)))) (fun _ _ _ _ _ _ => pts_nil) (fun _ _ _ _ _ _ hp => (pe_op op_mulW (pv 2) (pe_call F_value (hr.mono (by decide)) (by rfl) m_value k_value b_value .nil hp (pa_cons (pv 3) (pa_cons (pv 1) pa_nil)))))) pa_nil)))), ?_⟩
    rw [show L2.start N_total [V.ref t, V.ref d] = [some (V.ref t), some (V.ref d), none, none] from rfl]
    (try dsimp only [cxOf, Cx.nox, Cx.wish])
    walk_at "h"
    refine rd_leafT st fun D nD => ?_
    refine lc_tupW (xs := vs) [some (V.ref t), some (V.ref d), none, none] rfl (fun i H' => Same H H' ∧ lackS m (S.take i) = none ∧ H' D = some (.lst (((S.take i).map fun q => q.1 * worthP m q.2).map V.int))) ⟨same_new nD, rfl, upd_same⟩ (fun i H' _ h => same_tup h.1 _ _ st) ?_ ?_
    · rintro i x H1 hx ⟨s1, l1, hD⟩
      have hi : i < S.length := by rw [← nv]; exact (List.getElem?_eq_some_iff.mp hx).1
      obtain ⟨x', ex, kx⟩ := IsKs.get (i := i) (k := termK S[i]) kv (by rw [List.getElem?_map, List.getElem?_eq_getElem hi]; rfl)
      obtain rfl : x = x' := Option.some.inj (hx.symm.trans ex)
      obtain ⟨e, u, rfl, su, ku⟩ := term_at kx
      have tp := same_tup (K := K) s1
      obtain ⟨wb, co1, co2⟩ := B _ (List.getElem_mem hi)
      walk_at "h"
      refine ⟨e, _, rfl, tp _ _ su, rfl, ?_⟩
      walk_at "h"
      refine ⟨rfl, ?_⟩
      walk_at "h"
      refine use_value (ku.keep tp) (s1 _ _ hd) wb (fun l0 => ?_) fun z ez e1 ne => ?_
      · refine rd_I (wide_mul co2 (lt_pow1 (worthP_le wb.lt)) (by omega) (by omega) (by have := wb.dg; omega)) ?_
        refine ⟨_, hD, sz_lt (by rw [List.length_map, List.length_map, List.length_take]; omega), same_mut s1 nD, by rw [lackS_step m S hi, l1, l0]; rfl, ?_⟩
        rw [upd_same, ← List.take_append_getElem hi, List.map_append, List.map_append]
        rfl
      · exact qe z (lackS_some hi l1 ez) e1 _ (s1.trans (same_new ne)) upd_same
    · rintro H1 ⟨s1, l1, hD⟩
      rw [nv, List.take_length] at l1 hD
      walk_at "h"
      refine ⟨D, _, rfl, sql hD, ?_⟩
      rw [worthS_sum]
      exact q l1 H1 s1
end
end K03
namespace K03
open PySem PySem.Spec PyProof.Rows L2 HH
local macro_rules | `(tactic| walk_at "h1") => `(tactic| first
  | with_reducible refine rd_seq ?_ | with_reducible refine rd_asg ?_ | with_reducible refine rd_op ?_
  | ((with_reducible refine' rd_var ?hv ?_); (case hv => exact rfl)) | with_reducible refine rd_c ?_
  | ((with_reducible refine rd_name ?_); dsimp only [List.set_cons_zero, List.set_cons_succ])
  | with_reducible refine rd_I0 ?_ | ((with_reducible refine rd_pow ?_ ?_ ?_ ?_); (· decide); (· decide); (· decide)) | ((with_reducible refine rd_mod ?_ ?_); (· decide)) | ((with_reducible refine rd_mulR ?_ ?_ ?_); (· decide); (· decide)) | ((with_reducible refine rd_divW (n := 64) ?_ ?_ ?_ ?_ ?_); (· decide); (· decide); (· decide); (· decide)) | with_reducible refine rd_addI ?_ | with_reducible refine rd_eqI ?_ | with_reducible refine rd_eqS ?_ | with_reducible refine rd_eqB ?_ | with_reducible refine rd_ltI ?_
  | with_reducible refine rd_callS ?_ | with_reducible refine rd_xf ?_ | with_reducible refine rd_cons ?_ | with_reducible refine rd_nil ?_ | with_reducible refine rd_cb ?_ | with_reducible refine rd_call ?_
  | with_reducible refine rd_ifs ?_ | with_reducible refine rd_test ?_ | with_reducible refine rd_tB ?_ | with_reducible refine rd_blQ ?_ | with_reducible refine iteT ?_ | with_reducible refine iteF ?_ | with_reducible refine iteNotF ?_ | with_reducible refine iteNotT ?_
  | with_reducible refine rd_and ?_ | with_reducible refine rd_or ?_ | with_reducible refine rd_not ?_ | with_reducible refine rd_andV ?_ | with_reducible refine rd_orV ?_ | with_reducible refine rd_notV ?_ | with_reducible refine rd_if ?_
  | with_reducible refine rd_un ?_ | with_reducible refine rd_U ?_ | with_reducible refine rd_sub ?_ | with_reducible refine rd_tup ?_ | with_reducible refine rd_lst ?_
  | with_reducible refine rd_intI ?_ | with_reducible refine rd_absI ?_ | with_reducible refine rd_drop ?_ | with_reducible refine rd_ret ?_ | with_reducible refine rd_retN ?_ | with_reducible refine rd_next ?_ | with_reducible refine rd_bm ?_
  | with_reducible refine rd_tDGet2 ?_ | with_reducible refine rd_tDGet ?_ | with_reducible refine rd_sDPut ?_ | with_reducible refine rd_dnewK ?_ | with_reducible refine rd_nnew ?_ | with_reducible refine rd_nget ?_ | with_reducible refine rd_nget2 ?_ | with_reducible refine rd_npop ?_ | with_reducible refine rd_nput ?_ | with_reducible refine rd_dcn ?_ | with_reducible refine rd_gtup ?_ | with_reducible refine rd_gcons ?_ | with_reducible refine rd_gnil ?_ | with_reducible refine rd_lc ?_ | with_reducible refine rd_yes ?_ | with_reducible refine rd_for ?_ | with_reducible refine rd_iL ?_ | with_reducible refine rd_iT ?_ | with_reducible refine rd_iR1 ?_ | with_reducible refine rd_iS ?_ | with_reducible refine rd_leafS ?_ | with_reducible refine rd_sl ?_ | with_reducible refine rd_noPart ?_ | with_reducible refine rd_part ?_ | with_reducible refine rd_leafI ?_)
local macro_rules | `(tactic| walk_at "h") => `(tactic| repeat walk_at "h1")

section
variable {P : Program} {w : World} {K : PySem.W.Frag} {mg : Str → Option Value} {base : Heap}
theorem ok_lvalue {C CH : Addr} {f : Addr} {fd : FuncData} (F : Fun K "_law_value" "_law_value" s_l_value f fd) (T : Bi mg) (X_NoName : ErrAt P w K mg base "NoName" "name" C) (ER : Errs K mg C CH) (G_value : CalleeX P w K mg base 3 "value" ["product", "numbers"] (spValue K C)) :
    FnOk P w K mg base CX0 4 f fd ["_law_product_here", "_law_numbers"] (spLawValue K) := by
  refine F.ok sc_l_value (fun vs H Q E h => ?_) (fun cdv A outer s H vs Q E hr h => ?_)
  · obtain ⟨t, d, ps, m, b, rfl, _⟩ := h
    rfl
  · obtain ⟨t, d, ps, m, b, rfl, kt, hd, B, q, qe⟩ := h
    have hu := hu_of hr
    have hu20 := hu20_of hr
    have hu40 := hu40_of hr
    have g_NoName := ER.gN
    have g_HighError := ER.gH
    have z_ValueError := ER.zV
    obtain ⟨fI, fdI, E_NoName, FI_NoName, BI_NoName⟩ := X_NoName
    obtain ⟨f_value, fd_value, F_value, m_value, k_value, b_value⟩ := G_value
    refine ⟨_, (pss_one (ps_try_as (i := 2) rfl rfl sc_l_value.nd rfl rfl ⟨by rfl, by decide, .inl g_HighError⟩ takes0 (fun W pn xe tk _ => (pss_one (ps_ret (pe_callS F_value (hr.mono (by decide)) (by rfl) m_value k_value b_value (fun σ => passAt tk σ) (pa_cons (pv 0) (pa_cons (pv 1) pa_nil))))))
    (fun a oe cls d pn hz hf => (pss_cons (ps_if (PW.pt (pw_and (pt_val (pe_callB (call_isX hz hf) (by rfl) T.isinstance_ (by decide +kernel) (pa_cons (pv 2) (pa_cons (pe_glob (v := .ref _) (by rfl) g_NoName rfl) pa_nil)))) (pw_and1 (pt_val (pe_callB (call_isX hz hf) (by rfl) T.isinstance_ (by decide +kernel) (pa_cons (pv 2) (pa_cons (pe_bltn (v := .ty "ValueError") (by rfl) z_ValueError (by decide +kernel) rfl) pa_nil))))))) (pss_one (ps_ret (pe_tup (pa_cons (pe_xf E_NoName.xf E_NoName.no hz hf (pv 2)) pa_nil)))) pss_nil)
  (pss_one (ps_ret pe_non)))))), ?_⟩
    rw [show L2.start N_l_value [V.ref t, V.ref d] = [some (V.ref t), some (V.ref d), none] from rfl]
    (try dsimp only [cxOf, Cx.nox, Cx.wish])
    walk_at "h"
    refine use_value kt hd B q fun z ez e ne => ?_
    refine ⟨true, ER.xm, fun _ a na => ?_, fun z => Bool.noConfusion z⟩
    have ee : upd H e (.xd [("name", .str z)]) e = some (.xd [("name", .str z)]) := upd_same
    generalize hH1 : upd H e (.xd [("name", .str z)]) = H1 at ee na ⊢
    have s1 : Same H H1 := by rw [← hH1]; exact same_new ne
    show tSeq _ _ _ [some (V.ref t), some (V.ref d), some (V.ref a)] H1
    walk_at "h"
    refine rd_isX E_NoName rfl rfl ee (fun u r => r) ER.kN ?_
    walk_at "h"
    refine rd_isX E_NoName rfl rfl ee (fun u r => r) ER.kV ?_
    walk_at "h"
    refine ⟨rfl, rfl, e, _, .str z, rfl, ee, by simp [List.lookup], ?_⟩
    walk_at "h"
    refine ⟨sz_le (by simp only [List.length_cons, List.length_nil]; omega), fun u nu => ?_⟩
    exact qe z ez u _ (s1.trans (same_new nu)) upd_same
end
end K03
namespace K03
open PySem PySem.Spec PyProof.Rows L2 HH
local macro_rules | `(tactic| walk_at "h1") => `(tactic| first
  | with_reducible refine rd_seq ?_ | with_reducible refine rd_asg ?_ | with_reducible refine rd_op ?_
  | ((with_reducible refine' rd_var ?hv ?_); (case hv => exact rfl)) | with_reducible refine rd_c ?_
  | ((with_reducible refine rd_name ?_); dsimp only [List.set_cons_zero, List.set_cons_succ])
  | with_reducible refine rd_I0 ?_ | ((with_reducible refine rd_pow ?_ ?_ ?_ ?_); (· decide); (· decide); (· decide)) | ((with_reducible refine rd_mod ?_ ?_); (· decide)) | ((with_reducible refine rd_mulR ?_ ?_ ?_); (· decide); (· decide)) | ((with_reducible refine rd_divW (n := 64) ?_ ?_ ?_ ?_ ?_); (· decide); (· decide); (· decide); (· decide)) | with_reducible refine rd_addI ?_ | with_reducible refine rd_eqI ?_ | with_reducible refine rd_eqS ?_ | with_reducible refine rd_eqB ?_ | with_reducible refine rd_ltI ?_
  | with_reducible refine rd_callS ?_ | with_reducible refine rd_xf ?_ | with_reducible refine rd_cons ?_ | with_reducible refine rd_nil ?_ | with_reducible refine rd_cb ?_ | with_reducible refine rd_call ?_
  | with_reducible refine rd_ifs ?_ | with_reducible refine rd_test ?_ | with_reducible refine rd_tB ?_ | with_reducible refine rd_blQ ?_ | with_reducible refine iteT ?_ | with_reducible refine iteF ?_ | with_reducible refine iteNotF ?_ | with_reducible refine iteNotT ?_
  | with_reducible refine rd_and ?_ | with_reducible refine rd_or ?_ | with_reducible refine rd_not ?_ | with_reducible refine rd_andV ?_ | with_reducible refine rd_orV ?_ | with_reducible refine rd_notV ?_ | with_reducible refine rd_if ?_
  | with_reducible refine rd_un ?_ | with_reducible refine rd_U ?_ | with_reducible refine rd_sub ?_ | with_reducible refine rd_tup ?_ | with_reducible refine rd_lst ?_
  | with_reducible refine rd_intI ?_ | with_reducible refine rd_absI ?_ | with_reducible refine rd_drop ?_ | with_reducible refine rd_ret ?_ | with_reducible refine rd_retN ?_ | with_reducible refine rd_next ?_ | with_reducible refine rd_bm ?_
  | with_reducible refine rd_tDGet2 ?_ | with_reducible refine rd_tDGet ?_ | with_reducible refine rd_sDPut ?_ | with_reducible refine rd_dnewK ?_ | with_reducible refine rd_nnew ?_ | with_reducible refine rd_nget ?_ | with_reducible refine rd_nget2 ?_ | with_reducible refine rd_npop ?_ | with_reducible refine rd_nput ?_ | with_reducible refine rd_dcn ?_ | with_reducible refine rd_gtup ?_ | with_reducible refine rd_gcons ?_ | with_reducible refine rd_gnil ?_ | with_reducible refine rd_lc ?_ | with_reducible refine rd_yes ?_ | with_reducible refine rd_for ?_ | with_reducible refine rd_iL ?_ | with_reducible refine rd_iT ?_ | with_reducible refine rd_iR1 ?_ | with_reducible refine rd_iS ?_ | with_reducible refine rd_leafS ?_ | with_reducible refine rd_sl ?_ | with_reducible refine rd_noPart ?_ | with_reducible refine rd_part ?_ | with_reducible refine rd_leafI ?_)
local macro_rules | `(tactic| walk_at "h") => `(tactic| repeat walk_at "h1")

section
variable {P : Program} {w : World} {K : PySem.W.Frag} {mg : Str → Option Value} {base : Heap}
theorem ok_ltotal {C CH : Addr} {f : Addr} {fd : FuncData} (F : Fun K "_law_total" "_law_total" s_l_total f fd) (T : Bi mg) (X_NoName : ErrAt P w K mg base "NoName" "name" C) (ER : Errs K mg C CH) (G_total : CalleeX P w K mg base 4 "total" ["terms", "numbers"] (spTotal K C)) :
    FnOk P w K mg base CX0 5 f fd ["_law_terms", "_law_numbers"] (spLawTotal K) := by
  refine F.ok sc_l_total (fun vs H Q E h => ?_) (fun cdv A outer s H vs Q E hr h => ?_)
  · obtain ⟨t, d, S, m, b, rfl, _⟩ := h
    rfl
  · obtain ⟨t, d, S, m, b, rfl, kt, hd, B, lS, q, qe⟩ := h
    have hu := hu_of hr
    have hu20 := hu20_of hr
    have hu40 := hu40_of hr
    have g_NoName := ER.gN
    have g_HighError := ER.gH
    have z_ValueError := ER.zV
    obtain ⟨fI, fdI, E_NoName, FI_NoName, BI_NoName⟩ := X_NoName
    obtain ⟨f_total, fd_total, F_total, m_total, k_total, b_total⟩ := G_total
    refine ⟨_, (pss_one (ps_try_as (i := 2) rfl rfl sc_l_total.nd rfl rfl ⟨by rfl, by decide, .inl g_HighError⟩ takes0 (fun W pn xe tk _ => (pss_one (ps_ret (pe_callS F_total (hr.mono (by decide)) (by rfl) m_total k_total b_total (fun σ => passAt tk σ) (pa_cons (pv 0) (pa_cons (pv 1) pa_nil))))))
    (fun a oe cls d pn hz hf => (pss_cons (ps_if (PW.pt (pw_and (pt_val (pe_callB (call_isX hz hf) (by rfl) T.isinstance_ (by decide +kernel) (pa_cons (pv 2) (pa_cons (pe_glob (v := .ref _) (by rfl) g_NoName rfl) pa_nil)))) (pw_and1 (pt_val (pe_callB (call_isX hz hf) (by rfl) T.isinstance_ (by decide +kernel) (pa_cons (pv 2) (pa_cons (pe_bltn (v := .ty "ValueError") (by rfl) z_ValueError (by decide +kernel) rfl) pa_nil))))))) (pss_one (ps_ret (pe_tup (pa_cons (pe_xf E_NoName.xf E_NoName.no hz hf (pv 2)) pa_nil)))) pss_nil)
  (pss_one (ps_ret pe_non)))))), ?_⟩
    rw [show L2.start N_l_total [V.ref t, V.ref d] = [some (V.ref t), some (V.ref d), none] from rfl]
    (try dsimp only [cxOf, Cx.nox, Cx.wish])
    walk_at "h"
    refine use_total kt hd B lS q fun z ez e H1 s1 ee => ?_
    refine ⟨true, ER.xm, fun _ a na => ?_, fun z => Bool.noConfusion z⟩
    show tSeq _ _ _ [some (V.ref t), some (V.ref d), some (V.ref a)] H1
    walk_at "h"
    refine rd_isX E_NoName rfl rfl ee (fun u r => r) ER.kN ?_
    walk_at "h"
    refine rd_isX E_NoName rfl rfl ee (fun u r => r) ER.kV ?_
    walk_at "h"
    refine ⟨rfl, rfl, e, _, .str z, rfl, ee, by simp [List.lookup], ?_⟩
    walk_at "h"
    refine ⟨sz_le (by simp only [List.length_cons, List.length_nil]; omega), fun u nu => ?_⟩
    exact qe z ez u _ (s1.trans (same_new nu)) upd_same
end
end K03
namespace K03
open PySem PySem.Spec PyProof.Rows L2 HH
local macro_rules | `(tactic| walk_at "h1") => `(tactic| first
  | with_reducible refine rd_seq ?_ | with_reducible refine rd_asg ?_ | with_reducible refine rd_op ?_
  | ((with_reducible refine' rd_var ?hv ?_); (case hv => exact rfl)) | with_reducible refine rd_c ?_
  | ((with_reducible refine rd_name ?_); dsimp only [List.set_cons_zero, List.set_cons_succ])
  | with_reducible refine rd_I0 ?_ | ((with_reducible refine rd_pow ?_ ?_ ?_ ?_); (· decide); (· decide); (· decide)) | ((with_reducible refine rd_mod ?_ ?_); (· decide)) | ((with_reducible refine rd_mulR ?_ ?_ ?_); (· decide); (· decide)) | ((with_reducible refine rd_divW (n := 64) ?_ ?_ ?_ ?_ ?_); (· decide); (· decide); (· decide); (· decide)) | with_reducible refine rd_addI ?_ | with_reducible refine rd_eqI ?_ | with_reducible refine rd_eqS ?_ | with_reducible refine rd_eqB ?_ | with_reducible refine rd_ltI ?_
  | with_reducible refine rd_callS ?_ | with_reducible refine rd_xf ?_ | with_reducible refine rd_cons ?_ | with_reducible refine rd_nil ?_ | with_reducible refine rd_cb ?_ | with_reducible refine rd_call ?_
  | with_reducible refine rd_ifs ?_ | with_reducible refine rd_test ?_ | with_reducible refine rd_tB ?_ | with_reducible refine rd_blQ ?_ | with_reducible refine iteT ?_ | with_reducible refine iteF ?_ | with_reducible refine iteNotF ?_ | with_reducible refine iteNotT ?_
  | with_reducible refine rd_and ?_ | with_reducible refine rd_or ?_ | with_reducible refine rd_not ?_ | with_reducible refine rd_andV ?_ | with_reducible refine rd_orV ?_ | with_reducible refine rd_notV ?_ | with_reducible refine rd_if ?_
  | with_reducible refine rd_un ?_ | with_reducible refine rd_U ?_ | with_reducible refine rd_sub ?_ | with_reducible refine rd_tup ?_ | with_reducible refine rd_lst ?_
  | with_reducible refine rd_intI ?_ | with_reducible refine rd_absI ?_ | with_reducible refine rd_drop ?_ | with_reducible refine rd_ret ?_ | with_reducible refine rd_retN ?_ | with_reducible refine rd_next ?_ | with_reducible refine rd_bm ?_
  | with_reducible refine rd_tDGet2 ?_ | with_reducible refine rd_tDGet ?_ | with_reducible refine rd_sDPut ?_ | with_reducible refine rd_dnewK ?_ | with_reducible refine rd_nnew ?_ | with_reducible refine rd_nget ?_ | with_reducible refine rd_nget2 ?_ | with_reducible refine rd_npop ?_ | with_reducible refine rd_nput ?_ | with_reducible refine rd_dcn ?_ | with_reducible refine rd_gtup ?_ | with_reducible refine rd_gcons ?_ | with_reducible refine rd_gnil ?_ | with_reducible refine rd_lc ?_ | with_reducible refine rd_yes ?_ | with_reducible refine rd_for ?_ | with_reducible refine rd_iL ?_ | with_reducible refine rd_iT ?_ | with_reducible refine rd_iR1 ?_ | with_reducible refine rd_iS ?_ | with_reducible refine rd_leafS ?_ | with_reducible refine rd_sl ?_ | with_reducible refine rd_noPart ?_ | with_reducible refine rd_part ?_ | with_reducible refine rd_leafI ?_)
local macro_rules | `(tactic| walk_at "h") => `(tactic| repeat walk_at "h1")

section
variable {P : Program} {w : World} {K : PySem.W.Frag} {mg : Str → Option Value} {base : Heap}
theorem ok_isint {f : Addr} {fd : FuncData} (F : Fun K "_law_is_integer" "_law_is_integer" s_l_is_integer f fd) (T : Bi mg) : FnOk P w K mg base CX0 1 f fd ["_law_thing"] spIsInt := by
  refine F.ok sc_l_is_integer (fun vs H Q E h => ?_) (fun cdv A outer s H vs Q E hr h => ?_)
  · obtain ⟨i, rfl, _⟩ := h
    rfl
  · obtain ⟨i, rfl, q⟩ := h
    have hu := hu_of hr
    have hu20 := hu20_of hr
    have hu40 := hu40_of hr
    refine ⟨_, (pss_one (ps_ret (pe_and (pe_callB (call_isiK (K := K)) (by rfl) T.isinstance_ (by decide +kernel) (pa_cons (pv 0) (pa_cons (pe_bltn (v := .ty "int") (by rfl) T.int_ (by decide +kernel) rfl) pa_nil))) (pe_one (pe_not (pe_callB (call_isiK (K := K)) (by rfl) T.isinstance_ (by decide +kernel) (pa_cons (pv 0) (pa_cons (pe_bltn (v := .ty "bool") (by rfl) T.bool_ (by decide +kernel) rfl) pa_nil)))))))), ?_⟩
    rw [show L2.start N_l_is_integer [V.int i] = [some (V.int i)] from rfl]
    (try dsimp only [cxOf, Cx.nox, Cx.wish])
    walk_at "h"
    refine rd_isi (r := true) (.base (.int i)) (by decide +kernel) ?_
    walk_at "h"
    refine rd_isi (r := false) (.base (.int i)) (by decide +kernel) ?_
    walk_at "h"
    exact q
end
end K03
namespace K03
open PySem PySem.Spec PyProof.Rows L2 HH
local macro_rules | `(tactic| walk_at "h1") => `(tactic| first
  | with_reducible refine rd_seq ?_ | with_reducible refine rd_asg ?_ | with_reducible refine rd_op ?_
  | ((with_reducible refine' rd_var ?hv ?_); (case hv => exact rfl)) | with_reducible refine rd_c ?_
  | ((with_reducible refine rd_name ?_); dsimp only [List.set_cons_zero, List.set_cons_succ])
  | with_reducible refine rd_I0 ?_ | ((with_reducible refine rd_pow ?_ ?_ ?_ ?_); (· decide); (· decide); (· decide)) | ((with_reducible refine rd_mod ?_ ?_); (· decide)) | ((with_reducible refine rd_mulR ?_ ?_ ?_); (· decide); (· decide)) | ((with_reducible refine rd_divW (n := 64) ?_ ?_ ?_ ?_ ?_); (· decide); (· decide); (· decide); (· decide)) | with_reducible refine rd_addI ?_ | with_reducible refine rd_eqI ?_ | with_reducible refine rd_eqS ?_ | with_reducible refine rd_eqB ?_ | with_reducible refine rd_ltI ?_
  | with_reducible refine rd_callS ?_ | with_reducible refine rd_xf ?_ | with_reducible refine rd_cons ?_ | with_reducible refine rd_nil ?_ | with_reducible refine rd_cb ?_ | with_reducible refine rd_call ?_
  | with_reducible refine rd_ifs ?_ | with_reducible refine rd_test ?_ | with_reducible refine rd_tB ?_ | with_reducible refine rd_blQ ?_ | with_reducible refine iteT ?_ | with_reducible refine iteF ?_ | with_reducible refine iteNotF ?_ | with_reducible refine iteNotT ?_
  | with_reducible refine rd_and ?_ | with_reducible refine rd_or ?_ | with_reducible refine rd_not ?_ | with_reducible refine rd_andV ?_ | with_reducible refine rd_orV ?_ | with_reducible refine rd_notV ?_ | with_reducible refine rd_if ?_
  | with_reducible refine rd_un ?_ | with_reducible refine rd_U ?_ | with_reducible refine rd_sub ?_ | with_reducible refine rd_tup ?_ | with_reducible refine rd_lst ?_
  | with_reducible refine rd_intI ?_ | with_reducible refine rd_absI ?_ | with_reducible refine rd_drop ?_ | with_reducible refine rd_ret ?_ | with_reducible refine rd_retN ?_ | with_reducible refine rd_next ?_ | with_reducible refine rd_bm ?_
  | with_reducible refine rd_tDGet2 ?_ | with_reducible refine rd_tDGet ?_ | with_reducible refine rd_sDPut ?_ | with_reducible refine rd_dnewK ?_ | with_reducible refine rd_nnew ?_ | with_reducible refine rd_nget ?_ | with_reducible refine rd_nget2 ?_ | with_reducible refine rd_npop ?_ | with_reducible refine rd_nput ?_ | with_reducible refine rd_dcn ?_ | with_reducible refine rd_gtup ?_ | with_reducible refine rd_gcons ?_ | with_reducible refine rd_gnil ?_ | with_reducible refine rd_lc ?_ | with_reducible refine rd_yes ?_ | with_reducible refine rd_for ?_ | with_reducible refine rd_iL ?_ | with_reducible refine rd_iT ?_ | with_reducible refine rd_iR1 ?_ | with_reducible refine rd_iS ?_ | with_reducible refine rd_leafS ?_ | with_reducible refine rd_sl ?_ | with_reducible refine rd_noPart ?_ | with_reducible refine rd_part ?_ | with_reducible refine rd_leafI ?_)
local macro_rules | `(tactic| walk_at "h") => `(tactic| repeat walk_at "h1")

section
variable {P : Program} {w : World} {K : PySem.W.Frag} {mg : Str → Option Value} {base : Heap}
theorem ok_worth {f : Addr} {fd : FuncData} (F : Fun K "_law_worth" "_law_worth" s_l_worth f fd) (T : Bi mg) : FnOk P w K mg base CX0 1 f fd ["_law_product_here", "_law_numbers"] (spWorth K) := by
  refine F.ok sc_l_worth (fun vs H Q E h => ?_) (fun cdv A outer s H vs Q E hr h => ?_)
  · obtain ⟨t, d, ps, m, b, rfl, _⟩ := h
    rfl
  · obtain ⟨t, d, ps, m, b, rfl, kt, hd, B, l0, q⟩ := h
    have hu := hu_of hr
    have hu20 := hu20_of hr
    have hu40 := hu40_of hr
    obtain ⟨_, vs, et, st, kv, nv⟩ := prod_at kt
    obtain rfl := V.ref.inj et
    refine ⟨_, (pss_cons (ps_set (i := 2) sc_l_worth.nd rfl (.inl rfl) pe_int)
  (pss_cons (ps_for PassesOwn.never rfl (pi_tup (pv 0)) (pg_name (i := 3) sc_l_worth.nd rfl (.inl rfl))
    (pss_one (ps_for PassesOwn.never rfl (pi_range1 (by rfl) T.range (pa_cons (pe_ix (ix_tupK (K := K)) (pv 3) pe_int (fun _ _ => rfl)) pa_nil)) (pg_name (i := 4) sc_l_worth.nd rfl (.inl rfl))
    (pss_one (ps_set (i := 2) sc_l_worth.nd rfl (.inl rfl) (pe_op op_mulW (pv 2) (pe_dget hu (pv 1) (pe_ix (ix_tupK (K := K)) (pv 3) pe_int (fun _ _ => rfl)) (fun _ _ => rfl))))))))
  (pss_one (ps_ret (pv 2))))), ?_⟩
    rw [show L2.start N_l_worth [V.ref t, V.ref d] = [some (V.ref t), some (V.ref d), none, none, none] from rfl]
    (try dsimp only [cxOf, Cx.nox, Cx.wish])
    walk_at "h"
    refine rd_leafT st ?_
    have db : ∀ x : Nat, x ≤ degP ps → b * x ≤ 200000 := fun x hx => Nat.le_trans (Nat.mul_le_mul_left b hx) B.dg
    refine for_tup (xs := vs) (fun i σ H' => ∃ v3 v4 : Option V, σ = [some (V.ref t), some (V.ref d), some (V.int (worthP m (ps.take i))), v3, v4] ∧ H' = H) ⟨none, none, rfl, rfl⟩ (fun i σ H' _ ⟨_, _, _, e⟩ => by rw [e]; exact st) ?_ ?_
    · rintro i x σ H1 hx ⟨v3, v4, rfl, rfl⟩
      have hi : i < ps.length := by rw [← nv]; exact (List.getElem?_eq_some_iff.mp hx).1
      obtain ⟨a, rfl, sa⟩ := pair_get kv hi hx
      have mi : ps[i] ∈ ps := List.getElem_mem hi
      obtain ⟨n, en⟩ := lackOf_has l0 mi
      have pi := B.nn _ mi
      have hb := B.lt _ mi
      rw [en] at hb
      simp only [Option.getD_some] at hb
      have dm := degP_mem mi
      have p9 : b * ps[i].2.toNat ≤ 200000 := db _ dm
      have b1 := B.b1
      have pl : ps[i].2.toNat ≤ 200000 := Nat.le_trans (Nat.le_mul_of_pos_left _ (by omega)) p9
      walk_at "h"
      refine rd_ixt sa rfl ?_
      walk_at "h"
      refine rd_leafR (by omega) (by omega) ?_
      refine for_range (fun j σ H' => ∃ v4 : Option V, σ = [some (V.ref t), some (V.ref d), some (V.int (worthP m (ps.take i) * n ^ j)), some (V.ref a), v4] ∧ H' = H1) ⟨v4, by rw [Int.pow_zero, Int.mul_one], rfl⟩ ?_ ?_
      · rintro j σ H2 hj ⟨v4, rfl, rfl⟩
        walk_at "h"
        refine rd_ixt sa rfl ?_
        refine ⟨d, _, rfl, dget_tab hd en, ?_⟩
        have le1 : (worthP m (ps.take i) * n ^ j).natAbs ≤ 2 ^ (b * degP (ps.take i) + b * j) := by
          rw [Int.natAbs_mul, Nat.pow_add]
          exact Nat.mul_le_mul (worthP_le fun q hq => B.lt q (List.mem_of_mem_take hq)) (pow_bb hb j)
        refine rd_I (wide_mul (lt_pow1 le1) hb (by omega) (by omega) (by have := db (degP (ps.take i)) (degP_take ps i); have : b * j ≤ b * ps[i].2.toNat := Nat.mul_le_mul_left b (by omega); have : b ≤ b * ps[i].2.toNat := Nat.le_mul_of_pos_right _ (by omega); omega)) ?_
        walk_at "h"
        exact ⟨_, by rw [Int.pow_succ, Int.mul_assoc], rfl⟩
      · rintro σ H2 ⟨v4, rfl, rfl⟩
        refine ⟨some (V.ref a), v4, ?_, rfl⟩
        rw [worthP_step m ps hi, en]
        rfl
    · rintro σ H1 ⟨v3, v4, rfl, rfl⟩
      rw [nv, List.take_length]
      walk_at "h"
      exact q
end
end K03
namespace K03
open PySem PySem.Spec PyProof.Rows L2 HH
local macro_rules | `(tactic| walk_at "h1") => `(tactic| first
  | with_reducible refine rd_seq ?_ | with_reducible refine rd_asg ?_ | with_reducible refine rd_op ?_
  | ((with_reducible refine' rd_var ?hv ?_); (case hv => exact rfl)) | with_reducible refine rd_c ?_
  | ((with_reducible refine rd_name ?_); dsimp only [List.set_cons_zero, List.set_cons_succ])
  | with_reducible refine rd_I0 ?_ | ((with_reducible refine rd_pow ?_ ?_ ?_ ?_); (· decide); (· decide); (· decide)) | ((with_reducible refine rd_mod ?_ ?_); (· decide)) | ((with_reducible refine rd_mulR ?_ ?_ ?_); (· decide); (· decide)) | ((with_reducible refine rd_divW (n := 64) ?_ ?_ ?_ ?_ ?_); (· decide); (· decide); (· decide); (· decide)) | with_reducible refine rd_addI ?_ | with_reducible refine rd_eqI ?_ | with_reducible refine rd_eqS ?_ | with_reducible refine rd_eqB ?_ | with_reducible refine rd_ltI ?_
  | with_reducible refine rd_callS ?_ | with_reducible refine rd_xf ?_ | with_reducible refine rd_cons ?_ | with_reducible refine rd_nil ?_ | with_reducible refine rd_cb ?_ | with_reducible refine rd_call ?_
  | with_reducible refine rd_ifs ?_ | with_reducible refine rd_test ?_ | with_reducible refine rd_tB ?_ | with_reducible refine rd_blQ ?_ | with_reducible refine iteT ?_ | with_reducible refine iteF ?_ | with_reducible refine iteNotF ?_ | with_reducible refine iteNotT ?_
  | with_reducible refine rd_and ?_ | with_reducible refine rd_or ?_ | with_reducible refine rd_not ?_ | with_reducible refine rd_andV ?_ | with_reducible refine rd_orV ?_ | with_reducible refine rd_notV ?_ | with_reducible refine rd_if ?_
  | with_reducible refine rd_un ?_ | with_reducible refine rd_U ?_ | with_reducible refine rd_sub ?_ | with_reducible refine rd_tup ?_ | with_reducible refine rd_lst ?_
  | with_reducible refine rd_intI ?_ | with_reducible refine rd_absI ?_ | with_reducible refine rd_drop ?_ | with_reducible refine rd_ret ?_ | with_reducible refine rd_retN ?_ | with_reducible refine rd_next ?_ | with_reducible refine rd_bm ?_
  | with_reducible refine rd_tDGet2 ?_ | with_reducible refine rd_tDGet ?_ | with_reducible refine rd_sDPut ?_ | with_reducible refine rd_dnewK ?_ | with_reducible refine rd_nnew ?_ | with_reducible refine rd_nget ?_ | with_reducible refine rd_nget2 ?_ | with_reducible refine rd_npop ?_ | with_reducible refine rd_nput ?_ | with_reducible refine rd_dcn ?_ | with_reducible refine rd_gtup ?_ | with_reducible refine rd_gcons ?_ | with_reducible refine rd_gnil ?_ | with_reducible refine rd_lc ?_ | with_reducible refine rd_yes ?_ | with_reducible refine rd_for ?_ | with_reducible refine rd_iL ?_ | with_reducible refine rd_iT ?_ | with_reducible refine rd_iR1 ?_ | with_reducible refine rd_iS ?_ | with_reducible refine rd_leafS ?_ | with_reducible refine rd_sl ?_ | with_reducible refine rd_noPart ?_ | with_reducible refine rd_part ?_ | with_reducible refine rd_leafI ?_)
local macro_rules | `(tactic| walk_at "h") => `(tactic| repeat walk_at "h1")

section
variable {P : Program} {w : World} {K : PySem.W.Frag} {mg : Str → Option Value} {base : Heap}
theorem ok_number {f : Addr} {fd : FuncData} (F : Fun K "_law_number" "_law_number" s_l_number f fd) (T : Bi mg) (G_l_draw : Callee P w K mg base 1 "_law_draw" ["_law_dice_here", "_law_many"] spDraw) : FnOk P w K mg base CX0 2 f fd ["_law_dice_here"] spNumber := by
  refine F.ok sc_l_number (fun vs H Q E h => ?_) (fun cdv A outer s H vs Q E hr h => ?_)
  · obtain ⟨p, c, rfl, _⟩ := h
    rfl
  · obtain ⟨p, c, rfl, D, q⟩ := h
    have hu := hu_of hr
    have hu20 := hu20_of hr
    have hu40 := hu40_of hr
    obtain ⟨f_l_draw, fd_l_draw, F_l_draw, m_l_draw, k_l_draw, b_l_draw⟩ := G_l_draw
    refine ⟨_, (pss_cons (ps_if (pt_cmpR (op_eqU (K := K) hu40) (pe_call F_l_draw (hr.mono (by decide)) (by rfl) m_l_draw k_l_draw b_l_draw .nil pass0 (pa_cons (pv 0) (pa_cons pe_int pa_nil))) pe_int (nomark _)) (pss_one (ps_ret (pe_op (op_addU (K := K)) pe_int (pe_call F_l_draw (hr.mono (by decide)) (by rfl) m_l_draw k_l_draw b_l_draw .nil pass0 (pa_cons (pv 0) (pa_cons (pe_op op_sub (pe_op op_pow pe_int pe_int) pe_int) pa_nil)))))) pss_nil)
  (pss_one (ps_ret (pe_op (op_addU (K := K)) pe_int (pe_call F_l_draw (hr.mono (by decide)) (by rfl) m_l_draw k_l_draw b_l_draw .nil pass0 (pa_cons (pv 0) (pa_cons pe_int pa_nil))))))), ?_⟩
    rw [show L2.start N_l_number [V.ref p] = [some (V.ref p)] from rfl]
    (try dsimp only [cxOf, Cx.nox, Cx.wish])
    walk_at "h"
    refine use_draw D (by decide) (by decide) fun r H1 r0 r1 D1 f1 => ?_
    walk_at "h"
    refine ite2 (fun c1 => ?_) (fun c1 => ?_)
    · walk_at "h"
      refine use_draw D1 (by decide) (by decide) fun k H2 k0 k1 D2 f2 => ?_
      walk_at "h"
      exact q _ _ (by omega) (by have : k < 10 ^ 30 - 1 := k1; omega) D2 (f1.trans f2)
    · walk_at "h"
      refine use_draw D1 (by decide) (by decide) fun k H2 k0 k1 D2 f2 => ?_
      walk_at "h"
      exact q _ _ (by omega) (by omega) D2 (f1.trans f2)
end
end K03
namespace K03
open PySem PySem.Spec PyProof.Rows L2 HH
local macro_rules | `(tactic| walk_at "h1") => `(tactic| first
  | with_reducible refine rd_seq ?_ | with_reducible refine rd_asg ?_ | with_reducible refine rd_op ?_
  | ((with_reducible refine' rd_var ?hv ?_); (case hv => exact rfl)) | with_reducible refine rd_c ?_
  | ((with_reducible refine rd_name ?_); dsimp only [List.set_cons_zero, List.set_cons_succ])
  | with_reducible refine rd_I0 ?_ | ((with_reducible refine rd_pow ?_ ?_ ?_ ?_); (· decide); (· decide); (· decide)) | ((with_reducible refine rd_mod ?_ ?_); (· decide)) | ((with_reducible refine rd_mulR ?_ ?_ ?_); (· decide); (· decide)) | ((with_reducible refine rd_divW (n := 64) ?_ ?_ ?_ ?_ ?_); (· decide); (· decide); (· decide); (· decide)) | with_reducible refine rd_addI ?_ | with_reducible refine rd_eqI ?_ | with_reducible refine rd_eqS ?_ | with_reducible refine rd_eqB ?_ | with_reducible refine rd_ltI ?_
  | with_reducible refine rd_callS ?_ | with_reducible refine rd_xf ?_ | with_reducible refine rd_cons ?_ | with_reducible refine rd_nil ?_ | with_reducible refine rd_cb ?_ | with_reducible refine rd_call ?_
  | with_reducible refine rd_ifs ?_ | with_reducible refine rd_test ?_ | with_reducible refine rd_tB ?_ | with_reducible refine rd_blQ ?_ | with_reducible refine iteT ?_ | with_reducible refine iteF ?_ | with_reducible refine iteNotF ?_ | with_reducible refine iteNotT ?_
  | with_reducible refine rd_and ?_ | with_reducible refine rd_or ?_ | with_reducible refine rd_not ?_ | with_reducible refine rd_andV ?_ | with_reducible refine rd_orV ?_ | with_reducible refine rd_notV ?_ | with_reducible refine rd_if ?_
  | with_reducible refine rd_un ?_ | with_reducible refine rd_U ?_ | with_reducible refine rd_sub ?_ | with_reducible refine rd_tup ?_ | with_reducible refine rd_lst ?_
  | with_reducible refine rd_intI ?_ | with_reducible refine rd_absI ?_ | with_reducible refine rd_drop ?_ | with_reducible refine rd_ret ?_ | with_reducible refine rd_retN ?_ | with_reducible refine rd_next ?_ | with_reducible refine rd_bm ?_
  | with_reducible refine rd_tDGet2 ?_ | with_reducible refine rd_tDGet ?_ | with_reducible refine rd_sDPut ?_ | with_reducible refine rd_dnewK ?_ | with_reducible refine rd_nnew ?_ | with_reducible refine rd_nget ?_ | with_reducible refine rd_nget2 ?_ | with_reducible refine rd_npop ?_ | with_reducible refine rd_nput ?_ | with_reducible refine rd_dcn ?_ | with_reducible refine rd_gtup ?_ | with_reducible refine rd_gcons ?_ | with_reducible refine rd_gnil ?_ | with_reducible refine rd_lc ?_ | with_reducible refine rd_yes ?_ | with_reducible refine rd_for ?_ | with_reducible refine rd_iL ?_ | with_reducible refine rd_iT ?_ | with_reducible refine rd_iR1 ?_ | with_reducible refine rd_iS ?_ | with_reducible refine rd_leafS ?_ | with_reducible refine rd_sl ?_ | with_reducible refine rd_noPart ?_ | with_reducible refine rd_part ?_ | with_reducible refine rd_leafI ?_)
local macro_rules | `(tactic| walk_at "h") => `(tactic| repeat walk_at "h1")

section
variable {P : Program} {w : World} {K : PySem.W.Frag} {mg : Str → Option Value} {base : Heap}
/-- what stands while the law goes on: the dice, the names, the terms -/
structure Bun (K : PySem.W.Frag) (H : Hp) (p c l t : Addr) (xs : List Str) (S : Sm) : Prop where
  D : DiceAt H p c
  L : H l = some (.lst (xs.map V.str))
  O : IsK K H (sumK S) (.ref t)
theorem Bun.fr {H H' : Hp} {p c l t : Addr} {xs : List Str} {S : Sm} (b : Bun K H p c l t xs S) (f : Fr p H H') (D : DiceAt H' p c) (n : l ≠ p) : Bun K H' p c l t xs S :=
  let ⟨_, h⟩ := b.D.lst; ⟨D, f _ _ n b.L, b.O.keep (f.tup h)⟩
theorem Bun.wr {H H' : Hp} {p c l t d : Addr} {xs : List Str} {S : Sm} (b : Bun K H p c l t xs S) (e : ∀ b, b ≠ d → H' b = H b) (tp : Tup K H H') (h1 : d ≠ p) (h2 : d ≠ c) (h3 : d ≠ l) : Bun K H' p c l t xs S :=
  ⟨b.D.oth h1 h2 e, by rw [e _ h3.symm]; exact b.L, b.O.keep tp⟩
theorem Bun.same {H H' : Hp} {p c l t : Addr} {xs : List Str} {S : Sm} (b : Bun K H p c l t xs S) (s : Same H H') : Bun K H' p c l t xs S := ⟨b.D.keep s, s _ _ b.L, b.O.keep (same_tup s)⟩
def spLaw (K : PySem.W.Frag) : Sp := fun vs H Q _ => ∃ (a : Addr) (ns : List Int), vs = [.ref a] ∧ SqL K H a (ns.map V.int) ∧ ns.length ≤ 63 ∧ ∀ H', Q (.bl true) H'
theorem tup_oth {H H' : Hp} {d : Addr} {xs ys : List (Key × V)} (h : H d = some (.dK xs)) (h' : H' d = some (.dK ys)) (f : ∀ b, b ≠ d → H' b = H b) : Tup K H H' := by
  have e : H' = upd H d (.dK ys) := by
    funext b
    by_cases hb : b = d
    · rw [hb, h', upd_same]
    · rw [f b hb, upd_ne hb]
  rw [e]
  exact tup_upd h (fun _ z => nomatch z) (fun _ _ z => nomatch z)
theorem filt_step {α : Type} (pr : α → Bool) (S : List α) {i : Nat} (h : i < S.length) : (S.take (i + 1)).filter pr = (S.take i).filter pr ++ if pr S[i] = true then [S[i]] else [] := by
  rw [← List.take_append_getElem h, List.filter_append]
  cases e : pr S[i] <;> simp [e]
def fo : Option Str → V
  | none => .non
  | some z => .str z
theorem lack_mem {m ps : Tab} {z : Str} (h : lackOf m ps = some z) : ∃ q ∈ ps, q.1 = z := by
  obtain ⟨q, hq, e⟩ := List.mem_map.mp (List.mem_of_find?_eq_some h)
  exact ⟨q, hq, e⟩
theorem lackS_mem {m : Tab} {S : Sm} {z : Str} (h : lackS m S = some z) : ∃ q ∈ S, ∃ r ∈ q.2, r.1 = z := by
  induction S with
  | nil => cases h
  | cons q r ih =>
    simp only [lackS, Option.or_eq_some_iff] at h
    rcases h with h | ⟨_, h⟩
    · obtain ⟨x, hx, e⟩ := lack_mem h
      exact ⟨q, List.mem_cons_self, x, hx, e⟩
    · obtain ⟨x, hx, e⟩ := ih h
      exact ⟨x, List.mem_cons_of_mem _ hx, e⟩
theorem tab_same {m : Tab} (nd : (m.map (·.1)).Nodup) : ∀ q ∈ tabV m, valV (tabV m) q.1 = some q.2 ∧ flatB q.2 = true := fun q hq => by
  obtain ⟨r, hr, rfl⟩ := List.mem_map.mp hq
  refine ⟨?_, rfl⟩
  show valV (tabV m) (Sum.inr r.1) = _
  rw [valV_tab, mem_tget nd (n := r.2) hr]
  rfl
/-- a name -/
def NmOk (z : Str) : Prop := PyData.strOk z = true
theorem nm_low {z : Str} (h : Low z) : NmOk z := by
  show z.cps.all (· < 0x110000) = true
  rw [← Array.all_toList, List.all_eq_true]
  intro c hc
  have := (h c hc).2
  exact decide_eq_true (by omega)
theorem nm_hash : NmOk "#" := by
  show PyData.strOk "#" = true
  decide +kernel
theorem hash_low : ¬ Low "#" := fun h => by
  have := (h 35 (by decide)).1
  omega
theorem ok_law {C CH : Addr} {f : Addr} {fd : FuncData} (F : Fun K "law" "law" s_law f fd) (T : Bi mg) (G_l_dice : Callee P w K mg base 1 "_law_dice" ["_law_script"] (spDice K)) (G_l_draw : Callee P w K mg base 1 "_law_draw" ["_law_dice_here", "_law_many"] spDraw)
    (G_l_names : Callee P w K mg base 3 "_law_names" ["_law_dice_here", "_law_many"] spNames) (G_l_sum : Callee P w K mg base 3 "_law_sum" ["_law_dice_here", "_law_names_here", "_law_terms", "_law_most", "_law_top"] (spSum K))
    (G_l_number : Callee P w K mg base 2 "_law_number" ["_law_dice_here"] spNumber) (G_l_value : Callee P w K mg base 4 "_law_value" ["_law_product_here", "_law_numbers"] (spLawValue K))
    (G_l_is_integer : Callee P w K mg base 1 "_law_is_integer" ["_law_thing"] spIsInt) (G_l_worth : Callee P w K mg base 1 "_law_worth" ["_law_product_here", "_law_numbers"] (spWorth K))
    (G_l_total : Callee P w K mg base 5 "_law_total" ["_law_terms", "_law_numbers"] (spLawTotal K)) : FnOk P w K mg base CX0 6 f fd ["_law_script"] (spLaw K) := by
  refine F.ok sc_law (fun vs H Q E h => ?_) (fun cdv A outer s H vs Q E hr h => ?_)
  · obtain ⟨a, ns, rfl, _⟩ := h
    rfl
  · obtain ⟨a, ns, rfl, ha, hl, q⟩ := h
    have hu := hu_of hr
    have hu20 := hu20_of hr
    have hu40 := hu40_of hr
    have hu64 := hu64_of hr
    have hu0 : (A.deeper (envOfC "law" (defScope s_law) s.heap.objs.size f cdv)).units < cLine := by omega
    obtain ⟨f_l_dice, fd_l_dice, F_l_dice, m_l_dice, k_l_dice, b_l_dice⟩ := G_l_dice; obtain ⟨f_l_names, fd_l_names, F_l_names, m_l_names, k_l_names, b_l_names⟩ := G_l_names; obtain ⟨f_l_draw, fd_l_draw, F_l_draw, m_l_draw, k_l_draw, b_l_draw⟩ := G_l_draw; obtain ⟨f_l_sum, fd_l_sum, F_l_sum, m_l_sum, k_l_sum, b_l_sum⟩ := G_l_sum; obtain ⟨f_l_number, fd_l_number, F_l_number, m_l_number, k_l_number, b_l_number⟩ := G_l_number; obtain ⟨f_l_value, fd_l_value, F_l_value, m_l_value, k_l_value, b_l_value⟩ := G_l_value; obtain ⟨f_l_worth, fd_l_worth, F_l_worth, m_l_worth, k_l_worth, b_l_worth⟩ := G_l_worth; obtain ⟨f_l_is_integer, fd_l_is_integer, F_l_is_integer, m_l_is_integer, k_l_is_integer, b_l_is_integer⟩ := G_l_is_integer; obtain ⟨f_l_total, fd_l_total, F_l_total, m_l_total, k_l_total, b_l_total⟩ := G_l_total
    refine ⟨_, (pss_cons (ps_set (i := 1) sc_law.nd rfl (.inl rfl) (pe_call F_l_dice (hr.mono (by decide)) (by rfl) m_l_dice k_l_dice b_l_dice .nil pass0 (pa_cons (pv 0) pa_nil)))
  (pss_cons (ps_set (i := 2) sc_law.nd rfl (.inl rfl) (pe_call F_l_names (hr.mono (by decide)) (by rfl) m_l_names k_l_names b_l_names .nil pass0 (pa_cons (pv 1) (pa_cons (pe_op (op_addU (K := K)) pe_int (pe_call F_l_draw (hr.mono (by decide)) (by rfl) m_l_draw k_l_draw b_l_draw .nil pass0 (pa_cons (pv 1) (pa_cons pe_int pa_nil)))) pa_nil))))
  (C8.pss_cut (ps_if (pt_cmpR (op_eqU (K := K) hu40) (pe_call F_l_draw (hr.mono (by decide)) (by rfl) m_l_draw k_l_draw b_l_draw .nil pass0 (pa_cons (pv 1) (pa_cons pe_int pa_nil))) pe_int (nomark _)) (pss_one (ps_set (i := 2) sc_law.nd rfl (.inl rfl) (pe_op (op_addU (K := K)) (pv 2) (pe_lst (pa_cons pe_str pa_nil))))) pss_nil)
  (pss_cons (ps_set (i := 3) sc_law.nd rfl (.inl rfl) (pe_call F_l_sum (hr.mono (by decide)) (by rfl) m_l_sum k_l_sum b_l_sum .nil pass0 (pa_cons (pv 1) (pa_cons (pv 2) (pa_cons pe_int (pa_cons pe_int (pa_cons (pe_op op_pow pe_int pe_int) pa_nil)))))))
  (C8.pss_cut (ps_if (pt_cmpR (op_eqU (K := K) hu40) (pe_call F_l_draw (hr.mono (by decide)) (by rfl) m_l_draw k_l_draw b_l_draw .nil pass0 (pa_cons (pv 1) (pa_cons pe_int pa_nil))) pe_int (nomark _)) (pss_one (ps_set (i := 3) sc_law.nd rfl (.inl rfl) (pe_call F_l_sum (hr.mono (by decide)) (by rfl) m_l_sum k_l_sum b_l_sum .nil pass0 (pa_cons (pv 1) (pa_cons (pv 2) (pa_cons pe_int (pa_cons pe_int (pa_cons pe_int pa_nil)))))))) pss_nil)
  (pss_cons (ps_set (i := 4) sc_law.nd rfl (.inl rfl) pe_dnewK)
  (pss_cons (ps_for PassesOwn.never rfl (pi_list (pv 2)) (pg_name (i := 5) sc_law.nd rfl (.inl rfl))
    (pss_one (ps_dput hu (pv 4) (pv 5) (pe_call F_l_number (hr.mono (by decide)) (by rfl) m_l_number k_l_number b_l_number .nil pass0 (pa_cons (pv 1) pa_nil)) rfl)))
  (C8.pss_cut (ps_if (pt_cmpR (op_eqU (K := K) hu40) (pe_call F_l_draw (hr.mono (by decide)) (by rfl) m_l_draw k_l_draw b_l_draw .nil pass0 (pa_cons (pv 1) (pa_cons pe_int pa_nil))) pe_int (nomark _)) (pss_cons (ps_set (i := 6) sc_law.nd rfl (.inr rfl) (pe_tup (pa_cons (pe_tup (pa_cons (pe_ix (ix_listK (K := K)) (pv 2) pe_int (fun _ _ => rfl)) (pa_cons (pe_ix (ix_listK (K := K)) (pe_lst (pa_cons pe_int (pa_cons pe_int (pa_cons pe_int pa_nil)))) (pe_call F_l_draw (hr.mono (by decide)) (by rfl) m_l_draw k_l_draw b_l_draw .nil pass0 (pa_cons (pv 1) (pa_cons pe_int pa_nil))) (fun _ _ => rfl)) pa_nil))) pa_nil)))
  (pss_cons (ps_dput hu (pv 4) (pe_ix (ix_listK (K := K)) (pv 2) pe_int (fun _ _ => rfl)) (pe_op (op_addU (K := K)) pe_int (pe_call F_l_draw (hr.mono (by decide)) (by rfl) m_l_draw k_l_draw b_l_draw .nil pass0 (pa_cons (pv 1) (pa_cons pe_int pa_nil)))) rfl)
  (pss_one (ps_set (i := 3) sc_law.nd rfl (.inl rfl) (pe_callTy (call_tupC (K := K)) (by rfl) T.tuple_ (by decide +kernel) (pa_cons (pe_op (op_addU (K := K)) (pe_op (op_addU (K := K)) (pe_lc (own := [("_law_term", 7)]) rfl sc_law.nd (pi_tup (pv 3)) (blkOk_by (N := N_law) (sc := defScope s_law) (by decide +kernel)) (fun _ _ _ _ _ => (pg_name (i := 7) sc_law.nd rfl (.inl rfl))) (fun _ _ _ _ _ => (pts_one (pt_cmpR (op_ltU (K := K) hu40) (pe_ix (ix_tupK (K := K)) (pv 7) pe_int (fun _ _ => rfl)) (pv 6) (nomark _)))) (fun _ _ _ _ _ => (pv 7))) (pe_lst (pa_cons (pe_tup (pa_cons pe_int (pa_cons (pv 6) pa_nil))) pa_nil))) (pe_lc (own := [("_law_term", 7)]) rfl sc_law.nd (pi_tup (pv 3)) (blkOk_by (N := N_law) (sc := defScope s_law) (by decide +kernel)) (fun _ _ _ _ _ => (pg_name (i := 7) sc_law.nd rfl (.inl rfl))) (fun _ _ _ _ _ => (pts_one (pt_cmpR (op_gtK (K := K) hu40) (pe_ix (ix_tupK (K := K)) (pv 7) pe_int (fun _ _ => rfl)) (pv 6) (nomark _)))) (fun _ _ _ _ _ => (pv 7)))) pa_nil)))))) pss_nil)
  (pss_cons (ps_set (i := 8) sc_law.nd rfl (.inr rfl) (pe_callTy call_dictD (by rfl) T.dict_ (by decide +kernel) (pa_cons (pv 4) pa_nil)))
  (C8.pss_cut (ps_if (pt_cmpR (op_eqU (K := K) hu40) (pe_call F_l_draw (hr.mono (by decide)) (by rfl) m_l_draw k_l_draw b_l_draw .nil pass0 (pa_cons (pv 1) (pa_cons pe_int pa_nil))) pe_int (nomark _)) (pss_one (ps_for PassesOwn.never rfl (pi_range1 (by rfl) T.range (pa_cons (pe_op (op_addU (K := K)) pe_int (pe_call F_l_draw (hr.mono (by decide)) (by rfl) m_l_draw k_l_draw b_l_draw .nil pass0 (pa_cons (pv 1) (pa_cons pe_int pa_nil)))) pa_nil)) (pg_name (i := 9) sc_law.nd rfl (.inl rfl))
    (pss_cons (ps_set (i := 10) sc_law.nd rfl (.inl rfl) (pe_ix (ix_listK (K := K)) (pv 2) (pe_call F_l_draw (hr.mono (by decide)) (by rfl) m_l_draw k_l_draw b_l_draw .nil pass0 (pa_cons (pv 1) (pa_cons (pe_callB (call_lenU (P := P) (w := w) (K := K)) (by rfl) T.len_ PySem.boot_len (pa_cons (pv 2) pa_nil)) pa_nil))) (fun _ _ => rfl)))
  (pss_one (ps_if (pt_cmpR (op_inU (P := P) (w := w) (K := K) hu20) (pv 10) (pv 8) (by rfl)) (pss_one (ps_expr (pe_dpop1 (pv 8) (pv 10) ⟨rfl, rfl, rfl, rfl⟩))) pss_nil))))) pss_nil)
  (pss_cons (ps_set (i := 11) sc_law.nd rfl (.inl rfl) (pe_callTy call_dictD (by rfl) T.dict_ (by decide +kernel) (pa_cons (pv 8) pa_nil)))
  (pss_cons (ps_set (i := 12) sc_law.nd rfl (.inl rfl) pe_non)
  (pss_cons (ps_set (i := 13) sc_law.nd rfl (.inl rfl) pe_int)
  (pss_cons (ps_for PassesOwn.never rfl (pi_tup (pv 3)) (pg_name (i := 7) sc_law.nd rfl (.inl rfl))
    (pss_cons (ps_setLc (i := 15) (own := [("_law_pair", 14)]) rfl sc_law.nd rfl rfl (sw_true rfl rfl rfl (by decide +kernel)) (pi_tup (pe_ix (ix_tupK (K := K)) (pv 7) pe_int (fun _ _ => rfl))) (blkOk_by (N := N_law) (sc := defScope s_law) (by decide +kernel)) (fun _ _ _ _ _ => (pg_name (i := 14) sc_law.nd rfl (.inl rfl))) (fun _ _ _ _ _ => (pts_one (pt_cmpR (op_ninU (P := P) (w := w) (K := K) hu20) (pe_ix (ix_tupK (K := K)) (pv 14) pe_int (fun _ _ => rfl)) (pv 8) (by rfl)))) (fun _ _ _ _ _ => (pe_ix (ix_tupK (K := K)) (pv 14) pe_int (fun _ _ => rfl))))
  (pss_cons (ps_set (i := 16) sc_law.nd rfl (.inl rfl) (pe_call F_l_value (hr.mono (by decide)) (by rfl) m_l_value k_l_value b_l_value .nil pass0 (pa_cons (pe_ix (ix_tupK (K := K)) (pv 7) pe_int (fun _ _ => rfl)) (pa_cons (pv 8) pa_nil))))
  (C8.pss_cut (ps_if (pt_cmpR op_gt (pe_callB (call_lenU (P := P) (w := w) (K := K)) (by rfl) T.len_ PySem.boot_len (pa_cons (pv 15) pa_nil)) pe_int (nomark _)) (pss_cons (ps_if (pt_cmpR (op_neP (K := K) hu64) (pv 16) (pe_tup (pa_cons (pe_ix (ix_listK (K := K)) (pv 15) pe_int (fun _ _ => rfl)) pa_nil)) (nomark _)) (pss_one (ps_ret pe_bl)) pss_nil)
  (pss_one (ps_if (pt_cmpR op_isN (pv 12) pe_non (nomark _)) (pss_one (ps_set (i := 12) sc_law.nd rfl (.inl rfl) (pe_ix (ix_listK (K := K)) (pv 15) pe_int (fun _ _ => rfl)))) pss_nil))) (pss_one (ps_if (PW.pt (pw_or (pt_not (pt_val (pe_call F_l_is_integer (hr.mono (by decide)) (by rfl) m_l_is_integer k_l_is_integer b_l_is_integer .nil pass0 (pa_cons (pv 16) pa_nil)))) (pw_or1 (pt_cmpR (op_neP (K := K) hu64) (pv 16) (pe_call F_l_worth (hr.mono (by decide)) (by rfl) m_l_worth k_l_worth b_l_worth .nil pass0 (pa_cons (pe_ix (ix_tupK (K := K)) (pv 7) pe_int (fun _ _ => rfl)) (pa_cons (pv 4) pa_nil))) (nomark _))))) (pss_one (ps_ret pe_bl)) pss_nil)))
  (pss_one (ps_set (i := 13) sc_law.nd rfl (.inl rfl) (pe_op (op_addU (K := K)) (pv 13) (pe_op op_mulW (pe_ix (ix_tupK (K := K)) (pv 7) pe_int (fun _ _ => rfl)) (pe_call F_l_worth (hr.mono (by decide)) (by rfl) m_l_worth k_l_worth b_l_worth .nil pass0 (pa_cons (pe_ix (ix_tupK (K := K)) (pv 7) pe_int (fun _ _ => rfl)) (pa_cons (pv 4) pa_nil)))))))))))
  (pss_cons (ps_set (i := 16) sc_law.nd rfl (.inl rfl) (pe_call F_l_total (hr.mono (by decide)) (by rfl) m_l_total k_l_total b_l_total .nil pass0 (pa_cons (pv 3) (pa_cons (pv 8) pa_nil))))
  (C8.pss_cut (ps_if (pt_cmpR op_notN (pv 12) pe_non (nomark _)) (pss_one (ps_if (pt_cmpR (op_neP (K := K) hu64) (pv 16) (pe_tup (pa_cons (pv 12) pa_nil)) (nomark _)) (pss_one (ps_ret pe_bl)) pss_nil)) (pss_one (ps_if (PW.pt (pw_or (pt_not (pt_val (pe_call F_l_is_integer (hr.mono (by decide)) (by rfl) m_l_is_integer k_l_is_integer b_l_is_integer .nil pass0 (pa_cons (pv 16) pa_nil)))) (pw_or1 (pt_cmpR (op_neP (K := K) hu64) (pv 16) (pv 13) (nomark _))))) (pss_one (ps_ret pe_bl)) pss_nil)))
  (pss_one (ps_ret (pe_and (pe_cmpR (op_eq_dictA hu0) (pv 8) (pv 11) (nomark _)) (pe_one (pe_cmpR (op_eqU (K := K) hu40) (pe_call F_l_total (hr.mono (by decide)) (by rfl) m_l_total k_l_total b_l_total .nil pass0 (pa_cons (pv 3) (pa_cons (pv 4) pa_nil))) (pv 13) (nomark _)))))))))))))))))))))), ?_⟩
    rw [show L2.start N_law [V.ref a] = [some (V.ref a), none, none, none, none, none, none, none, none, none, none, none, none, none, none, none, none] from rfl]
    (try dsimp only [cxOf, Cx.nox, Cx.wish])
    walk_at "h"
    refine use_dice ha hl fun p c H1 np D1 s1 => ?_
    walk_at "h"
    refine use_draw D1 (by decide) (by decide) fun r H2 r0 r1 D2 f2 => ?_
    walk_at "h"
    refine use_names D2 (by omega) (by omega) fun ys l0 H3 ly ny nl hl3 D3 f3 => ?_
    have nl0 : l0 ≠ p := fun e => by
      obtain ⟨_, h⟩ := D2.lst
      rw [e, h] at nl; cases nl
    walk_at "h"
    refine rd_cut (fun σ' H' => ∃ (xs : List Str) (l : Addr), σ' = [some (V.ref a), some (V.ref p), some (V.ref l), none, none, none, none, none, none, none, none, none, none, none, none, none, none] ∧
      1 ≤ xs.length ∧ xs.length ≤ 6 ∧ xs.Nodup ∧ (∀ z ∈ xs, NmOk z) ∧ H' l = some (.lst (xs.map V.str)) ∧ l ≠ p ∧ DiceAt H' p c) ?_ ?_
    · walk_at "h"
      refine use_draw D3 (by decide) (by decide) fun k H4 k0 k1 D4 f4 => ?_
      have hl4 := f4 _ _ nl0 hl3
      walk_at "h"
      refine ite2 (fun c1 => ?_) (fun c1 => ?_)
      · walk_at "h"
        refine ⟨sz_le (by simp only [List.length_cons, List.length_nil]; omega), fun u nu => ?_⟩
        have hl5 : upd H4 u (.lst [V.str "#"]) l0 = some (.lst (ys.map V.str)) := by rw [upd_ne (ne_of_none hl4 nu)]; exact hl4
        refine rd_addL hl5 upd_same (sz_le (by simp only [List.length_map, List.length_cons, List.length_nil]; omega)) fun v nv => ?_
        have D5 := D4.keep ((same_new (o := .lst [V.str "#"]) nu).trans (same_new (o := .lst (ys.map V.str ++ [V.str "#"])) nv))
        walk_at "h"
        refine ⟨ys ++ [("#" : Str)], v, rfl, by simp, by rw [List.length_append]; simp only [List.length_cons, List.length_nil]; omega, ?_, fun z hz => ?_, by rw [upd_same, List.map_append]; rfl, ?_, D5⟩
        · refine List.nodup_append.mpr ⟨ny.2.1, by simp, fun x hx y hy => ?_⟩
          rw [List.mem_singleton.mp hy]
          exact fun e => hash_low (e ▸ (ny.1 x hx).2.2)
        · rcases List.mem_append.mp hz with h | h
          · exact nm_low (ny.1 z h).2.2
          · rw [List.mem_singleton.mp h]; exact nm_hash
        · intro e
          obtain ⟨_, h⟩ := (D4.keep (same_new (o := .lst [V.str "#"]) nu)).lst
          rw [e, h] at nv; cases nv
      · walk_at "h"
        exact ⟨ys, l0, rfl, by omega, by omega, ny.2.1, fun z hz => nm_low (ny.1 z hz).2.2, hl4, nl0, D4⟩
    clear hl3 ny nl D3 f3 nl0 ly
    rintro σ' H4 ⟨xs, l, rfl, x1, x2, xn, xo, hl4, npl, D4⟩
    walk_at "h"
    refine use_sum D4 hl4 npl x1 (by omega) (by decide) (by decide) (by decide) (by decide) (by decide) (by decide) fun S0 t0 H5 sok0 nt0 kt0 D5 f5 => ?_
    have B5 : Bun K H5 p c l t0 xs S0 := ⟨D5, f5 _ _ npl hl4, kt0⟩
    walk_at "h"
    refine rd_cut (fun σ' H' => ∃ (S : Sm) (t : Addr), σ' = [some (V.ref a), some (V.ref p), some (V.ref l), some (V.ref t), none, none, none, none, none, none, none, none, none, none, none, none, none] ∧ TermsOk xs S ∧ S.length ≤ 6 ∧ Bun K H' p c l t xs S) ?_ ?_
    · walk_at "h"
      refine use_draw D5 (by decide) (by decide) fun k H6 k0 k1 D6 f6 => ?_
      have B6 := B5.fr f6 D6 npl
      walk_at "h"
      refine ite2 (fun c1 => ?_) (fun c1 => ?_)
      · walk_at "h"
        refine use_sum B6.D B6.L npl x1 (by omega) (by decide) (by decide) (by decide) (by decide) (by decide) (by decide) fun S t H7 sok nt kt D7 f7 => ?_
        walk_at "h"
        exact ⟨S, t, rfl, sok.terms (by decide) (by decide) (by decide), by have := sok.le; omega, D7, f7 _ _ npl B6.L, kt⟩
      · walk_at "h"
        exact ⟨S0, t0, rfl, sok0.terms (by decide) (by decide) (by decide), by have := sok0.le; omega, B6⟩
    clear B5 kt0 D5 f5 hl4 D4 sok0 nt0
    rintro σ' H5 ⟨S, t, rfl, tok, lS, B5⟩
    walk_at "h"
    intro d nd
    obtain ⟨dp, dc⟩ := B5.D.new nd
    have ndl : d ≠ l := fun e => by rw [e, B5.L] at nd; cases nd
    generalize hH6 : upd H5 d (.dK []) = H6
    have s6 : Same H5 H6 := by rw [← hH6]; exact same_new nd
    have hd : H6 d = some (.dK (tabV [])) := by rw [← hH6]; exact upd_same
    have B6 := B5.same s6
    clear B5
    walk_at "h"
    refine rd_leafL (sql B6.L) ?_
    refine for_list (xs := xs.map V.str) (fun i σ H' => ∃ (m : Tab) (v5 : Option V), σ = [some (V.ref a), some (V.ref p), some (V.ref l), some (V.ref t), some (V.ref d), v5, none, none, none, none, none, none, none, none, none, none, none] ∧
        NumOk m ∧ m.length ≤ i ∧ (∀ z ∈ xs.take i, z ∈ m.map (·.1)) ∧ H' d = some (.dK (tabV m)) ∧ Bun K H' p c l t xs S)
      ⟨[], none, rfl, ⟨by simp, List.nodup_nil, by decide⟩, Nat.le_refl _, by simp, hd, B6⟩ (fun i σ H' _ ⟨_, _, _, _, _, _, _, b⟩ => sql b.L) ?_ ?_
    · rintro i x σ H7 hx ⟨m, v5, rfl, nm, lm, km, hd7, B7⟩
      have hi : i < xs.length := by have := (List.getElem?_eq_some_iff.mp hx).1; rwa [List.length_map] at this
      rw [List.getElem?_map, List.getElem?_eq_getElem hi] at hx
      obtain rfl := Option.some.inj hx
      walk_at "h"
      refine use_number B7.D fun n H8 n1 n2 D8 f8 => ?_
      walk_at "h"
      have B8 := B7.fr f8 D8 npl
      refine rd_dputT (f8 _ _ dp hd7) (by omega) fun H9 hd9 f9 => ?_
      refine ⟨_, _, rfl, ⟨fun q hq => ?_, tput_nodup nm.nd, by have := tput_len m xs[i] n; omega⟩, by have := tput_len m xs[i] n; omega, fun z hz => tput_has ?_, hd9, B8.wr f9 ?_ dp dc ndl⟩
      · rcases mem_tput hq with r | r
        · exact nm.vl q r
        · rw [r]; exact ⟨n1, n2⟩
      · rw [← List.take_append_getElem hi] at hz
        rcases List.mem_append.mp hz with r | r
        · exact .inl (km z r)
        · exact .inr (List.mem_singleton.mp r)
      · exact tup_oth (f8 _ _ dp hd7) hd9 f9
    clear hd B6 s6 hH6 H6
    rintro σ' H6 ⟨m, v5, rfl, nm, lm, km, hd, B6⟩
    rw [List.length_map, List.take_length] at *
    walk_at "h"
    have x0 : 0 < xs.length := x1
    have hx0 : atI (xs.map V.str) 0 = some (.str xs[0]) := atI_nat (j := 0) (by rw [List.getElem?_map, List.getElem?_eq_getElem x0]; rfl)
    have mx0 : xs[0] ∈ xs := List.getElem_mem x0
    generalize xs[0] = z0 at hx0 mx0
    refine rd_cut (fun σ' H' => ∃ (S' : Sm) (t' : Addr) (m' : Tab) (v6 v7 : Option V), σ' = [some (V.ref a), some (V.ref p), some (V.ref l), some (V.ref t'), some (V.ref d), v5, v6, v7, none, none, none, none, none, none, none, none, none] ∧
      TermsOk xs S' ∧ NumOk m' ∧ (∀ z ∈ xs, z ∈ m'.map (·.1)) ∧ H' d = some (.dK (tabV m')) ∧ Bun K H' p c l t' xs S') ?_ ?_
    · walk_at "h"
      refine use_draw B6.D (by decide) (by decide) fun k H7 k0 k1 D7 f7 => ?_
      have B7 := B6.fr f7 D7 npl
      have hd7 := f7 _ _ dp hd
      walk_at "h"
      refine ite2 (fun c1 => ?_) (fun c1 => ?_)
      · walk_at "h"
        refine rd_ixl (sql B7.L) hx0 ?_
        walk_at "h"
        refine ⟨sz_le (by simp only [List.length_cons, List.length_nil]; omega), fun u nu => ?_⟩
        have B8 := B7.same (same_new (o := .lst [V.int 99, V.int 100, V.int 1000]) nu)
        have hu8 : upd H7 u (.lst [V.int 99, V.int 100, V.int 1000]) u = some (.lst [V.int 99, V.int 100, V.int 1000]) := upd_same
        have hd8 := same_new (o := .lst [V.int 99, V.int 100, V.int 1000]) nu _ _ hd7
        generalize upd H7 u (.lst [V.int 99, V.int 100, V.int 1000]) = H8 at hu8 B8 hd8 ⊢
        have up : u ≠ p := fun e => by
          obtain ⟨_, h⟩ := B7.D.lst
          rw [e, h] at nu; cases nu
        walk_at "h"
        refine use_draw B8.D (by decide) (by decide) fun j H9 j0 j1 D9 f9 => ?_
        have B9 := B8.fr f9 D9 npl
        have hd9 := f9 _ _ dp hd8
        obtain ⟨pw, epw, pw0, pw1⟩ : ∃ pw : Int, atI [V.int 99, V.int 100, V.int 1000] j = some (.int pw) ∧ 0 ≤ pw ∧ pw ≤ 1000 := by
          obtain rfl | rfl | rfl : j = 0 ∨ j = 1 ∨ j = 2 := by omega
          · exact ⟨99, rfl, by decide, by decide⟩
          · exact ⟨100, rfl, by decide, by decide⟩
          · exact ⟨1000, rfl, by decide, by decide⟩
        refine rd_ixl (sql (f9 _ _ up hu8)) epw ?_
        walk_at "h"
        refine ⟨sz_le (by simp only [List.length_cons, List.length_nil]; omega), fun v nv => ?_⟩
        walk_at "h"
        refine ⟨sz_le (by simp only [List.length_cons, List.length_nil]; omega), fun g ng => ?_⟩
        have s10 : Same H9 (upd (upd H9 v (.tup [V.str z0, V.int pw])) g (.tup [V.ref v])) := (same_new nv).trans (same_new ng)
        have vg : v ≠ g := fun e => by rw [← e, upd_same] at ng; cases ng
        have kg : IsK K (upd (upd H9 v (.tup [V.str z0, V.int pw])) g (.tup [V.ref v])) (prodK [(z0, pw)]) (.ref g) :=
          ⟨g, [.ref v], rfl, sqt upd_same, ⟨.ref v, [], rfl, ⟨v, [.str z0, .int pw], rfl, sqt (by rw [upd_ne vg, upd_same]), ⟨_, _, rfl, rfl, _, _, rfl, rfl, rfl⟩⟩, rfl⟩⟩
        generalize upd (upd H9 v (.tup [V.str z0, V.int pw])) g (.tup [V.ref v]) = H10 at s10 kg ⊢
        have B10 := B9.same s10
        have hd10 := s10 _ _ hd9
        walk_at "h"
        refine use_draw B10.D (by decide) (by decide) fun n H11 n0 n1 D11 f11 => ?_
        have B11 := B10.fr f11 D11 npl
        have hd11 := f11 _ _ dp hd10
        have kg11 := kg.keep (f11.tup B10.D.lst.choose_spec)
        walk_at "h"
        refine rd_ixl (sql B11.L) hx0 ?_
        refine rd_dputT hd11 (by omega) fun H12 hd12 f12 => ?_
        have tp12 : Tup K H11 H12 := tup_oth hd11 hd12 f12
        have B12 := B11.wr f12 tp12 dp dc ndl
        have kg12 := kg11.keep tp12
        have nm12 : NumOk (tput m z0 (1 + n)) := ⟨fun q hq => by
          rcases mem_tput hq with r | r
          · exact nm.vl q r
          · rw [r]; simp only; omega, tput_nodup nm.nd, by have := tput_len m z0 (1 + n); omega⟩
        have km12 : ∀ z ∈ xs, z ∈ (tput m z0 (1 + n)).map (·.1) := fun z hz => tput_has (.inl (km z hz))
        obtain ⟨_, vs, et, st, kv, nv'⟩ := sum_at B12.O
        obtain rfl := V.ref.inj et
        walk_at "h"
        let S1 := S.filter fun q => ltK (prodK q.2) (prodK [(z0, pw)])
        let S2 := S.filter fun q => ltK (prodK [(z0, pw)]) (prodK q.2)
        have l1 : S1.length ≤ 6 := Nat.le_trans (List.length_filter_le _ _) lS
        have l2 : S2.length ≤ 6 := Nat.le_trans (List.length_filter_le _ _) lS
        have dep : ∀ x : Tab, (prodK x).depth ≤ 30 := fun x => by have := prodK_depth x; omega
        refine rd_leafT st fun D nD => ?_
        refine lc_tupW (xs := vs) [some (V.ref a), some (V.ref p), some (V.ref l), some (V.ref t), some (V.ref d), v5, some (V.ref g), none, none, none, none, none, none, none, none, none, none] rfl
          (fun i H' => Same H12 H' ∧ ∃ ts : List V, H' D = some (.lst ts) ∧ ts.length ≤ i ∧ IsKs K H' (((S.take i).filter fun q => ltK (prodK q.2) (prodK [(z0, pw)])).map termK) ts) ⟨same_new nD, [], upd_same, Nat.le_refl _, rfl⟩ (fun i H' _ h => same_tup h.1 _ _ st) ?_ ?_
        · rintro i x H13 hx ⟨s13, ts, ht, lt, kt⟩
          have hi : i < S.length := by rw [← nv']; exact (List.getElem?_eq_some_iff.mp hx).1
          obtain ⟨x', ex, kx⟩ := IsKs.get (i := i) (k := termK S[i]) kv (by rw [List.getElem?_map, List.getElem?_eq_getElem hi]; rfl)
          obtain rfl : x = x' := Option.some.inj (hx.symm.trans ex)
          obtain ⟨e, u', rfl, su, ku⟩ := term_at kx
          have tp := same_tup (K := K) s13
          walk_at "h"
          refine ⟨rfl, ?_⟩
          walk_at "h"
          refine rd_ixt (tp _ _ su) rfl ?_
          walk_at "h"
          refine .inr ⟨_, _, ku.keep tp, kg12.keep tp, cmK_prod _ _, dep _, ?_⟩
          rw [filt_step _ S hi]
          walk_at "h"
          cases c2 : ltK (prodK S[i].2) (prodK [(z0, pw)]) with
          | false =>
            refine iteF ?_
            refine ⟨s13, ts, ht, by omega, ?_⟩
            simpa using kt
          | true =>
            refine iteT ?_
            walk_at "h"
            refine ⟨ts, ht, sz_lt (by omega), same_mut s13 nD, _, upd_same, by rw [List.length_append]; simp only [List.length_cons, List.length_nil]; omega, ?_⟩
            have tq : Tup K H13 (upd H13 D (.lst (ts ++ [V.ref e]))) := tup_upd (o := .lst ts) ht (fun _ z => nomatch z) (fun _ _ z => nomatch z)
            rw [if_pos rfl, List.map_append]
            exact IsKs.app (IsKs.keep tq _ _ kt) ⟨_, [], rfl, kx.keep (tp.trans tq), rfl⟩
        · rintro H13 ⟨s13, ts1, ht1, lt1, kt1⟩
          rw [nv', List.take_length] at kt1
          rw [nv'] at lt1
          walk_at "h"
          refine ⟨sz_le (by simp only [List.length_cons, List.length_nil]; omega), fun w1 nw1 => ?_⟩
          walk_at "h"
          refine ⟨sz_le (by simp only [List.length_cons, List.length_nil]; omega), fun w2 nw2 => ?_⟩
          have s14 : Same H13 (upd (upd H13 w1 (.tup [V.int 7, V.ref g])) w2 (.lst [V.ref w1])) := (same_new nw1).trans (same_new nw2)
          have w12 : w1 ≠ w2 := fun e => by rw [← e, upd_same] at nw2; cases nw2
          have hw2 : upd (upd H13 w1 (.tup [V.int 7, V.ref g])) w2 (.lst [V.ref w1]) w2 = some (.lst [V.ref w1]) := upd_same
          have hw1 : upd (upd H13 w1 (.tup [V.int 7, V.ref g])) w2 (.lst [V.ref w1]) w1 = some (.tup [V.int 7, V.ref g]) := by rw [upd_ne w12, upd_same]
          generalize upd (upd H13 w1 (.tup [V.int 7, V.ref g])) w2 (.lst [V.ref w1]) = H14 at s14 hw1 hw2 ⊢
          refine rd_addL (s14 _ _ ht1) hw2 (sz_le (by simp only [List.length_cons, List.length_nil]; omega)) fun w3 nw3 => ?_
          have s15 : Same H14 (upd H14 w3 (.lst (ts1 ++ [V.ref w1]))) := same_new nw3
          have hw3 : upd H14 w3 (.lst (ts1 ++ [V.ref w1])) w3 = some (.lst (ts1 ++ [V.ref w1])) := upd_same
          generalize upd H14 w3 (.lst (ts1 ++ [V.ref w1])) = H15 at s15 hw3 ⊢
          have s0 : Same H12 H15 := s13.trans (s14.trans s15)
          have kgm : IsK K H15 (termK (7, [(z0, pw)])) (.ref w1) := ⟨w1, _, rfl, sqt (s15 _ _ hw1), ⟨_, _, rfl, rfl, _, _, rfl, kg12.keep (same_tup s0), rfl⟩⟩
          have kt1' := IsKs.keep (same_tup (s14.trans s15)) _ _ kt1
          walk_at "h"
          refine rd_leafT (same_tup s0 _ _ st) fun D2 nD2 => ?_
          refine lc_tupW (xs := vs) [some (V.ref a), some (V.ref p), some (V.ref l), some (V.ref t), some (V.ref d), v5, some (V.ref g), none, none, none, none, none, none, none, none, none, none] rfl
            (fun i H' => Same H15 H' ∧ ∃ ts : List V, H' D2 = some (.lst ts) ∧ ts.length ≤ i ∧ IsKs K H' (((S.take i).filter fun q => ltK (prodK [(z0, pw)]) (prodK q.2)).map termK) ts) ⟨same_new nD2, [], upd_same, Nat.le_refl _, rfl⟩ (fun i H' _ h => same_tup (s0.trans h.1) _ _ st) ?_ ?_
          · rintro i x H16 hx ⟨s16, ts, ht, lt, kt⟩
            have hi : i < S.length := by rw [← nv']; exact (List.getElem?_eq_some_iff.mp hx).1
            obtain ⟨x', ex, kx⟩ := IsKs.get (i := i) (k := termK S[i]) kv (by rw [List.getElem?_map, List.getElem?_eq_getElem hi]; rfl)
            obtain rfl : x = x' := Option.some.inj (hx.symm.trans ex)
            obtain ⟨e, u', rfl, su, ku⟩ := term_at kx
            have tp := same_tup (K := K) (s0.trans s16)
            walk_at "h"
            refine ⟨rfl, ?_⟩
            walk_at "h"
            refine rd_ixt (tp _ _ su) rfl ?_
            walk_at "h"
            refine ⟨_, _, ku.keep tp, kg12.keep tp, cmK_prod _ _, dep _, ?_⟩
            rw [filt_step _ S hi]
            walk_at "h"
            cases c2 : ltK (prodK [(z0, pw)]) (prodK S[i].2) with
            | false =>
              refine iteF ?_
              refine ⟨s16, ts, ht, by omega, ?_⟩
              simpa using kt
            | true =>
              refine iteT ?_
              walk_at "h"
              refine ⟨ts, ht, sz_lt (by omega), same_mut s16 nD2, _, upd_same, by rw [List.length_append]; simp only [List.length_cons, List.length_nil]; omega, ?_⟩
              have tq : Tup K H16 (upd H16 D2 (.lst (ts ++ [V.ref e]))) := tup_upd (o := .lst ts) ht (fun _ z => nomatch z) (fun _ _ z => nomatch z)
              rw [if_pos rfl, List.map_append]
              exact IsKs.app (IsKs.keep tq _ _ kt) ⟨_, [], rfl, kx.keep (tp.trans tq), rfl⟩
          · rintro H16 ⟨s16, ts2, ht2, lt2, kt2⟩
            rw [nv', List.take_length] at kt2
            rw [nv'] at lt2
            refine rd_addL (s16 _ _ hw3) ht2 (sz_le (by rw [List.length_append]; simp only [List.length_cons, List.length_nil]; omega)) fun w4 nw4 => ?_
            have s17 : Same H16 (upd H16 w4 (.lst (ts1 ++ [V.ref w1] ++ ts2))) := same_new nw4
            have hw4 : upd H16 w4 (.lst (ts1 ++ [V.ref w1] ++ ts2)) w4 = some (.lst (ts1 ++ [V.ref w1] ++ ts2)) := upd_same
            generalize upd H16 w4 (.lst (ts1 ++ [V.ref w1] ++ ts2)) = H17 at s17 hw4 ⊢
            walk_at "h"
            refine rd_tupL (sql hw4) fun t2 nt2 => ?_
            have s18 : Same H17 (upd H17 t2 (.tup (ts1 ++ [V.ref w1] ++ ts2))) := same_new nt2
            have ht3 : upd H17 t2 (.tup (ts1 ++ [V.ref w1] ++ ts2)) t2 = some (.tup (ts1 ++ [V.ref w1] ++ ts2)) := upd_same
            generalize upd H17 t2 (.tup (ts1 ++ [V.ref w1] ++ ts2)) = H18 at s18 ht3 ⊢
            have sA : Same H15 H18 := s16.trans (s17.trans s18)
            have sB : Same H12 H18 := s0.trans sA
            have kS : IsK K H18 (sumK (S1 ++ [(7, [(z0, pw)])] ++ S2)) (.ref t2) := by
              refine ⟨t2, _, rfl, sqt ht3, ?_⟩
              rw [List.map_append, List.map_append]
              exact IsKs.app (IsKs.app (IsKs.keep (same_tup sA) _ _ kt1') ⟨_, [], rfl, kgm.keep (same_tup sA), rfl⟩) (IsKs.keep (same_tup (s17.trans s18)) _ _ kt2)
            walk_at "h"
            refine ⟨S1 ++ [(7, [(z0, pw)])] ++ S2, t2, _, some (V.ref g), none, rfl, ?_, nm12, km12, sB _ _ hd12, ⟨B12.D.keep sB, sB _ _ B12.L, kS⟩⟩
            have mem : ∀ q ∈ S1 ++ [(7, [(z0, pw)])] ++ S2, q ∈ S ∨ q = (7, [(z0, pw)]) := fun q hq => by
              rcases List.mem_append.mp hq with h | h
              · rcases List.mem_append.mp h with h | h
                · exact .inl (List.mem_filter.mp h).1
                · exact .inr (List.mem_singleton.mp h)
              · exact .inl (List.mem_filter.mp h).1
            refine ⟨by simp only [List.length_append, List.length_cons, List.length_nil]; omega, fun q hq => ?_, fun q hq r hr => ?_, fun q hq => ?_, fun q hq => ?_⟩
            · rcases mem q hq with h | h
              · exact tok.co q h
              · rw [h]; exact ⟨(by show (1 : Int) ≤ 7; decide), (by show (7 : Int).natAbs < 2 ^ 100; decide)⟩
            · rcases mem q hq with h | h
              · exact tok.nm q h r hr
              · rw [h] at hr
                rw [List.mem_singleton.mp hr]
                exact ⟨mx0, pw0⟩
            · rcases mem q hq with h | h
              · exact tok.dg q h
              · rw [h]; simp only [degP]; omega
            · rcases mem q hq with h | h
              · exact tok.pl q h
              · rw [h]; exact (by show 1 ≤ 1000; decide)
      · walk_at "h"
        exact ⟨S, t, m, none, none, rfl, tok, nm, km, hd7, B7⟩
    clear hd B6 km nm lm tok lS
    rintro σ' H6 ⟨S, t, m, v6, v7, rfl, tok, nm, km, hd, B6⟩
    walk_at "h"
    refine ⟨d, _, rfl, .inl hd, fun h nh => ?_⟩
    obtain ⟨hp, hc⟩ := B6.D.new nh
    have hnl : h ≠ l := fun e => by rw [e, B6.L] at nh; cases nh
    have hnd : h ≠ d := fun e => by rw [e, hd] at nh; cases nh
    have s7 : Same H6 (upd H6 h (.dK (tabV m))) := same_new nh
    have hh : upd H6 h (.dK (tabV m)) h = some (.dK (tabV m)) := upd_same
    generalize upd H6 h (.dK (tabV m)) = H7 at s7 hh ⊢
    have B7 := B6.same s7
    have hd7 := s7 _ _ hd
    clear hd B6 s7
    walk_at "h"
    refine rd_cut (fun σ' H' => ∃ (m2 : Tab) (v9 v10 : Option V), σ' = [some (V.ref a), some (V.ref p), some (V.ref l), some (V.ref t), some (V.ref d), v5, v6, v7, some (V.ref h), v9, v10, none, none, none, none, none, none] ∧
      SubT m2 m ∧ NumOk m2 ∧ H' d = some (.dK (tabV m)) ∧ H' h = some (.dK (tabV m2)) ∧ Bun K H' p c l t xs S) ?_ ?_
    · walk_at "h"
      refine use_draw B7.D (by decide) (by decide) fun k H8 k0 k1 D8 f8 => ?_
      have B8 := B7.fr f8 D8 npl
      walk_at "h"
      refine ite2 (fun c1 => ?_) (fun c1 => ?_)
      · walk_at "h"
        refine use_draw B8.D (by decide) (by decide) fun n H9 n0 n1 D9 f9 => ?_
        have B9 := B8.fr f9 D9 npl
        walk_at "h"
        refine rd_leafR (by omega) (by omega) ?_
        refine for_range (fun i σ H' => ∃ (m2 : Tab) (v9 v10 : Option V), σ = [some (V.ref a), some (V.ref p), some (V.ref l), some (V.ref t), some (V.ref d), v5, v6, v7, some (V.ref h), v9, v10, none, none, none, none, none, none] ∧
            SubT m2 m ∧ NumOk m2 ∧ H' d = some (.dK (tabV m)) ∧ H' h = some (.dK (tabV m2)) ∧ Bun K H' p c l t xs S)
          ⟨m, none, none, rfl, fun _ _ e => e, nm, (f8.trans f9) _ _ dp hd7, (f8.trans f9) _ _ hp hh, B9⟩ ?_ ?_
        · rintro i σ H10 hi ⟨m2, v9, v10, rfl, sb, nm2, hd10, hh10, B10⟩
          walk_at "h"
          refine rd_lenL (sql B10.L) ?_
          walk_at "h"
          refine use_draw B10.D (by rw [List.length_map]; omega) (by rw [List.length_map]; omega) fun j H11 j0 j1 D11 f11 => ?_
          have B11 := B10.fr f11 D11 npl
          rw [List.length_map] at j1
          have hj : j.toNat < xs.length := by omega
          have hx : atI (xs.map V.str) j = some (.str xs[j.toNat]) := by
            have := atI_nat (xs := xs.map V.str) (j := j.toNat) (v := .str xs[j.toNat]) (by rw [List.getElem?_map, List.getElem?_eq_getElem hj]; rfl)
            rwa [Int.toNat_of_nonneg j0] at this
          generalize xs[j.toNat] = z at hx
          refine rd_ixl (sql B11.L) hx ?_
          walk_at "h"
          have hd11 := f11 _ _ dp hd10
          have hh11 := f11 _ _ hp hh10
          refine rd_inD hh11 ?_
          walk_at "h"
          cases e : tget m2 z with
          | none =>
            refine iteF ?_
            walk_at "h"
            exact ⟨m2, _, _, rfl, sb, nm2, hd11, hh11, B11⟩
          | some n2 =>
            refine iteT ?_
            walk_at "h"
            refine ⟨.ref h, rfl, h, rfl, .inl ⟨_, .inl hh11⟩, .str z, rfl, tabV m2, Sum.inr z, .int n2, hh11, rfl, by rw [valV_tab, e]; rfl, ?_⟩
            rw [show dropK (tabV m2) (Sum.inr z) = tabV (tdrop m2 z) from dropK_enc Sum.inr (fun _ _ h => Sum.inr.inj h) m2 z]
            have f12 : ∀ b, b ≠ h → upd H11 h (.dK (tabV (tdrop m2 z))) b = H11 b := fun b hb => upd_ne hb
            have hh12 : upd H11 h (.dK (tabV (tdrop m2 z))) h = some (.dK (tabV (tdrop m2 z))) := upd_same
            generalize upd H11 h (.dK (tabV (tdrop m2 z))) = H12 at f12 hh12 ⊢
            refine ⟨tdrop m2 z, _, _, rfl, fun x n hx => ?_, ⟨fun q hq => nm2.vl q (mem_tdrop hq), tdrop_nodup nm2.nd, Nat.le_trans (tdrop_len m2 z) nm2.ln⟩, by rw [f12 _ hnd.symm]; exact hd11, hh12, B11.wr f12 (tup_oth hh11 hh12 f12) hp hc hnl⟩
            rw [tget_drop] at hx
            by_cases hz : x = z
            · rw [if_pos hz] at hx; cases hx
            · rw [if_neg hz] at hx; exact sb x n hx
        · rintro σ H10 ⟨m2, v9, v10, rfl, sb, nm2, hd10, hh10, B10⟩
          exact ⟨m2, v9, v10, rfl, sb, nm2, hd10, hh10, B10⟩
      · walk_at "h"
        exact ⟨m, none, none, rfl, fun _ _ e => e, nm, f8 _ _ dp hd7, f8 _ _ hp hh, B8⟩
    clear hh B7 hd7
    rintro σ' H8 ⟨m2, v9, v10, rfl, sb, nm2, hd, hh, B8⟩
    walk_at "h"
    refine ⟨h, _, rfl, .inl hh, fun k nk => ?_⟩
    have s9 : Same H8 (upd H8 k (.dK (tabV m2))) := same_new nk
    have hk : upd H8 k (.dK (tabV m2)) k = some (.dK (tabV m2)) := upd_same
    generalize upd H8 k (.dK (tabV m2)) = H9 at s9 hk ⊢
    have B9 := B8.same s9
    have hd9 := s9 _ _ hd
    have hh9 := s9 _ _ hh
    clear hd hh B8 s9
    obtain ⟨_, vs, et, st, kv, nv⟩ := sum_at B9.O
    obtain rfl := V.ref.inj et
    have kO := B9.O
    clear B9
    walk_at "h"
    have all : ∀ q ∈ S, lackOf m q.2 = none := fun q hq => lackOf_all fun r hr => tget_some.mpr (km _ (tok.nm q hq r hr).1)
    refine rd_leafT st ?_
    refine for_tup (xs := vs) (fun i σ H' => ∃ v7 v14 v15 v16 : Option V, σ = [some (V.ref a), some (V.ref p), some (V.ref l), some (V.ref t), some (V.ref d), v5, v6, v7, some (V.ref h), v9, v10, some (V.ref k), some (fo (lackS m2 (S.take i))), some (V.int (worthS m (S.take i))), v14, v15, v16] ∧ Same H9 H')
      ⟨v7, none, none, none, rfl, fun _ _ e => e⟩ (fun i σ H' _ ⟨_, _, _, _, _, s⟩ => same_tup s _ _ st) ?_ ?_
    · rintro i x σ H10 hx ⟨v7, v14, v15, v16, rfl, s10⟩
      have hi : i < S.length := by rw [← nv]; exact (List.getElem?_eq_some_iff.mp hx).1
      have mi : S[i] ∈ S := List.getElem_mem hi
      obtain ⟨x', ex, kx⟩ := IsKs.get (i := i) (k := termK S[i]) kv (by rw [List.getElem?_map, List.getElem?_eq_getElem hi]; rfl)
      obtain rfl : x = x' := Option.some.inj (hx.symm.trans ex)
      obtain ⟨e, u, rfl, su, ku⟩ := term_at kx
      have tp := same_tup (K := K) s10
      obtain ⟨_, us, eu, stu, kvu, nu⟩ := prod_at ku
      obtain rfl := V.ref.inj eu
      have co := tok.co _ mi
      have wbn := tok.wb nm mi
      have ln := all _ mi
      walk_at "h"
      refine rd_ixt (tp _ _ su) rfl ?_
      refine rd_leafT (tp _ _ stu) fun D nD => ?_
      refine lc_tupW (xs := us) [some (V.ref a), some (V.ref p), some (V.ref l), some (V.ref t), some (V.ref d), v5, v6, some (V.ref e), some (V.ref h), v9, v10, some (V.ref k), some (fo (lackS m2 (S.take i))), some (V.int (worthS m (S.take i))), none, v15, v16] rfl
        (fun j H' => Same H10 H' ∧ H' D = some (.lst ((lacks m2 (S[i].2.take j)).map V.str))) ⟨same_new nD, upd_same⟩ (fun j H' _ h => same_tup (s10.trans h.1) _ _ stu) ?_ ?_
      · rintro j y H11 hy ⟨s11, hD⟩
        have hj : j < S[i].2.length := by rw [← nu]; exact (List.getElem?_eq_some_iff.mp hy).1
        obtain ⟨b, rfl, sa⟩ := pair_get kvu hj hy
        have tq := same_tup (K := K) (s10.trans s11)
        walk_at "h"
        refine ⟨rfl, ?_⟩
        walk_at "h"
        refine rd_ixt (tq _ _ sa) rfl ?_
        walk_at "h"
        refine rd_ninD ((s10.trans s11) _ _ hh9) ?_
        rw [lacks_step m2 S[i].2 hj]
        walk_at "h"
        cases e2 : tget m2 S[i].2[j].1 with
        | some n =>
          refine iteNotT ?_
          refine ⟨s11, ?_⟩
          simpa using hD
        | none =>
          refine iteNotF ?_
          walk_at "h"
          refine rd_ixt (tq _ _ sa) rfl ?_
          refine ⟨_, hD, sz_lt (by rw [List.length_map]; have := List.length_filter_le (fun z => (tget m2 z).isNone) ((S[i].2.take j).map (·.1)); rw [List.length_map, List.length_take] at this; unfold lacks; have := tok.pl _ mi; omega), same_mut s11 nD, ?_⟩
          rw [upd_same]
          simp
      · rintro H11 ⟨s11, hD⟩
        rw [nu, List.take_length] at hD
        have s9 := s10.trans s11
        have tq := same_tup (K := K) s9
        walk_at "h"
        refine rd_ixt (tq _ _ su) rfl ?_
        walk_at "h"
        refine use_lvalue (ku.keep tq) (s9 _ _ hh9) (tok.wb nm2 mi) (fun l0 => ?_) fun z ez u2 H12 s12 hu2 => ?_
        · have hD : H11 D = some (.lst []) := by
            rw [lackOf_head, List.head?_eq_none_iff] at l0
            rw [l0] at hD; exact hD
          have el : lackS m2 (S.take (i + 1)) = lackS m2 (S.take i) := by rw [lackS_step m2 S hi, l0, Option.or_none]
          rw [sb.worth l0]
          walk_at "h"
          refine rd_cut (fun σ' H' => σ' = [some (V.ref a), some (V.ref p), some (V.ref l), some (V.ref t), some (V.ref d), v5, v6, some (V.ref e), some (V.ref h), v9, v10, some (V.ref k), some (fo (lackS m2 (S.take i))), some (V.int (worthS m (S.take i))), v14, some (V.ref D), some (V.int (worthP m S[i].2))] ∧ H' = H11) ?_ ?_
          · walk_at "h"
            refine rd_lenL (sql hD) ?_
            walk_at "h"
            refine ite2 (fun c => absurd (of_decide_eq_true c) (by simp)) (fun _ => ?_)
            walk_at "h"
            refine use_isInt ?_
            walk_at "h"
            refine rd_ixt (tq _ _ su) rfl ?_
            walk_at "h"
            refine use_worth (ku.keep tq) (s9 _ _ hd9) wbn ln ?_
            refine rd_neI ?_
            walk_at "h"
            exact ⟨rfl, rfl⟩
          · rintro σ' H' ⟨rfl, rfl⟩
            walk_at "h"
            refine rd_ixt (tq _ _ su) rfl ?_
            walk_at "h"
            refine rd_ixt (tq _ _ su) rfl ?_
            walk_at "h"
            refine use_worth (ku.keep tq) (s9 _ _ hd9) wbn ln ?_
            refine rd_I (wide_mul co.2 (lt_pow1 (worthP_le wbn.lt)) (by omega) (by omega) (by have := wbn.dg; omega)) ?_
            walk_at "h"
            exact ⟨_, _, _, _, by rw [worthS_step m S hi, el], s9⟩
        · obtain ⟨rest, er⟩ : ∃ rest, lacks m2 S[i].2 = z :: rest := by
            rw [lackOf_head, List.head?_eq_some_iff] at ez
            exact ez
          have zo : NmOk z := by
            obtain ⟨r, hr, rfl⟩ := lack_mem ez
            exact xo _ (tok.nm _ mi r hr).1
          rw [er] at hD
          have hD12 : H12 D = some (.lst ((z :: rest).map V.str)) := s12 _ _ hD
          have hz0 : atI ((z :: rest).map V.str) 0 = some (.str z) := atI_nat (j := 0) rfl
          have s13 := s9.trans s12
          have tr := same_tup (K := K) s13
          walk_at "h"
          refine rd_cut (fun σ' H' => σ' = [some (V.ref a), some (V.ref p), some (V.ref l), some (V.ref t), some (V.ref d), v5, v6, some (V.ref e), some (V.ref h), v9, v10, some (V.ref k), some (fo (lackS m2 (S.take (i + 1)))), some (V.int (worthS m (S.take i))), v14, some (V.ref D), some (V.ref u2)] ∧ Same H12 H') ?_ ?_
          · walk_at "h"
            refine rd_lenL (sql hD12) ?_
            walk_at "h"
            refine ite2 (fun _ => ?_) (fun c => absurd (decide_eq_true (by simp)) c)
            walk_at "h"
            refine rd_ixl (sql hD12) hz0 ?_
            walk_at "h"
            refine ⟨sz_le (by simp only [List.length_cons, List.length_nil]; omega), fun w nw => ?_⟩
            have sw : Same H12 (upd H12 w (.tup [V.str z])) := same_new nw
            refine rd_neT (sqt (sw _ _ hu2)) (sqt upd_same) zo ?_
            walk_at "h"
            refine ⟨rfl, ?_⟩
            have el : lackS m2 (S.take (i + 1)) = (lackS m2 (S.take i)).or (some z) := by rw [lackS_step m2 S hi, ez]
            rw [el]
            cases lackS m2 (S.take i) with
            | none =>
              walk_at "h"
              refine iteT ?_
              walk_at "h"
              refine rd_ixl (sql (sw _ _ hD12)) hz0 ?_
              walk_at "h"
              exact ⟨rfl, sw⟩
            | some y =>
              walk_at "h"
              refine iteF ?_
              walk_at "h"
              exact ⟨rfl, sw⟩
          · rintro σ' H13 ⟨rfl, s14⟩
            have s15 := s13.trans s14
            have tx := same_tup (K := K) s15
            walk_at "h"
            refine rd_ixt (tx _ _ su) rfl ?_
            walk_at "h"
            refine rd_ixt (tx _ _ su) rfl ?_
            walk_at "h"
            refine use_worth (ku.keep tx) (s15 _ _ hd9) wbn ln ?_
            refine rd_I (wide_mul co.2 (lt_pow1 (worthP_le wbn.lt)) (by omega) (by omega) (by have := wbn.dg; omega)) ?_
            walk_at "h"
            exact ⟨_, _, _, _, by rw [worthS_step m S hi], s15⟩
    · rintro σ H10 ⟨v7, v14, v15, v16, rfl, s10⟩
      rw [nv, List.take_length]
      have t10 := same_tup (K := K) s10
      have lS := tok.ln
      have allS : lackS m S = none := lackS_all fun q hq r hr => tget_some.mpr (km _ (tok.nm q hq r hr).1)
      walk_at "h"
      refine use_ltotal (kO.keep t10) (s10 _ _ hh9) (tok.sb nm2) (by omega) (fun l0 H11 s11 => ?_) fun z ez u H11 s11 hu2 => ?_
      · have s12 := s10.trans s11
        rw [l0, sb.worthS l0]
        walk_at "h"
        refine rd_cut (fun σ' H' => σ' = [some (V.ref a), some (V.ref p), some (V.ref l), some (V.ref t), some (V.ref d), v5, v6, v7, some (V.ref h), v9, v10, some (V.ref k), some V.non, some (V.int (worthS m S)), v14, v15, some (V.int (worthS m S))] ∧ H' = H11) ?_ ?_
        · walk_at "h"
          refine ⟨rfl, ?_⟩
          walk_at "h"
          refine iteNotT ?_
          walk_at "h"
          refine use_isInt ?_
          walk_at "h"
          refine rd_neI ?_
          walk_at "h"
          exact ⟨rfl, rfl⟩
        · rintro σ' H' ⟨rfl, rfl⟩
          walk_at "h"
          refine ⟨h, k, tabV m2, tabV m2, rfl, rfl, s12 _ _ hh9, s12 _ _ hk, rfl, tab_same nm2.nd, ?_⟩
          walk_at "h"
          refine use_ltotal (kO.keep (same_tup s12)) (s12 _ _ hd9) (tok.sb nm) (by omega) (fun _ H13 s13 => ?_) fun z ez => absurd (ez.symm.trans allS) (by simp)
          walk_at "h"
          rw [decide_eq_true rfl]
          exact q H13
      · have s12 := s10.trans s11
        rw [ez]
        have zo : NmOk z := by
          obtain ⟨q, hq, r, hr, rfl⟩ := lackS_mem ez
          exact xo _ (tok.nm q hq r hr).1
        walk_at "h"
        refine rd_cut (fun σ' H' => σ' = [some (V.ref a), some (V.ref p), some (V.ref l), some (V.ref t), some (V.ref d), v5, v6, v7, some (V.ref h), v9, v10, some (V.ref k), some (V.str z), some (V.int (worthS m S)), v14, v15, some (V.ref u)] ∧ Same H11 H') ?_ ?_
        · walk_at "h"
          refine ⟨rfl, ?_⟩
          walk_at "h"
          refine iteNotF ?_
          walk_at "h"
          refine ⟨sz_le (by simp only [List.length_cons, List.length_nil]; omega), fun w nw => ?_⟩
          have sw : Same H11 (upd H11 w (.tup [V.str z])) := same_new nw
          refine rd_neT (sqt (sw _ _ hu2)) (sqt upd_same) zo ?_
          walk_at "h"
          exact ⟨rfl, sw⟩
        · rintro σ' H' ⟨rfl, s14⟩
          have s15 := s12.trans s14
          walk_at "h"
          refine ⟨h, k, tabV m2, tabV m2, rfl, rfl, s15 _ _ hh9, s15 _ _ hk, rfl, tab_same nm2.nd, ?_⟩
          walk_at "h"
          refine use_ltotal (kO.keep (same_tup s15)) (s15 _ _ hd9) (tok.sb nm) (by omega) (fun _ H16 s16 => ?_) fun z ez => absurd (ez.symm.trans allS) (by simp)
          walk_at "h"
          rw [decide_eq_true rfl]
          exact q H16
end
end K03
namespace K03
open PySem PySem.Spec PyProof.Rows L2 HH
theorem all_mk {l : PySem.W.OpenLaw} {w : World} {K : PySem.W.Frag} {h : Heap} {mg : Str → Option Value} {fa : Addr} (X : K.In h) (G : h.Ns mainGlobals mg) (hfa : mg "law" = some (.ref fa))
    {f0 f1 f2 f3 f4 f5 f6 f7 f8 f9 f10 f11 f12 f13 f14 : Addr} {od0 an0 od1 an1 od2 an2 od3 an3 od4 an4 od5 an5 od6 an6 od7 an7 od8 an8 od9 an9 od10 an10 od11 an11 od12 an12 od13 an13 od14 an14 : Option Addr} {sl0 sl1 sl2 sl3 sl4 sl5 sl6 sl7 sl8 sl9 sl10 sl11 sl12 sl13 sl14 : Array (Option Value)} {oc0 kV0 dc0 pm0 cd0 ct0 oc1 kV1 dc1 pm1 cd1 ct1 oc2 kV2 dc2 pm2 cd2 ct2 oc3 kV3 dc3 pm3 cd3 ct3 oc4 kV4 dc4 pm4 cd4 ct4 oc5 kV5 dc5 pm5 cd5 ct5 oc6 kV6 dc6 pm6 cd6 ct6 oc7 kV7 dc7 pm7 cd7 ct7 oc8 kV8 dc8 pm8 cd8 ct8 oc9 kV9 dc9 pm9 cd9 ct9 oc10 kV10 dc10 pm10 cd10 ct10 oc11 kV11 dc11 pm11 cd11 ct11 oc12 kV12 dc12 pm12 cd12 ct12 oc13 kV13 dc13 pm13 cd13 ct13 oc14 kV14 dc14 pm14 cd14 ct14 : Value}
    {C CH fi N : Addr} {nm q : Str} {bs bm : List Value} {sn : List Str} {sub : List Value} {ab : Bool} {col : Option Bool} {dd odi ani : Option Addr} {m0 m1 m2 m3 m5 : Option Value} {oci kVi dci pmi cdi cti : Value} {sli : Array (Option Value)}
    (eC : PySem.W.nsIn K mainGlobals "NoName" = some (some (.ref C))) (eH : PySem.W.nsIn K mainGlobals "HighError" = some (some (.ref CH))) (xL : K.lookup C = some (excClassObj nm q C N bs bm true sn sub ab col dd m0 m1 m2 m3 m5 "ValueError.__new__")) (xR : PySem.HandSPX.refsVE bm = true)
    (sa : PySem.W.findIn K (.ref C) "__setattr__" = some (some (.builtin "object.__setattr__"))) (ga : PySem.W.findIn K (.ref C) "__getattribute__" = some (some (.builtin "BaseException.__getattribute__"))) (gg : PySem.W.findIn K (.ref C) "__getattr__" = some none) (nb : PySem.W.findIn K (.ref C) "name" = some none)
    (ai : PySem.W.findIn K (.ref C) "__init__" = some (some (.ref fi))) (ti : PySem.W.typeIn K (.ref fi) = some (.type "function"))
    (li : K.lookup fi = some ⟨oci, odi, .func (PySem.W.fnOf "__init__" "NoName.__init__" (defArgs s_NoName___init__) (defBody s_NoName___init__) (defScope s_NoName___init__) .none kVi dci pmi ani cdi cti), sli⟩) (ci : PySem.W.codeIn K cdi "NoName.__init__" = true) (ki : PySem.W.keepIn K (.ref fi) = true)
    (kC : PySem.W.keepIn K (.ref C) = true) (xC : PySem.W.subIn K (.ref C) (.type "BaseException") = some true) (tC : PySem.W.typeIn K (.ref C) = some (.type "type")) (hC : PySem.W.hasDictIn K C = true)
    (at_ : PySem.W.findIn K (.ref C) "__class__" = some (some (.builtin "object.__class__"))) (gt : PySem.W.specialIn K (.builtin "object.__class__") "__get__" = some (some (.builtin "getset_descriptor.__get__"))) (tk : PySem.W.takesIn K (.builtin "object.__class__") = some true) (mr : PySem.W.mroIn K C (.type "object") = some true)
    (xH : PySem.W.subIn K (.ref CH) (.type "BaseException") = some true) (tH : PySem.W.typeIn K (.ref CH) = some (.type "type")) (hH : PySem.W.hasDictIn K CH = true) (sH : PySem.W.subIn K (.ref C) (.ref CH) = some true)
    (kN : PySem.W.kitOne K (.ref C) (.ref C) = some true) (kE : PySem.W.kitOne K (.ref C) (.type "ValueError") = some true) (zs : PySem.W.nsIn K mainGlobals "sum" = some none) (zV : PySem.W.nsIn K mainGlobals "ValueError" = some none)
    (a0 : PySem.W.nsIn K mainGlobals "raised" = some (some (.ref f0))) (l0 : K.lookup f0 = some ⟨oc0, od0, .func (PySem.W.fnOf "raised" "raised" (defArgs s_raised) (defBody s_raised) (defScope s_raised) .none kV0 dc0 pm0 an0 cd0 ct0), sl0⟩) (c0 : PySem.W.codeIn K cd0 "raised" = true) (k0 : PySem.W.keepIn K (.ref f0) = true)
    (a1 : PySem.W.nsIn K mainGlobals "value" = some (some (.ref f1))) (l1 : K.lookup f1 = some ⟨oc1, od1, .func (PySem.W.fnOf "value" "value" (defArgs s_value) (defBody s_value) (defScope s_value) .none kV1 dc1 pm1 an1 cd1 ct1), sl1⟩) (c1 : PySem.W.codeIn K cd1 "value" = true) (k1 : PySem.W.keepIn K (.ref f1) = true)
    (a2 : PySem.W.nsIn K mainGlobals "total" = some (some (.ref f2))) (l2 : K.lookup f2 = some ⟨oc2, od2, .func (PySem.W.fnOf "total" "total" (defArgs s_total) (defBody s_total) (defScope s_total) .none kV2 dc2 pm2 an2 cd2 ct2), sl2⟩) (c2 : PySem.W.codeIn K cd2 "total" = true) (k2 : PySem.W.keepIn K (.ref f2) = true)
    (a3 : PySem.W.nsIn K mainGlobals "_law_dice" = some (some (.ref f3))) (l3 : K.lookup f3 = some ⟨oc3, od3, .func (PySem.W.fnOf "_law_dice" "_law_dice" (defArgs s_l_dice) (defBody s_l_dice) (defScope s_l_dice) .none kV3 dc3 pm3 an3 cd3 ct3), sl3⟩) (c3 : PySem.W.codeIn K cd3 "_law_dice" = true) (k3 : PySem.W.keepIn K (.ref f3) = true)
    (a4 : PySem.W.nsIn K mainGlobals "_law_draw" = some (some (.ref f4))) (l4 : K.lookup f4 = some ⟨oc4, od4, .func (PySem.W.fnOf "_law_draw" "_law_draw" (defArgs s_l_draw) (defBody s_l_draw) (defScope s_l_draw) .none kV4 dc4 pm4 an4 cd4 ct4), sl4⟩) (c4 : PySem.W.codeIn K cd4 "_law_draw" = true) (k4 : PySem.W.keepIn K (.ref f4) = true)
    (a5 : PySem.W.nsIn K mainGlobals "_law_word" = some (some (.ref f5))) (l5 : K.lookup f5 = some ⟨oc5, od5, .func (PySem.W.fnOf "_law_word" "_law_word" (defArgs s_l_word) (defBody s_l_word) (defScope s_l_word) .none kV5 dc5 pm5 an5 cd5 ct5), sl5⟩) (c5 : PySem.W.codeIn K cd5 "_law_word" = true) (k5 : PySem.W.keepIn K (.ref f5) = true)
    (a6 : PySem.W.nsIn K mainGlobals "_law_names" = some (some (.ref f6))) (l6 : K.lookup f6 = some ⟨oc6, od6, .func (PySem.W.fnOf "_law_names" "_law_names" (defArgs s_l_names) (defBody s_l_names) (defScope s_l_names) .none kV6 dc6 pm6 an6 cd6 ct6), sl6⟩) (c6 : PySem.W.codeIn K cd6 "_law_names" = true) (k6 : PySem.W.keepIn K (.ref f6) = true)
    (a7 : PySem.W.nsIn K mainGlobals "_law_product" = some (some (.ref f7))) (l7 : K.lookup f7 = some ⟨oc7, od7, .func (PySem.W.fnOf "_law_product" "_law_product" (defArgs s_l_product) (defBody s_l_product) (defScope s_l_product) .none kV7 dc7 pm7 an7 cd7 ct7), sl7⟩) (c7 : PySem.W.codeIn K cd7 "_law_product" = true) (k7 : PySem.W.keepIn K (.ref f7) = true)
    (a8 : PySem.W.nsIn K mainGlobals "_law_sum" = some (some (.ref f8))) (l8 : K.lookup f8 = some ⟨oc8, od8, .func (PySem.W.fnOf "_law_sum" "_law_sum" (defArgs s_l_sum) (defBody s_l_sum) (defScope s_l_sum) .none kV8 dc8 pm8 an8 cd8 ct8), sl8⟩) (c8 : PySem.W.codeIn K cd8 "_law_sum" = true) (k8 : PySem.W.keepIn K (.ref f8) = true)
    (a9 : PySem.W.nsIn K mainGlobals "_law_is_integer" = some (some (.ref f9))) (l9 : K.lookup f9 = some ⟨oc9, od9, .func (PySem.W.fnOf "_law_is_integer" "_law_is_integer" (defArgs s_l_is_integer) (defBody s_l_is_integer) (defScope s_l_is_integer) .none kV9 dc9 pm9 an9 cd9 ct9), sl9⟩) (c9 : PySem.W.codeIn K cd9 "_law_is_integer" = true) (k9 : PySem.W.keepIn K (.ref f9) = true)
    (a10 : PySem.W.nsIn K mainGlobals "_law_worth" = some (some (.ref f10))) (l10 : K.lookup f10 = some ⟨oc10, od10, .func (PySem.W.fnOf "_law_worth" "_law_worth" (defArgs s_l_worth) (defBody s_l_worth) (defScope s_l_worth) .none kV10 dc10 pm10 an10 cd10 ct10), sl10⟩) (c10 : PySem.W.codeIn K cd10 "_law_worth" = true) (k10 : PySem.W.keepIn K (.ref f10) = true)
    (a11 : PySem.W.nsIn K mainGlobals "_law_value" = some (some (.ref f11))) (l11 : K.lookup f11 = some ⟨oc11, od11, .func (PySem.W.fnOf "_law_value" "_law_value" (defArgs s_l_value) (defBody s_l_value) (defScope s_l_value) .none kV11 dc11 pm11 an11 cd11 ct11), sl11⟩) (c11 : PySem.W.codeIn K cd11 "_law_value" = true) (k11 : PySem.W.keepIn K (.ref f11) = true)
    (a12 : PySem.W.nsIn K mainGlobals "_law_total" = some (some (.ref f12))) (l12 : K.lookup f12 = some ⟨oc12, od12, .func (PySem.W.fnOf "_law_total" "_law_total" (defArgs s_l_total) (defBody s_l_total) (defScope s_l_total) .none kV12 dc12 pm12 an12 cd12 ct12), sl12⟩) (c12 : PySem.W.codeIn K cd12 "_law_total" = true) (k12 : PySem.W.keepIn K (.ref f12) = true)
    (a13 : PySem.W.nsIn K mainGlobals "_law_number" = some (some (.ref f13))) (l13 : K.lookup f13 = some ⟨oc13, od13, .func (PySem.W.fnOf "_law_number" "_law_number" (defArgs s_l_number) (defBody s_l_number) (defScope s_l_number) .none kV13 dc13 pm13 an13 cd13 ct13), sl13⟩) (c13 : PySem.W.codeIn K cd13 "_law_number" = true) (k13 : PySem.W.keepIn K (.ref f13) = true)
    (a14 : PySem.W.nsIn K mainGlobals "law" = some (some (.ref f14))) (l14 : K.lookup f14 = some ⟨oc14, od14, .func (PySem.W.fnOf "law" "law" (defArgs s_law) (defBody s_law) (defScope s_law) .none kV14 dc14 pm14 an14 cd14 ct14), sl14⟩) (c14 : PySem.W.codeIn K cd14 "law" = true) (k14 : PySem.W.keepIn K (.ref f14) = true)
    (z0 : PySem.W.nsIn K mainGlobals "len" = some none)
    (z1 : PySem.W.nsIn K mainGlobals "int" = some none)
    (z2 : PySem.W.nsIn K mainGlobals "abs" = some none)
    (z3 : PySem.W.nsIn K mainGlobals "range" = some none)
    (z4 : PySem.W.nsIn K mainGlobals "sorted" = some none)
    (z5 : PySem.W.nsIn K mainGlobals "tuple" = some none)
    (z6 : PySem.W.nsIn K mainGlobals "list" = some none)
    (z7 : PySem.W.nsIn K mainGlobals "all" = some none)
    (z8 : PySem.W.nsIn K mainGlobals "any" = some none)
    (z9 : PySem.W.nsIn K mainGlobals "isinstance" = some none)
    (z10 : PySem.W.nsIn K mainGlobals "bool" = some none)
    (z11 : PySem.W.nsIn K mainGlobals "str" = some none)
    (z12 : PySem.W.nsIn K mainGlobals "dict" = some none) :
    ∃ fd : FuncData, (∀ (s : Shared) (v : Value), BindsTo s fd ⟨[v], []⟩ [("_law_script", v)]) ∧ ∀ base : Heap, K.In base → base.Ns mainGlobals mg → FnOk l.prog w K mg base CX0 6 fa fd ["_law_script"] (spLaw K) := by
  have e := hfa.symm.trans (PySem.W.mg_of X G a14)
  cases e
  have T : Bi mg := ⟨PySem.W.mg_none_of X G z0, PySem.W.mg_none_of X G z1, PySem.W.mg_none_of X G z2, PySem.W.mg_none_of X G z3, PySem.W.mg_none_of X G z4, PySem.W.mg_none_of X G z5, PySem.W.mg_none_of X G z6, PySem.W.mg_none_of X G z7, PySem.W.mg_none_of X G z8, PySem.W.mg_none_of X G z9, PySem.W.mg_none_of X G z10, PySem.W.mg_none_of X G z11, PySem.W.mg_none_of X G z12⟩
  have F_raised := fun_mk (st := s_raised) l0 c0 k0
  have B_raised := F_raised.binds (ps := ["number", "power"]) fun _ _ _ _ _ _ us hl => match us, hl with | [_, _], _ => rfl
  have F_value := fun_mk (st := s_value) l1 c1 k1
  have B_value := F_value.binds (ps := ["product", "numbers"]) fun _ _ _ _ _ _ us hl => match us, hl with | [_, _], _ => rfl
  have F_total := fun_mk (st := s_total) l2 c2 k2
  have B_total := F_total.binds (ps := ["terms", "numbers"]) fun _ _ _ _ _ _ us hl => match us, hl with | [_, _], _ => rfl
  have F_l_dice := fun_mk (st := s_l_dice) l3 c3 k3
  have B_l_dice := F_l_dice.binds (ps := ["_law_script"]) fun _ _ _ _ _ _ us hl => match us, hl with | [_], _ => rfl
  have F_l_draw := fun_mk (st := s_l_draw) l4 c4 k4
  have B_l_draw := F_l_draw.binds (ps := ["_law_dice_here", "_law_many"]) fun _ _ _ _ _ _ us hl => match us, hl with | [_, _], _ => rfl
  have F_l_word := fun_mk (st := s_l_word) l5 c5 k5
  have B_l_word := F_l_word.binds (ps := ["_law_dice_here", "_law_most"]) fun _ _ _ _ _ _ us hl => match us, hl with | [_, _], _ => rfl
  have F_l_names := fun_mk (st := s_l_names) l6 c6 k6
  have B_l_names := F_l_names.binds (ps := ["_law_dice_here", "_law_many"]) fun _ _ _ _ _ _ us hl => match us, hl with | [_, _], _ => rfl
  have F_l_product := fun_mk (st := s_l_product) l7 c7 k7
  have B_l_product := F_l_product.binds (ps := ["_law_dice_here", "_law_names_here", "_law_most"]) fun _ _ _ _ _ _ us hl => match us, hl with | [_, _, _], _ => rfl
  have F_l_sum := fun_mk (st := s_l_sum) l8 c8 k8
  have B_l_sum := F_l_sum.binds (ps := ["_law_dice_here", "_law_names_here", "_law_terms", "_law_most", "_law_top"]) fun _ _ _ _ _ _ us hl => match us, hl with | [_, _, _, _, _], _ => rfl
  have F_l_is_integer := fun_mk (st := s_l_is_integer) l9 c9 k9
  have B_l_is_integer := F_l_is_integer.binds (ps := ["_law_thing"]) fun _ _ _ _ _ _ us hl => match us, hl with | [_], _ => rfl
  have F_l_worth := fun_mk (st := s_l_worth) l10 c10 k10
  have B_l_worth := F_l_worth.binds (ps := ["_law_product_here", "_law_numbers"]) fun _ _ _ _ _ _ us hl => match us, hl with | [_, _], _ => rfl
  have F_l_value := fun_mk (st := s_l_value) l11 c11 k11
  have B_l_value := F_l_value.binds (ps := ["_law_product_here", "_law_numbers"]) fun _ _ _ _ _ _ us hl => match us, hl with | [_, _], _ => rfl
  have F_l_total := fun_mk (st := s_l_total) l12 c12 k12
  have B_l_total := F_l_total.binds (ps := ["_law_terms", "_law_numbers"]) fun _ _ _ _ _ _ us hl => match us, hl with | [_, _], _ => rfl
  have F_l_number := fun_mk (st := s_l_number) l13 c13 k13
  have B_l_number := F_l_number.binds (ps := ["_law_dice_here"]) fun _ _ _ _ _ _ us hl => match us, hl with | [_], _ => rfl
  have F_law := fun_mk (st := s_law) l14 c14 k14
  have ox : OexC K C := ⟨⟨nm, q, N, bs, bm, sn, sub, ab, col, dd, m0, m1, m2, m3, m5, xL, xR⟩, sa, xC, tC, kC⟩
  have E : ErrC K mg "NoName" "name" C fi := ⟨ox, PySem.W.mg_of X G eC, ai, ti, nb, ⟨ga, gg, xC, hC⟩, at_, gt, tk, mr⟩
  have F_init := fun_mk (st := s_NoName___init__) li ci ki
  have B_init := F_init.binds (ps := ["self", "name"]) fun _ _ _ _ _ _ us hl => match us, hl with | [_, _], _ => rfl
  have ER : Errs K mg C CH := ⟨PySem.W.mg_of X G eC, PySem.W.mg_of X G eH, PySem.W.mg_none_of X G zV, PySem.W.exm_ref xH hH tH sH, kN, kE⟩
  refine ⟨PySem.W.fnOf "law" "law" (defArgs s_law) (defBody s_law) (defScope s_law) .none kV14 dc14 pm14 an14 cd14 ct14, fun s v => .of_eq rfl, fun base _ _ => ?_⟩
  have X_NoName : ErrAt l.prog w K mg base "NoName" "name" C := ⟨fi, _, E, ok_init F_init ox nb, B_init⟩
  have G_l_dice : Callee l.prog w K mg base 1 "_law_dice" ["_law_script"] (spDice K) := ⟨_, _, ok_dice F_l_dice T, PySem.W.mg_of X G a3, F_l_dice.kp, B_l_dice⟩
  have G_l_draw : Callee l.prog w K mg base 1 "_law_draw" ["_law_dice_here", "_law_many"] spDraw := ⟨_, _, ok_draw F_l_draw T, PySem.W.mg_of X G a4, F_l_draw.kp, B_l_draw⟩
  have G_l_word : Callee l.prog w K mg base 2 "_law_word" ["_law_dice_here", "_law_most"] spWord := ⟨_, _, ok_word F_l_word T G_l_draw, PySem.W.mg_of X G a5, F_l_word.kp, B_l_word⟩
  have G_l_names : Callee l.prog w K mg base 3 "_law_names" ["_law_dice_here", "_law_many"] spNames := ⟨_, _, ok_names F_l_names T G_l_draw G_l_word, PySem.W.mg_of X G a6, F_l_names.kp, B_l_names⟩
  have G_l_product : Callee l.prog w K mg base 2 "_law_product" ["_law_dice_here", "_law_names_here", "_law_most"] (spProduct K) := ⟨_, _, ok_product F_l_product T G_l_draw, PySem.W.mg_of X G a7, F_l_product.kp, B_l_product⟩
  have G_l_sum : Callee l.prog w K mg base 3 "_law_sum" ["_law_dice_here", "_law_names_here", "_law_terms", "_law_most", "_law_top"] (spSum K) := ⟨_, _, ok_sum F_l_sum T G_l_draw G_l_product, PySem.W.mg_of X G a8, F_l_sum.kp, B_l_sum⟩
  have G_raised : Callee l.prog w K mg base 1 "raised" ["number", "power"] spRaised := ⟨_, _, ok_raised F_raised T, PySem.W.mg_of X G a0, F_raised.kp, B_raised⟩
  have G_value : CalleeX l.prog w K mg base 3 "value" ["product", "numbers"] (spValue K C) := ⟨_, _, ok_value F_value T X_NoName G_raised, PySem.W.mg_of X G a1, F_value.kp, B_value⟩
  have G_total : CalleeX l.prog w K mg base 4 "total" ["terms", "numbers"] (spTotal K C) := ⟨_, _, ok_total F_total T (PySem.W.mg_none_of X G zs) G_value, PySem.W.mg_of X G a2, F_total.kp, B_total⟩
  have G_l_value : Callee l.prog w K mg base 4 "_law_value" ["_law_product_here", "_law_numbers"] (spLawValue K) := ⟨_, _, ok_lvalue F_l_value T X_NoName ER G_value, PySem.W.mg_of X G a11, F_l_value.kp, B_l_value⟩
  have G_l_total : Callee l.prog w K mg base 5 "_law_total" ["_law_terms", "_law_numbers"] (spLawTotal K) := ⟨_, _, ok_ltotal F_l_total T X_NoName ER G_total, PySem.W.mg_of X G a12, F_l_total.kp, B_l_total⟩
  have G_l_is_integer : Callee l.prog w K mg base 1 "_law_is_integer" ["_law_thing"] spIsInt := ⟨_, _, ok_isint F_l_is_integer T, PySem.W.mg_of X G a9, F_l_is_integer.kp, B_l_is_integer⟩
  have G_l_worth : Callee l.prog w K mg base 1 "_law_worth" ["_law_product_here", "_law_numbers"] (spWorth K) := ⟨_, _, ok_worth F_l_worth T, PySem.W.mg_of X G a10, F_l_worth.kp, B_l_worth⟩
  have G_l_number : Callee l.prog w K mg base 2 "_law_number" ["_law_dice_here"] spNumber := ⟨_, _, ok_number F_l_number T G_l_draw, PySem.W.mg_of X G a13, F_l_number.kp, B_l_number⟩
  exact ok_law (C := C) (CH := CH) F_law T G_l_dice G_l_draw G_l_names G_l_sum G_l_number G_l_value G_l_is_integer G_l_worth G_l_total
end K03
open PySem PySem.W PyProof.Rows
set_option maxRecDepth 100000 in
set_option maxHeartbeats 0 in
theorem PySem.Challenge.cw_howhigh_k03_values_of_products_and_sums_holds : PySem.Challenge.rw_howhigh_k03_values_of_products_and_sums.Holds := by
  w_on; o_law; k_head; (case hw => w_witness2)
  k_fill
  refine L2.walk_of (l := PySem.Challenge.rw_howhigh_k03_values_of_products_and_sums) (n := 63) (k := 6) (x := "_law_script") (CX := fun _ => L2.CX0) (sp := fun w => K03.spLaw _) rfl (by decide) rfl ⟨rfl, by decide, by decide⟩ (fun w h Y => PySem.W.kIn_of Y) ?F (fun _ _ a ns hl _ hS => ⟨a, ns, rfl, hS, hl, fun _ => rfl⟩) (fun _ _ _ _ _ h => h)
  case F =>
    intro w mg fa h KX G hmg
    refine' K03.all_mk KX G hmg ?eC ?eH ?xL ?xR ?sa ?ga ?gg ?nb ?ai ?ti ?li ?ci ?ki ?kC ?xC ?tC ?hC ?at_ ?gt ?tk ?mr ?xH ?tH ?hH ?sH ?kN ?kE ?zs ?zV ?a0 ?l0 ?c0 ?k0 ?a1 ?l1 ?c1 ?k1 ?a2 ?l2 ?c2 ?k2 ?a3 ?l3 ?c3 ?k3 ?a4 ?l4 ?c4 ?k4 ?a5 ?l5 ?c5 ?k5 ?a6 ?l6 ?c6 ?k6 ?a7 ?l7 ?c7 ?k7 ?a8 ?l8 ?c8 ?k8 ?a9 ?l9 ?c9 ?k9 ?a10 ?l10 ?c10 ?k10 ?a11 ?l11 ?c11 ?k11 ?a12 ?l12 ?c12 ?k12 ?a13 ?l13 ?c13 ?k13 ?a14 ?l14 ?c14 ?k14 ?z0 ?z1 ?z2 ?z3 ?z4 ?z5 ?z6 ?z7 ?z8 ?z9 ?z10 ?z11 ?z12
    (case eC => k_is); (case eH => k_is); (case xL => k_is); (case xR => first | rfl | k_is); (case sa => k_is); (case ga => k_is); (case gg => k_is); (case nb => k_is)
    (case ai => k_is); (case ti => k_is); (case li => k_is); (case ci => k_is); (case ki => k_is); (case kC => k_is); (case xC => k_is); (case tC => k_is); (case hC => k_is)
    (case at_ => k_is); (case gt => k_is); (case tk => k_is); (case mr => k_is); (case xH => k_is); (case tH => k_is); (case hH => k_is); (case sH => k_is)
    (case kN => first | rfl | k_is | kit_is); (case kE => first | k_is | kit_is); (case zs => k_is); (case zV => k_is)
    (case a0 => k_is); (case l0 => k_is); (case c0 => k_is); (case k0 => k_is); (case a1 => k_is); (case l1 => k_is); (case c1 => k_is); (case k1 => k_is)
    (case a2 => k_is); (case l2 => k_is); (case c2 => k_is); (case k2 => k_is); (case a3 => k_is); (case l3 => k_is); (case c3 => k_is); (case k3 => k_is)
    (case a4 => k_is); (case l4 => k_is); (case c4 => k_is); (case k4 => k_is); (case a5 => k_is); (case l5 => k_is); (case c5 => k_is); (case k5 => k_is)
    (case a6 => k_is); (case l6 => k_is); (case c6 => k_is); (case k6 => k_is); (case a7 => k_is); (case l7 => k_is); (case c7 => k_is); (case k7 => k_is)
    (case a8 => k_is); (case l8 => k_is); (case c8 => k_is); (case k8 => k_is); (case a9 => k_is); (case l9 => k_is); (case c9 => k_is); (case k9 => k_is)
    (case a10 => k_is); (case l10 => k_is); (case c10 => k_is); (case k10 => k_is); (case a11 => k_is); (case l11 => k_is); (case c11 => k_is); (case k11 => k_is)
    (case a12 => k_is); (case l12 => k_is); (case c12 => k_is); (case k12 => k_is); (case a13 => k_is); (case l13 => k_is); (case c13 => k_is); (case k13 => k_is)
    (case a14 => k_is); (case l14 => k_is); (case c14 => k_is); (case k14 => k_is); (case z0 => k_is); (case z1 => k_is); (case z2 => k_is); (case z3 => k_is)
    (case z4 => k_is); (case z5 => k_is); (case z6 => k_is); (case z7 => k_is); (case z8 => k_is); (case z9 => k_is); (case z10 => k_is); (case z11 => k_is)
    (case z12 => k_is)
