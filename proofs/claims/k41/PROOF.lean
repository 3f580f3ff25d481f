import PyProof.Rows.All
import Wide.All
import OpenK.AllK
import Wide.FinOn
import HandS.ForMost
import HandS.SortOrd
import HandS.TupLe
import KE.KDictKeyed
import HandS.DictComp
import HandS.More
import KE.KDictSum
import KE.KDictCopyH
import HandS.Wide
import HandS.TupAny
import HandS.Codes
import HandS.IsInst
import HandS.Walk
import HandS.ForExc
import HandS.ExcInit
import HandS.ExcField
import KE.KExcIs
import KE.KIsAll
import KE.BitLaws
import KE.GoesComp
import KE.KAsSuite
import KE.DataCmp
import KE.KDictPairs
import HandS.Star
import HandS.DictTup
import HandS.Zip
import HandS.Deep
import KE.DataMinMax
import KE.DataFind
import KE.GoesEnum
import HandS.WideBits
import PySem.Challenge.RW_howhigh_k41_whole_rounds_stay_below_the
set_option Elab.async false
set_option linter.all false
set_option maxRecDepth 100000
set_option maxHeartbeats 4000000
namespace HH
open PySem PySem.Spec PyProof.Rows L2 PySem.SeqAt

/-! ### the order of nested data -/
mutual
def ltK : NestedKey → NestedKey → Bool
  | .none, .none => false
  | .none, .num _ => true
  | .none, .text _ => true
  | .none, .tup _ => true
  | .num _, .none => false
  | .num a, .num b => decide (a < b)
  | .num _, .text _ => true
  | .num _, .tup _ => true
  | .text _, .none => false
  | .text _, .num _ => false
  | .text a, .text b => decide (a.cps.toList < b.cps.toList)
  | .text _, .tup _ => true
  | .tup _, .none => false
  | .tup _, .num _ => false
  | .tup _, .text _ => false
  | .tup a, .tup b => ltL a b
def ltL : List NestedKey → List NestedKey → Bool
  | [], [] => false
  | [], _ :: _ => true
  | _ :: _, [] => false
  | a :: as, b :: bs => if a = b then ltL as bs else ltK a b
end
mutual
def cmK : NestedKey → NestedKey → Bool
  | .num _, .num _ => true
  | .text _, .text _ => true
  | .tup a, .tup b => cmL a b
  | .none, _ => false
  | .num _, .none => false
  | .num _, .text _ => false
  | .num _, .tup _ => false
  | .text _, .none => false
  | .text _, .num _ => false
  | .text _, .tup _ => false
  | .tup _, .none => false
  | .tup _, .num _ => false
  | .tup _, .text _ => false
def cmL : List NestedKey → List NestedKey → Bool
  | [], [] => true
  | [], _ :: _ => true
  | _ :: _, [] => true
  | a :: as, b :: bs => cmK a b && cmL as bs
end
theorem str_ext {a b : Str} (h : a.cps.toList = b.cps.toList) : a = b := by
  cases a; cases b; simp only [Str.mk.injEq]; exact Array.ext' h
theorem lln_tri (a b : List Nat) : a < b ∨ a = b ∨ b < a := by
  rcases Classical.em (a < b) with h | h
  · exact .inl h
  · rcases Classical.em (b < a) with h' | h'
    · exact .inr (.inr h')
    · exact .inr (.inl (List.le_antisymm (List.not_lt.mp h') (List.not_lt.mp h)))
mutual
theorem ltK_tri : ∀ a b : NestedKey, ltK a b = true ∨ a = b ∨ ltK b a = true
  | .none, .none => by simp
  | .none, .num _ => by simp [ltK]
  | .none, .text _ => by simp [ltK]
  | .none, .tup _ => by simp [ltK]
  | .num _, .none => by simp [ltK]
  | .num a, .num b => by simp only [ltK, decide_eq_true_eq, NestedKey.num.injEq]; omega
  | .num _, .text _ => by simp [ltK]
  | .num _, .tup _ => by simp [ltK]
  | .text _, .none => by simp [ltK]
  | .text _, .num _ => by simp [ltK]
  | .text a, .text b => by
    simp only [ltK, decide_eq_true_eq, NestedKey.text.injEq]
    rcases lln_tri a.cps.toList b.cps.toList with h | h | h
    · exact .inl h
    · exact .inr (.inl (str_ext h))
    · exact .inr (.inr h)
  | .text _, .tup _ => by simp [ltK]
  | .tup _, .none => by simp [ltK]
  | .tup _, .num _ => by simp [ltK]
  | .tup _, .text _ => by simp [ltK]
  | .tup a, .tup b => by simp only [ltK, NestedKey.tup.injEq]; exact ltL_tri a b
theorem ltL_tri : ∀ a b : List NestedKey, ltL a b = true ∨ a = b ∨ ltL b a = true
  | [], [] => by simp
  | [], _ :: _ => by simp [ltL]
  | _ :: _, [] => by simp [ltL]
  | a :: as, b :: bs => by
    by_cases e : a = b
    · subst e
      simp only [ltL, if_true, List.cons.injEq, true_and]
      exact ltL_tri as bs
    · have e' : ¬ b = a := fun h => e h.symm
      simp only [ltL, if_neg e, if_neg e', List.cons.injEq, e, false_and, false_or]
      rcases ltK_tri a b with h | h | h
      · exact .inl h
      · exact absurd h e
      · exact .inr h
end
mutual
theorem ltK_asym : ∀ a b : NestedKey, ltK a b = true → ltK b a = false
  | .none, .none, h => by simp [ltK] at h
  | .none, .num _, h => by simp [ltK]
  | .none, .text _, h => by simp [ltK]
  | .none, .tup _, h => by simp [ltK]
  | .num _, .none, h => by simp [ltK] at h
  | .num a, .num b, h => by simp only [ltK, decide_eq_true_eq, decide_eq_false_iff_not] at h ⊢; omega
  | .num _, .text _, h => by simp [ltK]
  | .num _, .tup _, h => by simp [ltK]
  | .text _, .none, h => by simp [ltK] at h
  | .text _, .num _, h => by simp [ltK] at h
  | .text a, .text b, h => by
    simp only [ltK, decide_eq_true_eq, decide_eq_false_iff_not] at h ⊢
    exact List.lt_asymm h
  | .text _, .tup _, h => by simp [ltK]
  | .tup _, .none, h => by simp [ltK] at h
  | .tup _, .num _, h => by simp [ltK] at h
  | .tup _, .text _, h => by simp [ltK] at h
  | .tup a, .tup b, h => by simp only [ltK] at h ⊢; exact ltL_asym a b h
theorem ltL_asym : ∀ a b : List NestedKey, ltL a b = true → ltL b a = false
  | [], [], h => by simp [ltL] at h
  | [], _ :: _, h => by simp [ltL]
  | _ :: _, [], h => by simp [ltL] at h
  | a :: as, b :: bs, h => by
    by_cases e : a = b
    · subst e
      simp only [ltL, if_true] at h ⊢
      exact ltL_asym as bs h
    · have e' : ¬ b = a := fun h => e h.symm
      simp only [ltL, if_neg e, if_neg e'] at h ⊢
      exact ltK_asym a b h
end
theorem ltK_irr (a : NestedKey) : ltK a a = false := by
  cases h : ltK a a with
  | false => rfl
  | true => have := ltK_asym a a h; rw [h] at this; cases this
mutual
theorem ltK_trans : ∀ a b c : NestedKey, ltK a b = true → ltK b c = true → ltK a c = true
  | .none, b, .none, h, g => by cases b <;> simp [ltK] at h g
  | .none, b, .num _, h, g => by simp [ltK]
  | .none, b, .text _, h, g => by simp [ltK]
  | .none, b, .tup _, h, g => by simp [ltK]
  | .num _, b, .none, h, g => by cases b <;> simp [ltK] at h g
  | .num a, b, .num c, h, g => by
    cases b <;> simp [ltK] at h g
    simp only [ltK, decide_eq_true_eq]; omega
  | .num _, b, .text _, h, g => by simp [ltK]
  | .num _, b, .tup _, h, g => by simp [ltK]
  | .text _, b, .none, h, g => by cases b <;> simp [ltK] at h g
  | .text _, b, .num _, h, g => by cases b <;> simp [ltK] at h g
  | .text a, b, .text c, h, g => by
    cases b <;> simp [ltK] at h g
    simp only [ltK, decide_eq_true_eq]; exact List.lt_trans h g
  | .text _, b, .tup _, h, g => by simp [ltK]
  | .tup _, b, .none, h, g => by cases b <;> simp [ltK] at h g
  | .tup _, b, .num _, h, g => by cases b <;> simp [ltK] at h g
  | .tup _, b, .text _, h, g => by cases b <;> simp [ltK] at h g
  | .tup a, .none, .tup c, h, g => by simp [ltK] at h
  | .tup a, .num _, .tup c, h, g => by simp [ltK] at h
  | .tup a, .text _, .tup c, h, g => by simp [ltK] at h
  | .tup a, .tup b, .tup c, h, g => by simp only [ltK] at h g ⊢; exact ltL_trans a b c h g
theorem ltL_trans : ∀ a b c : List NestedKey, ltL a b = true → ltL b c = true → ltL a c = true
  | [], _, _ :: _, h, g => by simp [ltL]
  | [], b, [], h, g => by cases b <;> simp [ltL] at h g
  | _ :: _, b, [], h, g => by cases b <;> simp [ltL] at h g
  | a :: as, [], c :: cs, h, g => by simp [ltL] at h
  | a :: as, b :: bs, c :: cs, h, g => by
    by_cases e : a = b
    · subst e
      simp only [ltL, if_true] at h
      by_cases e2 : a = c
      · subst e2
        simp only [ltL, if_true] at g ⊢
        exact ltL_trans as bs cs h g
      · simp only [ltL, if_neg e2] at g ⊢
        exact g
    · simp only [ltL, if_neg e] at h
      by_cases e2 : b = c
      · subst e2
        simp only [ltL, if_neg e]
        exact h
      · simp only [ltL, if_neg e2] at g
        have t := ltK_trans a b c h g
        have ne : ¬ a = c := fun z => by subst z; rw [ltK_irr] at t; cases t
        simp only [ltL, if_neg ne]
        exact t
end
theorem ltK_swo : SrtO.Swo ltK := by
  refine ⟨ltK_asym, fun x y z h1 h2 => ?_⟩
  cases h3 : ltK z x with
  | false => rfl
  | true =>
    rcases ltK_tri y z with h | h | h
    · have := ltK_trans y z x h h3; rw [h1] at this; cases this
    · subst h; rw [h1] at h3; cases h3
    · rw [h2] at h; cases h
end HH
namespace HH
open PySem PySem.Spec PyProof.Rows L2 PySem.SeqAt

/-! ### nested data in the heap, without flags -/
mutual
inductive DIs (h : Heap) : NestedKey → Value → Prop
  | int (i : Int) (t : Tok) : DIs h (.num i) (.int i t)
  | text (x : Str) (t : Tok) : DIs h (.text x) (.str x t)
  | tup {a : Addr} {vs : Array Value} {ks : List NestedKey} : h.IsTuple a vs → DAll h ks vs.toList → DIs h (.tup ks) (.ref a)
inductive DAll (h : Heap) : List NestedKey → List Value → Prop
  | nil : DAll h [] []
  | cons {k : NestedKey} {ks : List NestedKey} {v : Value} {vs : List Value} : DIs h k v → DAll h ks vs → DAll h (k :: ks) (v :: vs)
end
mutual
theorem DIs.nested {h : Heap} : ∀ (k : NestedKey) (v : Value), DIs h k v → NestedIs h k v
  | .none, _, x => nomatch x
  | .num i, _, x => by cases x; exact .int _ _
  | .text i, _, x => by cases x; exact .text _ _
  | .tup ks, _, x => by
    cases x with
    | tup p r =>
      obtain ⟨o, ho, hc, n, hd⟩ := p
      exact .tup ho hc hd (DAll.nested ks _ r)
theorem DAll.nested {h : Heap} : ∀ (k : List NestedKey) (v : List Value), DAll h k v → NestedAll h k v
  | [], _, x => by cases x; exact .nil
  | k :: ks, _, x => by
    cases x with
    | cons p r => exact .cons (DIs.nested k _ p) (DAll.nested ks _ r)
end
mutual
theorem DIs.keep {h h' : Heap} (hk : ∀ a vs, h.IsTuple a vs → h'.IsTuple a vs) : ∀ (k : NestedKey) (v : Value), DIs h k v → DIs h' k v
  | .none, _, x => nomatch x
  | .num i, _, x => by cases x; exact .int _ _
  | .text i, _, x => by cases x; exact .text _ _
  | .tup ks, _, x => by
    cases x with
    | tup p r => exact .tup (hk _ _ p) (DAll.keep hk ks _ r)
theorem DAll.keep {h h' : Heap} (hk : ∀ a vs, h.IsTuple a vs → h'.IsTuple a vs) : ∀ (k : List NestedKey) (v : List Value), DAll h k v → DAll h' k v
  | [], _, x => by cases x; exact .nil
  | k :: ks, _, x => by
    cases x with
    | cons p r => exact .cons (DIs.keep hk k _ p) (DAll.keep hk ks _ r)
end
theorem DAll.length {h : Heap} : ∀ {ks : List NestedKey} {vs : List Value}, DAll h ks vs → vs.length = ks.length
  | [], _, x => by cases x; rfl
  | k :: ks, _, x => by
    cases x with
    | cons p r => simp [DAll.length r]
theorem DAll.get {h : Heap} : ∀ {ks : List NestedKey} {vs : List Value}, DAll h ks vs → ∀ (j : Nat) (h1 : j < vs.length) (h2 : j < ks.length), DIs h ks[j] vs[j]
  | [], _, x, j, h1, h2 => absurd h2 (Nat.not_lt_zero _)
  | k :: ks, _, x, j, h1, h2 => by
    cases x with
    | cons p r =>
      cases j with
      | zero => exact p
      | succ j => exact DAll.get r j _ _
theorem DAll.mem {h : Heap} : ∀ {ks : List NestedKey} {vs : List Value}, DAll h ks vs → ∀ v ∈ vs, ∃ k ∈ ks, DIs h k v
  | [], _, x, v, hv => by cases x; cases hv
  | k :: ks, _, x, v, hv => by
    cases x with
    | cons p r =>
      rcases List.mem_cons.mp hv with e | e
      · subst e; exact ⟨k, List.mem_cons_self, p⟩
      · obtain ⟨k', m, q⟩ := DAll.mem r v e
        exact ⟨k', List.mem_cons_of_mem _ m, q⟩
def kEq (xs ys : List NestedKey) (j : Nat) : Bool := NestedKey.beq (xs.getD j .none) (ys.getD j .none)
def kLt (xs ys : List NestedKey) (j : Nat) : Bool := ltK (xs.getD j .none) (ys.getD j .none)
theorem lexAt_shift {e r e' r' : Nat → Bool} {z : Bool} : ∀ (k i : Nat), (∀ j, i ≤ j → e (j + 1) = e' j) → (∀ j, i ≤ j → r (j + 1) = r' j) → Ob.lexAt e r z (i + 1) k = Ob.lexAt e' r' z i k
  | 0, i, _, _ => rfl
  | k + 1, i, h1, h2 => by
    rw [Ob.lexAt_succ, Ob.lexAt_succ, h1 i (Nat.le_refl _), h2 i (Nat.le_refl _), lexAt_shift k (i + 1) (fun j hj => h1 j (by omega)) (fun j hj => h2 j (by omega))]
theorem lexAt_lt : ∀ (xs ys : List NestedKey), Ob.lexAt (kEq xs ys) (kLt xs ys) (decide (xs.length < ys.length)) 0 (min xs.length ys.length) = ltL xs ys
  | [], [] => by simp [Ob.lexAt_zero, ltL]
  | [], y :: ys => by simp [Ob.lexAt_zero, ltL]
  | x :: xs, [] => by simp [Ob.lexAt_zero, ltL]
  | x :: xs, y :: ys => by
    have ih := lexAt_lt xs ys
    have em : min (x :: xs).length (y :: ys).length = min xs.length ys.length + 1 := by simp only [List.length_cons]; omega
    rw [em, Ob.lexAt_succ, ltL]
    have e0 : kEq (x :: xs) (y :: ys) 0 = NestedKey.beq x y := rfl
    have r0 : kLt (x :: xs) (y :: ys) 0 = ltK x y := rfl
    rw [e0, r0]
    by_cases e : x = y
    · subst e
      rw [NestedKey.beq_self, if_pos rfl, if_pos rfl]
      have ez : decide ((x :: xs).length < (x :: ys).length) = decide (xs.length < ys.length) := by simp
      rw [ez, ← ih]
      exact lexAt_shift _ 0 (fun j _ => rfl) (fun j _ => rfl)
    · have hb : NestedKey.beq x y = false := by
        cases h : NestedKey.beq x y with
        | false => rfl
        | true => exact absurd (NestedKey.eq_of_beq x y h) e
      rw [hb, if_neg (by simp), if_neg e]
theorem cmL_get : ∀ {xs ys : List NestedKey}, cmL xs ys = true → ∀ (j : Nat) (h1 : j < xs.length) (h2 : j < ys.length), cmK xs[j] ys[j] = true
  | [], _, _, j, h1, _ => absurd h1 (Nat.not_lt_zero _)
  | _ :: _, [], _, j, _, h2 => absurd h2 (Nat.not_lt_zero _)
  | x :: xs, y :: ys, h, j, h1, h2 => by
    rw [cmL, Bool.and_eq_true] at h
    cases j with
    | zero => exact h.1
    | succ j => exact cmL_get h.2 j _ _
theorem depth_mem {ks : List NestedKey} : ∀ {k : NestedKey}, k ∈ ks → k.depth ≤ NestedKey.depthAll ks := by
  induction ks with
  | nil => intro k h; cases h
  | cons a as ih =>
    intro k h
    simp only [NestedKey.depthAll]
    rcases List.mem_cons.mp h with e | e
    · subst e; omega
    · have := ih e; omega
/-- u < v of nested data -/
theorem rc_lt : ∀ (n : Nat) (x y : NestedKey) (A : Around) (s : Shared) (u v : Value), x.depth ≤ n → DIs s.heap x u → DIs s.heap y v → cmK x y = true → A.units + x.depth < cLine → Ob.RcOp .Lt A s u v (ltK x y)
  | n, .none, y, A, s, u, v, hn, hx, hy, hc, hu => nomatch hx
  | n, .num a, y, A, s, u, v, hn, hx, hy, hc, hu => by
    cases hy with
    | int b t => cases hx; exact Ob.RcOp.lt_int _ _ _ _
    | text b t => simp [cmK] at hc
    | tup p r => simp [cmK] at hc
  | n, .text a, y, A, s, u, v, hn, hx, hy, hc, hu => by
    cases hy with
    | int b t => simp [cmK] at hc
    | text b t => cases hx; exact fun _ _ _ _ h => PyProof.Rows.lt_str h
    | tup p r => simp [cmK] at hc
  | 0, .tup xs, y, A, s, u, v, hn, hx, hy, hc, hu => by simp [NestedKey.depth] at hn
  | n + 1, .tup xs, y, A, s, u, v, hn, hx, hy, hc, hu => by
    cases hy with
    | int b t => simp [cmK] at hc
    | text b t => simp [cmK] at hc
    | @tup b vs' ys p' r' =>
      cases hx with
      | @tup a vs xs p r =>
        simp only [NestedKey.depth] at hn hu
        simp only [cmK] at hc
        have l1 : vs.size = xs.length := by simpa using r.length
        have l2 : vs'.size = ys.length := by simpa using r'.length
        have hu1 : A.in1.units = A.units + 1 := rfl
        have key := Ob.RcOp.tuples_lt (e := kEq xs ys) (r := kLt xs ys) p p' (A := A) (s := s) (by omega) (fun j h1 h2 => ?_) (fun j h1 h2 _ => ?_)
        · rw [l1, l2, lexAt_lt] at key
          simpa only [ltK] using key
        · have q1 := r.get j (by simpa using h1) (by omega)
          have q2 := r'.get j (by simpa using h2) (by omega)
          have m1 := depth_mem (List.getElem_mem (h := show j < xs.length by omega))
          have := eqAt_key xs[j] ys[j] A.in1 s _ _ (q1.nested _ _) (q2.nested _ _) (by omega)
          simp only [kEq, List.getD_eq_getElem?_getD, List.getElem?_eq_getElem (show j < xs.length by omega), List.getElem?_eq_getElem (show j < ys.length by omega), Option.getD_some]
          simpa using this
        · have q1 := r.get j (by simpa using h1) (by omega)
          have q2 := r'.get j (by simpa using h2) (by omega)
          have m1 := depth_mem (List.getElem_mem (h := show j < xs.length by omega))
          have := rc_lt n xs[j] ys[j] A.in1 s _ _ (by omega) q1 q2 (cmL_get hc j _ _) (by omega)
          simp only [kLt, List.getD_eq_getElem?_getD, List.getElem?_eq_getElem (show j < xs.length by omega), List.getElem?_eq_getElem (show j < ys.length by omega), Option.getD_some]
          simpa using this
end HH
namespace HH
open PySem PySem.Spec PyProof.Rows L2 PySem.SeqAt

def tyK : NestedKey → String
  | .none => "NoneType"
  | .num _ => "int"
  | .text _ => "str"
  | .tup _ => "tuple"
theorem DIs.type {M : Model} {h : Heap} {k : NestedKey} {v : Value} (x : DIs h k v) : PySem.W.Looks M h (typeOf v) (.type (tyK k)) := by
  cases x with
  | int i t => exact PySem.W.Looks.now
  | text i t => exact PySem.W.Looks.now
  | tup p r =>
    obtain ⟨o, ho, hc, n, hd⟩ := p
    have q : PySem.W.Looks M h (typeOf (.ref _)) o.cls := (PySem.W.Looks.ld ho).andThen .now
    rw [hc] at q
    exact q
/-- the first item of a tuple that has one -/
inductive Fst (h : Heap) : NestedKey → Option Value → Prop
  | num (i : Int) : Fst h (.num i) none
  | text (x : Str) : Fst h (.text x) none
  | emp : Fst h (.tup []) none
  | tup {k : NestedKey} {ks : List NestedKey} {u : Value} : DIs h k u → Fst h (.tup (k :: ks)) (some u)
section
variable {M : Model} {A : Around} {s : Shared}
theorem first_one {k : NestedKey} {v : Value} (x : DIs s.heap k v) : ∃ f, Fst s.heap k f ∧ ∀ (E : Value → Shared → Prop) (Q : Option Value → Shared → Prop), Q f s → wpAny M A (firstOfTuple' v) Q E s := by
  have ty := x.type (M := M)
  cases x with
  | int i t =>
    refine ⟨none, .num i, fun E Q q => ?_⟩
    rw [PySem.W.kas_first_eq]
    refine wpAny_bind (ty.here ?_)
    rw [if_pos (by first | rfl | decide +kernel)]
    exact wpAny_pure q
  | text i t =>
    refine ⟨none, .text i, fun E Q q => ?_⟩
    rw [PySem.W.kas_first_eq]
    refine wpAny_bind (ty.here ?_)
    rw [if_pos (by first | rfl | decide +kernel)]
    exact wpAny_pure q
  | @tup a vs ks p r =>
    obtain ⟨o, ho, hc, n, hd⟩ := p
    have run : ∀ (E : Value → Shared → Prop) (Q : Option Value → Shared → Prop), Q vs[0]? s → wpAny M A (firstOfTuple' (.ref a)) Q E s := fun E Q q => by
      rw [PySem.W.kas_first_eq]
      refine wpAny_bind (ty.here ?_)
      rw [if_neg (by show ¬ (Value.type "tuple" != Value.type "tuple") = true; decide +kernel)]
      exact wpAny_bind (listItems_at ho hd (wpAny_pure q))
    rw [← Array.getElem?_toList] at run
    cases r' : vs.toList with
    | nil =>
      rw [r'] at r run
      cases r
      exact ⟨none, .emp, run⟩
    | cons u us =>
      rw [r'] at r run
      cases r with
      | cons y ys => exact ⟨some u, .tup y, run⟩
theorem firsts_run (M : Model) (A : Around) {s : Shared} : ∀ {ks : List NestedKey} {vs : List Value}, DAll s.heap ks vs → ∃ fs : List (Option Value), Paired (Fst s.heap) ks fs ∧ ∀ (E : Value → Shared → Prop) (Q : List (Option Value) → Shared → Prop), Q fs s → wpAny M A (vs.mapM firstOfTuple') Q E s
  | [], _, x => by
    cases x
    exact ⟨[], .nil, fun E Q q => by rw [List.mapM_nil]; exact wpAny_pure q⟩
  | k :: ks, _, x => by
    cases x with
    | cons p r =>
      obtain ⟨f, hf, rf⟩ := first_one (M := M) (A := A) p
      obtain ⟨fs, hfs, rfs⟩ := firsts_run M A r
      refine ⟨f :: fs, .cons hf hfs, fun E Q q => ?_⟩
      rw [List.mapM_cons]
      exact wpAny_bind (rf _ _ (wpAny_bind (rfs _ _ (wpAny_pure q))))
variable {E : Value → Shared → Prop}
theorem types_run : ∀ {ks : List NestedKey} {vs : List Value}, DAll s.heap ks vs → ∀ Q : List Value → Shared → Prop, Q (ks.map fun k => Value.type (tyK k)) s → wpAny M A (vs.mapM typeOf) Q E s
  | [], _, x, Q, q => by
    cases x
    rw [List.mapM_nil]; exact wpAny_pure q
  | k :: ks, _, x, Q, q => by
    cases x with
    | cons p r =>
      rw [List.mapM_cons]
      exact wpAny_bind ((p.type (M := M)).here (wpAny_bind (types_run r _ (wpAny_pure q))))
def oneTy (ks : List NestedKey) : Option Value := match ks with
  | [] => none
  | k :: ks => if ((k :: ks).map fun k => Value.type (tyK k)).toArray.all (· == Value.type (tyK k)) then some (Value.type (tyK k)) else none
theorem oneTy_run {ks : List NestedKey} {vs : List Value} (x : DAll s.heap ks vs) {Q : Option Value → Shared → Prop} (q : Q (oneTy ks) s) : wpAny M A (oneTypeOnly' vs.toArray) Q E s := by
  rw [oneTypeOnly'_eq, List.mapM_toArray, map_eq_pure_bind]
  refine wpAny_bind (wpAny_bind (types_run x _ (wpAny_pure ?_)))
  cases ks with
  | nil => exact wpAny_pure q
  | cons k ks =>
    have h0 : (List.map (fun k => Value.type (tyK k)) (k :: ks)).toArray[0]? = some (Value.type (tyK k)) := by simp
    rw [h0]
    exact wpAny_pure q
theorem vtype_eq {a b : String} (h : (Value.type a == Value.type b) = true) : a = b := by
  have : Value.type a = Value.type b := by first | exact eq_of_beq h | exact (beq_iff_eq ..).mp h
  exact Value.type.inj this
theorem oneTy_some {ks : List NestedKey} {t : Value} (h : oneTy ks = some t) : ∀ k ∈ ks, Value.type (tyK k) = t := by
  cases ks with
  | nil => intro k hk; cases hk
  | cons a as =>
    intro k hk
    simp only [oneTy] at h
    split at h
    · rename_i hall
      have e := Option.some.inj h
      rw [← e]
      simp only [List.all_toArray, List.all_map, List.all_eq_true] at hall
      have := vtype_eq (hall k hk)
      rw [this]
    · cases h
inductive KindOk (h : Heap) (ks : List NestedKey) : SortKind → Prop
  | gen : KindOk h ks general'
  | one : (∃ T, ∀ k ∈ ks, tyK k = T) → KindOk h ks oneType'
  | tup (b : Bool) : (∀ k ∈ ks, ∃ k0 r, k = .tup (k0 :: r)) → (b = true → ∃ T, T ≠ "tuple" ∧ ∀ k ∈ ks, ∀ k0 r, k = .tup (k0 :: r) → tyK k0 = T) → KindOk h ks (tuples' b)
theorem heads_of {h : Heap} : ∀ {ks : List NestedKey} {fs : List (Option Value)}, Paired (Fst h) ks fs → (fs.all (·.isSome)) = true → ∃ hs us, fs = us.map some ∧ DAll h hs us ∧ (∀ k ∈ ks, ∃ k0 r, k = .tup (k0 :: r) ∧ k0 ∈ hs)
  | [], _, x, _ => by cases x; exact ⟨[], [], rfl, .nil, fun k hk => nomatch hk⟩
  | k :: ks, _, x, ha => by
    cases x with
    | cons p r =>
      rw [List.all_cons, Bool.and_eq_true] at ha
      obtain ⟨hs, us, e1, e2, e3⟩ := heads_of r ha.2
      cases p with
      | num i => simp at ha
      | text i => simp at ha
      | emp => simp at ha
      | @tup k0 ks0 u q =>
        refine ⟨k0 :: hs, u :: us, by rw [e1]; rfl, .cons q e2, fun k hk => ?_⟩
        rcases List.mem_cons.mp hk with e | e
        · exact ⟨k0, ks0, e, List.mem_cons_self⟩
        · obtain ⟨a, b, c, d⟩ := e3 k e
          exact ⟨a, b, c, List.mem_cons_of_mem _ d⟩
theorem kind_run (M : Model) (A : Around) {s : Shared} {ks : List NestedKey} {vs : List Value} (x : DAll s.heap ks vs) : ∃ κ, KindOk s.heap ks κ ∧ ∀ (Q : SortKind → Shared → Prop) (E : Value → Shared → Prop), Q κ s → wpAny M A (keyKind' vs.toArray) Q E s := by
  obtain ⟨fs, hfs, rfs⟩ := firsts_run M A x
  by_cases hall : fs.all (·.isSome) = true
  · obtain ⟨hs, us, e1, e2, e3⟩ := heads_of hfs hall
    refine ⟨tuples' ((oneTy hs).any (· != .type "tuple")), .tup _ (fun k hk => by obtain ⟨a, b, c, _⟩ := e3 k hk; exact ⟨a, b, c⟩) (fun hb => ?_), fun Q E q => ?_⟩
    · cases h : oneTy hs with
      | none => rw [h] at hb; simp at hb
      | some t =>
        rw [h] at hb
        have all := oneTy_some h
        cases hs with
        | nil => simp [oneTy] at h
        | cons k0 hs =>
          have e := all k0 List.mem_cons_self
          refine ⟨tyK k0, fun z => ?_, fun k hk k1 r hk1 => ?_⟩
          · rw [← e, z] at hb
            exact absurd hb (by show ¬ (Value.type "tuple" != Value.type "tuple") = true; decide +kernel)
          · obtain ⟨a, b, c, d⟩ := e3 k hk
            rw [hk1] at c
            injection c with c
            injection c with c1 c2
            subst c1
            exact Value.type.inj ((all _ d).trans e.symm)
    · rw [keyKind'_eq, List.mapM_toArray, map_eq_pure_bind]
      refine wpAny_bind (wpAny_bind (rfs _ _ (wpAny_pure ?_)))
      have hall' : (fs.toArray.all fun x => x.isSome) = true := by simpa using hall
      rw [if_pos hall']
      refine wpAny_bind (wpAny_rule ?_)
      have hfm : (fs.toArray.filterMap id) = us.toArray := by rw [e1]; simp
      rw [hfm]
      exact wpAny_bind (oneTy_run e2 (wpAny_pure q))
  · by_cases h0 : ((fs.toArray[0]?).bind id).isSome = true
    · refine ⟨general', .gen, fun Q E q => ?_⟩
      rw [keyKind'_eq, List.mapM_toArray, map_eq_pure_bind]
      refine wpAny_bind (wpAny_bind (rfs _ _ (wpAny_pure ?_)))
      have hall' : ¬ (fs.toArray.all fun x => x.isSome) = true := by simpa using hall
      rw [if_neg hall', if_pos h0]
      exact wpAny_pure q
    · cases h1 : oneTy ks with
      | none =>
        refine ⟨general', .gen, fun Q E q => ?_⟩
        rw [keyKind'_eq, List.mapM_toArray, map_eq_pure_bind]
        refine wpAny_bind (wpAny_bind (rfs _ _ (wpAny_pure ?_)))
        have hall' : ¬ (fs.toArray.all fun x => x.isSome) = true := by simpa using hall
        rw [if_neg hall', if_neg h0]
        refine wpAny_bind (oneTy_run x ?_)
        rw [h1]
        exact wpAny_pure q
      | some t =>
        refine ⟨oneType', .one ?_, fun Q E q => ?_⟩
        · have all := oneTy_some h1
          cases ks with
          | nil => simp [oneTy] at h1
          | cons k0 ks =>
            have e := all k0 List.mem_cons_self
            exact ⟨tyK k0, fun k hk => Value.type.inj ((all _ hk).trans e.symm)⟩
        · rw [keyKind'_eq, List.mapM_toArray, map_eq_pure_bind]
          refine wpAny_bind (wpAny_bind (rfs _ _ (wpAny_pure ?_)))
          have hall' : ¬ (fs.toArray.all fun x => x.isSome) = true := by simpa using hall
          rw [if_neg hall', if_neg h0]
          refine wpAny_bind (oneTy_run x ?_)
          rw [h1]
          exact wpAny_pure q
end

/-! ### what sort asks of two items -/
section
variable {prog : Program} {w : World} {A : Around} {E : Value → Shared → Prop} {s : Shared}
theorem one_lt {x y : NestedKey} {u v : Value} {Q : Bool → Shared → Prop} (b : Bool) (hx : DIs s.heap x u) (hy : DIs s.heap y v) (hc : cmK x y = true) (hu : A.units + x.depth < cLine) (h : Q (ltK x y) s) : wpAny (model prog w) A (oneLt' b u v) Q E s := by
  cases b with
  | false => exact PySem.W.kat_one _ _ (rc_lt _ x y A s u v (Nat.le_refl _) hx hy hc hu prog w _ _ h)
  | true =>
    cases hx with
    | int i t =>
      cases hy with
      | int j t' => exact oneLt_int h
      | text _ _ => simp [cmK] at hc
      | tup _ _ => simp [cmK] at hc
    | text i t =>
      cases hy with
      | int j t' => simp [cmK] at hc
      | text _ _ => exact oneLt_str h
      | tup _ _ => simp [cmK] at hc
    | @tup a vs xs p r =>
      cases hy with
      | int j t' => simp [cmK] at hc
      | text _ _ => simp [cmK] at hc
      | @tup b vs' ys p' r' =>
        simp only [NestedKey.depth] at hu
        simp only [cmK] at hc
        have l1 : vs.size = xs.length := by simpa using r.length
        have l2 : vs'.size = ys.length := by simpa using r'.length
        have hu1 : A.in1.units = A.units + 1 := rfl
        rw [oneLt'_eq]
        simp only [if_true]
        refine wpAny_bind (wpAny_cRoomFor (by omega) ?_)
        obtain ⟨⟨cls, dd, data, sl⟩, ho, hcl, n, hd⟩ := id p
        obtain ⟨⟨cls2, dd2, data2, sl2⟩, ho2, hc2, n2, hd2⟩ := id p'
        simp only at hcl hd hc2 hd2
        subst hcl hd hc2 hd2
        refine wpAny_bind (wpAny_callSpecialIfBound?_slot ⟨_, ho, rfl⟩ F.slot_tuple_lt (call_meets F.slot_tuple_lt ⟨_, ho, rfl⟩ F.entry_tuple_lt (F.args_tuple_lt_2 _ _)
          (Ob.tuple_ltAt a b vs vs' n n2 dd dd2 sl sl2 (kEq xs ys) (kLt xs ys)) ⟨ho, ho2, fun j h1 h2 => ?_, fun j h1 h2 _ => ?_, ?_⟩))
        · have q1 := r.get j (by simpa using h1) (by omega)
          have q2 := r'.get j (by simpa using h2) (by omega)
          have m1 := depth_mem (List.getElem_mem (h := show j < xs.length by omega))
          have := eqAt_key xs[j] ys[j] A.in1 s _ _ (q1.nested _ _) (q2.nested _ _) (by omega)
          simp only [kEq, List.getD_eq_getElem?_getD, List.getElem?_eq_getElem (show j < xs.length by omega), List.getElem?_eq_getElem (show j < ys.length by omega), Option.getD_some]
          simpa using this
        · have q1 := r.get j (by simpa using h1) (by omega)
          have q2 := r'.get j (by simpa using h2) (by omega)
          have m1 := depth_mem (List.getElem_mem (h := show j < xs.length by omega))
          have := rc_lt _ xs[j] ys[j] A.in1 s _ _ (Nat.le_refl _) q1 q2 (cmL_get hc j _ _) (by omega)
          simp only [kLt, List.getD_eq_getElem?_getD, List.getElem?_eq_getElem (show j < xs.length by omega), List.getElem?_eq_getElem (show j < ys.length by omega), Option.getD_some]
          simpa using this
        · rw [l1, l2, lexAt_lt]
          exact wpAny_truthy_bool (by simpa only [ltK] using h)
theorem kat_run : ∀ (xs ys : List NestedKey) (us vs : List Value) (b fin : Bool) (i : Nat) (Q : Bool → Shared → Prop), DAll s.heap xs us → DAll s.heap ys vs → cmL xs ys = true → A.units + NestedKey.depthAll xs < cLine →
    fin = decide (xs.length < ys.length) → Q (ltL xs ys) s → PySem.W.KatLex prog w A b fin Q (us.zip vs) i s
  | [], ys, _, vs, b, fin, i, Q, hx, hy, hc, hu, hf, q => by
    cases hx
    rw [List.zip_nil_left]
    refine PySem.W.kat_nil ?_
    rw [hf]
    cases ys with
    | nil => simpa [ltL] using q
    | cons y ys => simpa [ltL] using q
  | x :: xs, [], _, _, b, fin, i, Q, hx, hy, hc, hu, hf, q => by
    cases hy
    rw [List.zip_nil_right]
    refine PySem.W.kat_nil ?_
    rw [hf]
    simpa [ltL] using q
  | x :: xs, y :: ys, _, _, b, fin, i, Q, hx, hy, hc, hu, hf, q => by
    cases hx with
    | cons p r =>
      cases hy with
      | cons p' r' =>
        rw [cmL, Bool.and_eq_true] at hc
        simp only [NestedKey.depthAll] at hu
        rw [List.zip_cons_cons]
        refine PySem.W.kat_cons (eqAt_key x y A s _ _ (p.nested _ _) (p'.nested _ _) (by omega) prog w _ _ ?_)
        by_cases e : x = y
        · subst e
          rw [NestedKey.beq_self]
          simp only [ltL, if_true] at q
          exact PySem.W.kat_yes (kat_run xs ys _ _ b fin (i + 1) Q r r' hc.2 (by omega) (by rw [hf]; simp) q)
        · have hb : NestedKey.beq x y = false := by
            cases h : NestedKey.beq x y with
            | false => rfl
            | true => exact absurd (NestedKey.eq_of_beq x y h) e
          rw [hb]
          simp only [ltL, if_neg e] at q
          exact PySem.W.kat_no (one_lt _ p p' hc.1 (by omega) q)
/-- the key of a value -/
noncomputable def keyOf (h : Heap) (v : Value) : NestedKey := open Classical in if x : ∃ k, NestedIs h k v then x.choose else .none
theorem keyOf_eq {h : Heap} {k : NestedKey} {v : Value} (x : DIs h k v) : keyOf h v = k := by
  have e : ∃ k, NestedIs h k v := ⟨k, x.nested _ _⟩
  unfold keyOf
  rw [dif_pos e]
  exact NestedIs.inj _ _ _ e.choose_spec (x.nested _ _)
theorem swo_key (h : Heap) : SrtO.Swo fun v u => ltK (keyOf h v) (keyOf h u) := ⟨fun x y => ltK_swo.asym _ _, fun x y z => ltK_swo.tr _ _ _⟩
theorem cmp_ok {h0 : Heap} {ks : List NestedKey} {vs : List Value} {κ : SortKind} (x : DAll s.heap ks vs) (h0k : ∀ v ∈ vs, ∀ k, DIs s.heap k v → keyOf h0 v = k) (K : KindOk s.heap ks κ) (hc : ∀ a ∈ ks, ∀ b ∈ ks, cmK a b = true) (hu : A.units + NestedKey.depthAll ks < cLine) :
    SrtO.Cmp prog w A s κ (fun p => p.1 ∈ vs) (SrtO.lt2 fun v u => ltK (keyOf h0 v) (keyOf h0 u)) := by
  intro p q hp hq
  obtain ⟨a, ma, ha⟩ := x.mem _ hp
  obtain ⟨b, mb, hb⟩ := x.mem _ hq
  have e : SrtO.lt2 (fun v u => ltK (keyOf h0 v) (keyOf h0 u)) p q = ltK a b := by
    show ltK (keyOf h0 p.1) (keyOf h0 q.1) = _
    rw [h0k _ hp a ha, h0k _ hq b hb]
  rw [e]
  have c := hc a ma b mb
  have d := depth_mem ma
  have fin : s = s ∧ ltK a b = ltK a b := ⟨rfl, rfl⟩
  cases K with
  | gen => exact one_lt false ha hb c (by omega) fin
  | one _ => exact one_lt true ha hb c (by omega) fin
  | tup bb h1 h2 =>
    obtain ⟨k0, r0, e0⟩ := h1 a ma
    obtain ⟨k1, r1, e1⟩ := h1 b mb
    subst e0 e1
    generalize p.1 = u at ha hp e ⊢
    generalize q.1 = v at hb hq e ⊢
    cases ha with
    | tup pa ra =>
      cases hb with
      | tup pb rb =>
        obtain ⟨o, ho, _, n, hd⟩ := pa
        obtain ⟨o', ho', _, n', hd'⟩ := pb
        simp only [NestedKey.depth] at d
        simp only [cmK] at c
        refine PySem.W.kat_lt ho hd ho' hd' (kat_run _ _ _ _ bb _ 0 _ ra rb c (by omega) ?_ (by simp [ltK]))
        have l1 := ra.length
        have l2 := rb.length
        simp only [Array.length_toList] at l1 l2
        rw [l1, l2]
/-- sorted(l) of nested data, all alike -/
theorem sorted_keys {l : Addr} {ks : List NestedKey} {vs : List Value} {Q : Value → Shared → Prop} (hl : s.heap.IsList l vs.toArray) (hz : vs.length ≤ sizeLine) (x : DAll s.heap ks vs) (hc : ∀ a ∈ ks, ∀ b ∈ ks, cmK a b = true) (hu : A.units + 2 + NestedKey.depthAll ks < cLine)
    (h : ∀ (h' : Heap) (d : Addr) (out : List Value), SrtO.Srtd (fun v u => ltK (keyOf s.heap v) (keyOf s.heap u)) out → out.Perm vs → (∀ b o, s.heap.get? b = some o → h'.get? b = some o) → s.heap.objs.size ≤ d → (∃ n, h'.get? d = some (seqObj "list" out.toArray n)) → Q (.ref d) { s with heap := h' }) :
    wpAny (model prog w) A (call (.builtin "sorted") [.ref l]) Q E s := by
  refine SrtO.sorted_ord (swo_key s.heap) hl hz (fun h2 h₁ a ha kk => ?_) fun out hs hb => ?_
  · intro h' keep
    have ne : ∀ b vs', s.heap.IsTuple b vs' → b ≠ a := fun b vs' ⟨o, ho, hc, _⟩ => (kk b o ho).1
    have xk : DAll h' ks vs := x.keep (fun b vs' ⟨o, ho, hcl, n, hd⟩ => ⟨o, keep b o (kk b o ho).1 (kk b o ho).2, hcl, n, hd⟩) _ _
    obtain ⟨κ, K, run⟩ := kind_run (model prog w) A.in1.in1 (s := { s with heap := h' }) xk
    refine ⟨κ, run, cmp_ok (s := { s with heap := h' }) xk (fun v hv k hk => ?_) K hc (by show A.units + 1 + 1 + _ < _; omega)⟩
    obtain ⟨k', mk, hk'⟩ := x.mem v hv
    have hk2 : DIs h' k' v := DIs.keep (fun b vs' ⟨o, ho, hcl, n, hd⟩ => ⟨o, keep b o (kk b o ho).1 (kk b o ho).2, hcl, n, hd⟩) _ _ hk'
    rw [keyOf_eq hk']
    exact NestedIs.inj _ _ _ (hk2.nested _ _) (hk.nested _ _)
  · exact h _ _ out hs hb.perm (fun b o e => sortedAll_old e) (Nat.le_succ _) (sortedAll_at s.heap vs out.toArray)
end
end HH
namespace HH
open PySem PySem.Spec PyProof.Rows L2 PySem.SeqAt

/-! ### nested data over the tracked heap -/
mutual
def IsK (K : PySem.W.Frag) (H : Hp) : NestedKey → V → Prop
  | .none, _ => False
  | .num i, v => v = .int i
  | .text x, v => v = .str x
  | .tup ks, v => ∃ a vs, v = .ref a ∧ SqT K H a vs ∧ IsKs K H ks vs
def IsKs (K : PySem.W.Frag) (H : Hp) : List NestedKey → List V → Prop
  | [], vs => vs = []
  | k :: ks, vs => ∃ v r, vs = v :: r ∧ IsK K H k v ∧ IsKs K H ks r
end
/-- tuples stay -/
def Tup (K : PySem.W.Frag) (H H' : Hp) : Prop := ∀ a xs, SqT K H a xs → SqT K H' a xs
theorem same_tup {K : PySem.W.Frag} {H H' : Hp} (e : Same H H') : Tup K H H' := fun a xs h => by
  rcases h with (h | ⟨o, h⟩) | h
  · exact .inl (.inl (e _ _ h))
  · exact .inl (.inr ⟨o, e _ _ h⟩)
  · exact .inr h
section
variable {K : PySem.W.Frag} {H H' : Hp}
mutual
theorem IsK.keep (t : Tup K H H') : ∀ (k : NestedKey) (v : V), IsK K H k v → IsK K H' k v
  | .none, _, h => h
  | .num i, v, h => h
  | .text x, v, h => h
  | .tup ks, v, ⟨a, vs, e, s, r⟩ => ⟨a, vs, e, t _ _ s, IsKs.keep t ks vs r⟩
theorem IsKs.keep (t : Tup K H H') : ∀ (k : List NestedKey) (v : List V), IsKs K H k v → IsKs K H' k v
  | [], _, h => h
  | k :: ks, v, ⟨x, r, e, a, b⟩ => ⟨x, r, e, IsK.keep t k x a, IsKs.keep t ks r b⟩
end
theorem IsKs.length : ∀ {ks : List NestedKey} {vs : List V}, IsKs K H ks vs → vs.length = ks.length
  | [], _, h => by rw [show _ = [] from h]; rfl
  | k :: ks, _, ⟨x, r, e, a, b⟩ => by rw [e, List.length_cons, List.length_cons, IsKs.length b]
theorem IsKs.get : ∀ {ks : List NestedKey} {vs : List V} {i : Nat} {k : NestedKey}, IsKs K H ks vs → ks[i]? = some k → ∃ v, vs[i]? = some v ∧ IsK K H k v
  | [], _, i, k, h, e => by simp at e
  | k :: ks, _, 0, k', ⟨x, r, e, a, b⟩, e' => by
    subst e
    obtain rfl : k = k' := by simpa using e'
    exact ⟨x, rfl, a⟩
  | k :: ks, _, i + 1, k', ⟨x, r, e, a, b⟩, e' => by
    subst e
    exact IsKs.get (i := i) b (by simpa using e')
theorem IsKs.app : ∀ {ks ls : List NestedKey} {vs us : List V}, IsKs K H ks vs → IsKs K H ls us → IsKs K H (ks ++ ls) (vs ++ us)
  | [], _, _, _, h, g => by rw [show _ = [] from h]; exact g
  | k :: ks, _, _, _, ⟨x, r, e, a, b⟩, g => ⟨x, r ++ _, by rw [e]; rfl, a, IsKs.app b g⟩
end
section
variable {X : Cx} {pins : List (Addr × Obj)} {σ : L2.St} {H : Hp} {s : Shared}
theorem isTup_iff {h : Heap} {a : Addr} {vs : Array Value} (p : IsTup h a vs) : h.IsTuple a vs := p
mutual
theorem IsK.dis (I : Inv X pins σ H s) : ∀ (k : NestedKey) (v : V) (u : Value), IsK X.K H k v → RelV v u → DIs s.heap k u
  | .none, _, _, h, _ => h.elim
  | .num i, v, u, h, r => by
    cases (show v = .int i from h)
    obtain ⟨t, rfl⟩ := (show ∃ t, u = Value.int i t from r)
    exact .int i t
  | .text x, v, u, h, r => by
    cases (show v = .str x from h)
    obtain ⟨t, rfl⟩ := (show ∃ t, u = Value.str x t from r)
    exact .text x t
  | .tup ks, v, u, ⟨a, vs, e, sq, rk⟩, r => by
    subst e
    cases (show u = Value.ref a from r)
    obtain ⟨its, rv, p, _⟩ := I.tuple sq
    exact .tup (isTup_iff p) (by simpa using IsKs.dis I ks vs its rk rv)
theorem IsKs.dis (I : Inv X pins σ H s) : ∀ (k : List NestedKey) (v : List V) (u : List Value), IsKs X.K H k v → Vals v u → DAll s.heap k u
  | [], _, _, h, r => by cases (show _ = [] from h); cases r; exact .nil
  | k :: ks, _, _, ⟨x, r', e, a, b⟩, r => by
    subst e
    cases r with
    | cons r1 r2 => exact .cons (IsK.dis I k x _ a r1) (IsKs.dis I ks r' _ b r2)
end
theorem IsK.key (I : Inv X pins σ H s) {k : NestedKey} {b : Addr} (h : IsK X.K H k (.ref b)) (hd : k.depth ≤ 8) : (nestedKind X.prog X.w).is s.heap k b :=
  ⟨(IsK.dis I k _ _ h rfl).nested _ _, hd⟩
end

/-! ### dicts whose keys are nested data: xs are keys, where their tuples stand, values -/
abbrev NX := List (NestedKey × Addr × V)
def NdRel (xs : NX) (ys : List (NestedKey × Addr × Value)) : Prop := Paired (fun (p : NestedKey × Addr × V) (q : NestedKey × Addr × Value) => p.1 = q.1 ∧ p.2.1 = q.2.1 ∧ RelV p.2.2 q.2.2) xs ys
def NdO (P : Program) (w : World) (d : Addr) (xs : NX) : HO := .ext fun h => xs.length ≤ sizeLine ∧ (d == sysModules) = false ∧ ∃ ys, NdRel xs ys ∧
  ∃ o es ep, h.get? d = some o ∧ o.ExactDict ∧ o.data = .dict es ep ∧ es.toList = ys.map (entryOfKey (nestedKind P w)) ∧ (ys.map (·.1)).Nodup
def kvX (xs : NX) : List (NestedKey × V) := xs.map fun x => (x.1, x.2.2)
def NdAt (P : Program) (w : World) (K : PySem.W.Frag) (H : Hp) (d : Addr) (kvs : List (NestedKey × V)) : Prop :=
  ∃ xs : NX, H d = some (NdO P w d xs) ∧ kvX xs = kvs ∧ ∀ x ∈ xs, IsK K H x.1 (.ref x.2.1) ∧ x.1.depth ≤ 8
def putX (xs : NX) (k : NestedKey) (b : Addr) (v : V) : NX :=
  if (valV (kvX xs) k).isSome = true then xs.map (fun x => if x.1 = k then (x.1, x.2.1, v) else x) else xs ++ [(k, b, v)]
theorem kvX_put (xs : NX) (k : NestedKey) (b : Addr) (v : V) : kvX (putX xs k b v) = putK (kvX xs) k v := by
  unfold putX putK
  rw [valV_any]
  by_cases h : (valV (kvX xs) k).isSome = true
  · rw [if_pos h, if_pos h]
    unfold kvX
    rw [List.map_map, List.map_map]
    refine List.map_congr_left fun x _ => ?_
    by_cases e : x.1 = k <;> simp [e]
  · rw [if_neg h, if_neg h]
    simp [kvX]
theorem putX_len (xs : NX) (k : NestedKey) (b : Addr) (v : V) : (putX xs k b v).length ≤ xs.length + 1 := by
  unfold putX
  split
  · rw [List.length_map]; omega
  · rw [List.length_append]; simp
theorem mem_putX {xs : NX} {k : NestedKey} {b : Addr} {v : V} {x : NestedKey × Addr × V} (h : x ∈ putX xs k b v) : (∃ y ∈ xs, x.1 = y.1 ∧ x.2.1 = y.2.1) ∨ (x.1 = k ∧ x.2.1 = b) := by
  unfold putX at h
  split at h
  · obtain ⟨y, hy, e⟩ := List.mem_map.mp h
    refine .inl ⟨y, hy, ?_⟩
    subst e
    split <;> exact ⟨rfl, rfl⟩
  · rcases List.mem_append.mp h with h | h
    · exact .inl ⟨x, h, rfl, rfl⟩
    · rw [List.mem_singleton] at h
      subst h
      exact .inr ⟨rfl, rfl⟩
theorem NdRel.val {xs : NX} {ys : List (NestedKey × Addr × Value)} (r : NdRel xs ys) (k : NestedKey) : RelO (valV (kvX xs) k) ((atKey ys k).map (·.2)) := by
  unfold NdRel at r
  induction r with
  | nil => exact True.intro
  | @cons p q ps qs h t ih =>
    obtain ⟨h1, _, h2⟩ := h
    show RelO (valV ((p.1, p.2.2) :: kvX ps) k) _
    by_cases e : p.1 = k
    · have e' : q.1 = k := h1.symm.trans e
      have b : atKey (q :: qs) k = some q.2 := by simp [atKey, List.find?_cons, e']
      rw [valV_pos (p := (p.1, p.2.2)) e, b]; exact h2
    · have e' : ¬ q.1 = k := fun z => e (h1.trans z)
      have b : atKey (q :: qs) k = atKey qs k := by simp [atKey, List.find?_cons, e']
      rw [valV_neg (p := (p.1, p.2.2)) e, b]; exact ih
theorem NdRel.repl {xs : NX} {ys : List (NestedKey × Addr × Value)} (r : NdRel xs ys) (k : NestedKey) {v : V} {u : Value} (rv : RelV v u) :
    NdRel (xs.map fun x => if x.1 = k then (x.1, x.2.1, v) else x) (ys.map (putAt k u)) := by
  unfold NdRel at r ⊢
  induction r with
  | nil => exact .nil
  | @cons p q ps qs h t ih =>
    rw [List.map_cons, List.map_cons]
    refine .cons ?_ ih
    obtain ⟨h1, h2, h3⟩ := h
    unfold putAt
    by_cases e : p.1 = k
    · rw [if_pos e, if_pos (h1.symm.trans e)]; exact ⟨h1, h2, rv⟩
    · rw [if_neg e, if_neg (fun z => e (h1.trans z))]; exact ⟨h1, h2, h3⟩
theorem NdRel.put {xs : NX} {ys : List (NestedKey × Addr × Value)} (r : NdRel xs ys) (k : NestedKey) (b : Addr) {v : V} {u : Value} (rv : RelV v u) : NdRel (putX xs k b v) (storedH ys k b u) := by
  have e : (valV (kvX xs) k).isSome = (atKey ys k).isSome := by
    rw [(r.val k).isSome_eq, Option.isSome_map]
  unfold putX storedH
  rw [e]
  by_cases q : (atKey ys k).isSome = true
  · rw [if_pos q, if_pos q]; exact r.repl k rv
  · rw [if_neg q, if_neg q]; exact Paired.snoc r ⟨rfl, rfl, rv⟩
def dropX (xs : NX) (k : NestedKey) : NX := xs.filter fun x => decide (x.1 ≠ k)
theorem kvX_drop (xs : NX) (k : NestedKey) : kvX (dropX xs k) = dropK (kvX xs) k := by
  unfold kvX dropX dropK
  rw [List.filter_map]
  rfl
theorem NdRel.drop {xs : NX} {ys : List (NestedKey × Addr × Value)} (r : NdRel xs ys) (k : NestedKey) : NdRel (dropX xs k) (withoutH ys k) := by
  unfold NdRel at r ⊢
  unfold dropX withoutH
  induction r with
  | nil => exact .nil
  | @cons p q ps qs h t ih =>
    obtain ⟨h1, h2⟩ := h
    rw [List.filter_cons, List.filter_cons]
    by_cases e : p.1 = k
    · have a : ¬ decide (p.1 ≠ k) = true := by simp [e]
      have b : ¬ decide (q.1 ≠ k) = true := by simp [h1.symm.trans e]
      rw [if_neg a, if_neg b]; exact ih
    · have e' : ¬ q.1 = k := fun z => e (h1.trans z)
      have a : decide (p.1 ≠ k) = true := by simp [e]
      have b : decide (q.1 ≠ k) = true := by simp [e']
      rw [if_pos a, if_pos b]; exact .cons ⟨h1, h2⟩ ih
theorem NdRel.length {xs : NX} {ys : List (NestedKey × Addr × Value)} (r : NdRel xs ys) : xs.length = ys.length := Paired.length r
theorem NdRel.keys {xs : NX} {ys : List (NestedKey × Addr × Value)} (r : NdRel xs ys) : xs.map (·.1) = ys.map (·.1) := by
  unfold NdRel at r
  induction r with
  | nil => rfl
  | cons h t ih => rw [List.map_cons, List.map_cons, ih, h.1]

section
variable {X : Cx} {pins : List (Addr × Obj)} {σ : L2.St} {H : Hp} {s : Shared} {d : Addr} {xs : NX} {A : Around} {E : Value → Shared → Prop}
theorem nd_of (I : Inv X pins σ H s) (e : H d = some (NdO X.prog X.w d xs)) (hk : ∀ x ∈ xs, IsK X.K H x.1 (.ref x.2.1) ∧ x.1.depth ≤ 8) :
    xs.length ≤ sizeLine ∧ (d == sysModules) = false ∧ ∃ ys, NdRel xs ys ∧ s.heap.DictOfH (nestedKind X.prog X.w) d ys := by
  obtain ⟨⟨z, y, ys, r, o, es, ep, h1, h2, h3, h4, h5⟩, _⟩ := (show ObjOk X.prog X.w H s.heap d (NdO X.prog X.w d xs) from I.hok d _ e)
  refine ⟨z, y, ys, r, o, es, ep, h1, h2, h3, h4, fun q hq => ?_, h5⟩
  have all : ∀ {l : NX} {m : List (NestedKey × Addr × Value)}, NdRel l m → (∀ x ∈ l, IsK X.K H x.1 (.ref x.2.1) ∧ x.1.depth ≤ 8) → ∀ q ∈ m, (nestedKind X.prog X.w).is s.heap q.1 q.2.1 := by
    intro l m r
    unfold NdRel at r
    induction r with
    | nil => intro _ q hq; exact nomatch hq
    | @cons p q ps qs h t ih =>
      intro hl x hx
      rcases List.mem_cons.mp hx with e | hx
      · subst e
        obtain ⟨a, b⟩ := hl p List.mem_cons_self
        rw [← h.1, ← h.2.1]
        exact a.key I b
      · exact ih (fun y hy => hl y (List.mem_cons_of_mem _ hy)) x hx
  exact all r hk q hq
theorem nd_new {H' : Hp} {h' : Heap} {xs : NX} {ys : List (NestedKey × Addr × Value)} (z : xs.length ≤ sizeLine) (hd : (d == sysModules) = false) (r : NdRel xs ys) (dd : h'.DictOfH (nestedKind X.prog X.w) d ys) : ObjOk X.prog X.w H' h' d (NdO X.prog X.w d xs) := by
  obtain ⟨o, es, ep, h1, h2, h3, h4, _, h5⟩ := dd
  refine ⟨⟨z, hd, ys, r, o, es, ep, h1, h2, h3, h4, h5⟩, ⟨o, h1⟩, ?_⟩
  rintro g1 g2 ⟨z, hd, ys, r, o, es, ep, h1, h⟩ k
  exact ⟨z, hd, ys, r, o, es, ep, k _ h1, h⟩
theorem room_nd (hu : A.units + 20 < cLine) : (nestedKind X.prog X.w).room A.in1 := by show A.units + 1 + 8 < cLine; omega
theorem nd_write {h' : Heap} {t' : Nat} {xs' : NX} {ys' : List (NestedKey × Addr × Value)} (I : Inv X pins σ H s) (e : H d = some (NdO X.prog X.w d xs)) (hs : Heap.SameBut d s.heap h') (z : xs'.length ≤ sizeLine) (hd : (d == sysModules) = false)
    (r : NdRel xs' ys') (dd : h'.DictOfH (nestedKind X.prog X.w) d ys') : Inv X pins σ (upd H d (NdO X.prog X.w d xs')) { s with heap := h', toks := t' } :=
  d_write I (by rw [e]; exact True.intro) hs (let ⟨q, _, _, hq, _⟩ := dd; ⟨q, hq⟩) (nd_new z hd r dd)
end
/-- the keys' tuples stay when the dict changes -/
theorem tup_upd {K : PySem.W.Frag} {H : Hp} {d : Addr} {o u : HO} (e : H d = some o) (h1 : ∀ xs, o ≠ .tup xs) (h2 : ∀ ob xs, o ≠ .frz ob (.tup xs)) : Tup K H (upd H d u) := fun a xs h => by
  rcases h with (h | ⟨ob, h⟩) | h
  · exact .inl (.inl (by rw [upd_ne (ne_of h e (fun z => h1 xs z.symm))]; exact h))
  · exact .inl (.inr ⟨ob, by rw [upd_ne (ne_of h e (fun z => h2 ob xs z.symm))]; exact h⟩)
  · exact .inr h
theorem tup_new {K : PySem.W.Frag} {H : Hp} {d : Addr} {u : HO} (e : H d = none) : Tup K H (upd H d u) := fun a xs h => by
  rcases h with (h | ⟨ob, h⟩) | h
  · exact .inl (.inl (by rw [upd_ne (ne_of_none h e)]; exact h))
  · exact .inl (.inr ⟨ob, by rw [upd_ne (ne_of_none h e)]; exact h⟩)
  · exact .inr h
theorem Tup.trans {K : PySem.W.Frag} {H H1 H2 : Hp} (a : Tup K H H1) (b : Tup K H1 H2) : Tup K H H2 := fun x xs h => b x xs (a x xs h)
theorem NdAt.keys_nodup {X : Cx} {pins : List (Addr × Obj)} {σ : L2.St} {H : Hp} {s : Shared} {d : Addr} {kvs : List (NestedKey × V)} (I : Inv X pins σ H s) (n : NdAt X.prog X.w X.K H d kvs) : (kvs.map (·.1)).Nodup := by
  obtain ⟨xs, e, rfl, hk⟩ := n
  obtain ⟨z, hd, ys, r, o, es, ep, _, _, _, _, _, nd⟩ := nd_of I e hk
  unfold kvX
  rw [List.map_map, show ((fun x : NestedKey × V => x.1) ∘ fun x : NestedKey × Addr × V => (x.1, x.2.2)) = fun x => x.1 from rfl, r.keys]
  exact nd
end HH
namespace HH
open PySem PySem.Spec PyProof.Rows L2 PySem.SeqAt

section
variable {X : Cx} {pins : List (Addr × Obj)} {σ : L2.St} {H : Hp} {s : Shared} {d : Addr} {kvs : List (NestedKey × V)} {k : NestedKey} {y v : V} {u r : Value} {A : Around} {E : Value → Shared → Prop}
abbrev Nd (X : Cx) (H : Hp) (d : Addr) (kvs : List (NestedKey × V)) : Prop := NdAt X.prog X.w X.K H d kvs
/-- y is the key k: a tuple -/
def KeyAt (K : PySem.W.Frag) (H : Hp) (k : NestedKey) (y : V) : Prop := ∃ b, y = .ref b ∧ IsK K H k y ∧ k.depth ≤ 8
theorem nd_type (I : Inv X pins σ H s) (n : Nd X H d kvs) : s.TypeIs (.ref d) "dict" ∧ (∀ b, Value.ref d = .ref b → ∃ ob, s.heap.get? b = some ob ∧ ob.dict = none) ∧ (d == sysModules) = false := by
  obtain ⟨xs, e, _, hk⟩ := n
  obtain ⟨_, hd, ys, _, dd⟩ := nd_of I e hk
  refine ⟨dd.typeIs, fun b q => ?_, hd⟩
  cases q
  obtain ⟨ob, _, _, h1, h2, _⟩ := dd
  exact ⟨ob, h1, h2.2.1⟩
theorem nd_getItem {Q : Value → Shared → Prop} (hu : A.units + 20 < cLine) (I : Inv X pins σ H s) (n : Nd X H d kvs) (hy : KeyAt X.K H k y) (l : valV kvs k = some v) (ry : RelV y u) (h : ∀ w' s', Inv X pins σ H s' → RelV v w' → Q w' s') :
    wpAny (model X.prog X.w) A (getItem (.ref d) u) Q E s := by
  obtain ⟨xs, e, rfl, hk⟩ := n
  obtain ⟨b, rfl, ik, dep⟩ := hy
  cases (show u = Value.ref b from ry)
  obtain ⟨_, _, ys, rel, dd⟩ := nd_of I e hk
  obtain ⟨w', hw, rw'⟩ := RelO.some_of (v := v) (o := (atKey ys k).map (·.2)) (by rw [← l]; exact rel.val k)
  obtain ⟨p, hp, hp2⟩ := Option.map_eq_some_iff.mp hw
  refine wpAny_getItem_heap (room_nd hu) (ik.key I dep) dd hp ?_
  rw [hp2]
  exact h w' _ (I.tok _) rw'
theorem nd_get2 {Q : Value → Shared → Prop} {z : V} (hu : A.units + 20 < cLine) (I : Inv X pins σ H s) (n : Nd X H d kvs) (hy : KeyAt X.K H k y) (ry : RelV y u) (rz : RelV z r) (h : ∀ w' s', Inv X pins σ H s' → RelV ((valV kvs k).getD z) w' → Q w' s') :
    wpAny (model X.prog X.w) A (call (.builtin "dict.get") [.ref d, u, r]) Q E s := by
  obtain ⟨xs, e, rfl, hk⟩ := n
  obtain ⟨b, rfl, ik, dep⟩ := hy
  cases (show u = Value.ref b from ry)
  obtain ⟨_, hd, ys, rel, dd⟩ := nd_of I e hk
  refine call_meetsIn PySem.F.slot_dict_get dd.typeIs PySem.F.entry_dict_get (PySem.F.args_dict_get_3 _ _ _) (meetsH_dict_get_default (nestedKind X.prog X.w) d b hd r) ⟨room_nd hu, k, ys, ik.key I dep, dd, h _ _ (I.tok _) ?_⟩
  exact (rel.val k).getD rz
theorem nd_in {Q : Value → Shared → Prop} (hu : A.units + 20 < cLine) (I : Inv X pins σ H s) (n : Nd X H d kvs) (hy : KeyAt X.K H k y) (ry : RelV y u) (h : ∀ s', Inv X pins σ H s' → Q (.bool (valV kvs k).isSome) s') :
    wpAny (model X.prog X.w) A (compareOp .In u (.ref d)) Q E s := by
  obtain ⟨xs, e, rfl, hk⟩ := n
  obtain ⟨b, rfl, ik, dep⟩ := hy
  cases (show u = Value.ref b from ry)
  obtain ⟨_, hd, ys, rel, dd⟩ := nd_of I e hk
  refine wpAny_in_heap (room_nd hu) (ik.key I dep) hd dd ?_
  rw [show (atKey ys k).isSome = (valV (kvX xs) k).isSome by rw [(rel.val k).isSome_eq, Option.isSome_map]]
  exact h _ (I.tok _)
theorem nd_notIn {Q : Value → Shared → Prop} (hu : A.units + 20 < cLine) (I : Inv X pins σ H s) (n : Nd X H d kvs) (hy : KeyAt X.K H k y) (ry : RelV y u) (h : ∀ s', Inv X pins σ H s' → Q (.bool (!(valV kvs k).isSome)) s') :
    wpAny (model X.prog X.w) A (compareOp .NotIn u (.ref d)) Q E s := by
  obtain ⟨xs, e, rfl, hk⟩ := n
  obtain ⟨b, rfl, ik, dep⟩ := hy
  cases (show u = Value.ref b from ry)
  obtain ⟨_, hd, ys, rel, dd⟩ := nd_of I e hk
  refine wpAny_notIn_heap (room_nd hu) (ik.key I dep) hd dd ?_
  rw [show (atKey ys k).isSome = (valV (kvX xs) k).isSome by rw [(rel.val k).isSome_eq, Option.isSome_map]]
  exact h _ (I.tok _)
/-- what a change leaves -/
def NdTo (P : Program) (w : World) (K : PySem.W.Frag) (H : Hp) (d : Addr) (kvs' : List (NestedKey × V)) (R : Hp → Prop) : Prop :=
  ∀ xs', NdAt P w K (upd H d (NdO P w d xs')) d kvs' → R (upd H d (NdO P w d xs'))
theorem nd_tup {P : Program} {w : World} {K : PySem.W.Frag} {xs : NX} {u : HO} (e : H d = some (NdO P w d xs)) : Tup K H (upd H d u) :=
  tup_upd e (fun _ z => nomatch z) (fun _ _ z => nomatch z)
theorem nd_put_at {xs : NX} (e : H d = some (NdO X.prog X.w d xs)) (hk : ∀ x ∈ xs, IsK X.K H x.1 (.ref x.2.1) ∧ x.1.depth ≤ 8) {b : Addr} (ik : IsK X.K H k (.ref b)) (dep : k.depth ≤ 8) (v : V) :
    Nd X (upd H d (NdO X.prog X.w d (putX xs k b v))) d (putK (kvX xs) k v) := by
  refine ⟨_, upd_same, kvX_put _ _ _ _, fun x hx => ?_⟩
  have t := nd_tup (K := X.K) (u := NdO X.prog X.w d (putX xs k b v)) e
  rcases mem_putX hx with ⟨z, hz, e1, e2⟩ | ⟨e1, e2⟩
  · rw [e1, e2]
    exact ⟨(hk z hz).1.keep t, (hk z hz).2⟩
  · rw [e1, e2]
    exact ⟨ik.keep t, dep⟩
theorem nd_setItem {Q : Unit → Shared → Prop} (hu : A.units + 20 < cLine) (I : Inv X pins σ H s) (n : Nd X H d kvs) (hy : KeyAt X.K H k y) (hl : kvs.length < sizeLine) (ry : RelV y u) (rv : RelV v r)
    (h : NdTo X.prog X.w X.K H d (putK kvs k v) fun H' => ∀ s', Inv X pins σ H' s' → Q () s') : wpAny (model X.prog X.w) A (setItem (.ref d) u r) Q E s := by
  obtain ⟨xs, e, rfl, hk⟩ := n
  obtain ⟨b, rfl, ik, dep⟩ := hy
  cases (show u = Value.ref b from ry)
  obtain ⟨z, hd, ys, rel, dd⟩ := nd_of I e hk
  have lx : (kvX xs).length = xs.length := List.length_map _
  have hz : ys.length ≤ sizeLine := by rw [← rel.length]; exact z
  refine wpAny_setItem_heap (hsz := hz) (room_nd hu) (ik.key I dep) dd fun h' dd' hs => h (putX xs k b v) (nd_put_at e hk ik dep v) _ (nd_write I e hs ?_ hd (rel.put k b rv) dd')
  have := putX_len xs k b v
  omega
theorem nd_dictSet {Q : Unit → Shared → Prop} (hu : A.units + 20 < cLine) (I : Inv X pins σ H s) (n : Nd X H d kvs) (hy : KeyAt X.K H k y) (hl : kvs.length < sizeLine) (ry : RelV y u) (rv : RelV v r)
    (h : NdTo X.prog X.w X.K H d (putK kvs k v) fun H' => ∀ s', Inv X pins σ H' s' → Q () s') : wpAny (model X.prog X.w) A (dictSet d u r) Q E s := by
  obtain ⟨xs, e, rfl, hk⟩ := n
  obtain ⟨b, rfl, ik, dep⟩ := hy
  cases (show u = Value.ref b from ry)
  obtain ⟨z, hd, ys, rel, dd⟩ := nd_of I e hk
  have lx : (kvX xs).length = xs.length := List.length_map _
  have hz : ys.length ≤ sizeLine := by rw [← rel.length]; exact z
  refine wpAny_dictSet_heap (hsz := hz) (by show A.units + 8 < cLine; omega) (ik.key I dep) dd fun h' dd' hs => h (putX xs k b v) (nd_put_at e hk ik dep v) _ (nd_write I e hs ?_ hd (rel.put k b rv) dd')
  have := putX_len xs k b v
  omega
theorem nd_pop {Q : Value → Shared → Prop} (hu : A.units + 20 < cLine) (I : Inv X pins σ H s) (n : Nd X H d kvs) (hy : KeyAt X.K H k y) (l : valV kvs k = some v) (ry : RelV y u)
    (h : NdTo X.prog X.w X.K H d (dropK kvs k) fun H' => ∀ w' s', Inv X pins σ H' s' → RelV v w' → Q w' s') : wpAny (model X.prog X.w) A (call (.builtin "dict.pop") [.ref d, u]) Q E s := by
  obtain ⟨xs, e, rfl, hk⟩ := n
  obtain ⟨b, rfl, ik, dep⟩ := hy
  cases (show u = Value.ref b from ry)
  obtain ⟨z, hd, ys, rel, dd⟩ := nd_of I e hk
  obtain ⟨w', hw, rw'⟩ := RelO.some_of (v := v) (o := (atKey ys k).map (·.2)) (by rw [← l]; exact rel.val k)
  obtain ⟨p, hp, hp2⟩ := Option.map_eq_some_iff.mp hw
  have hz : ys.length ≤ sizeLine := by rw [← rel.length]; exact z
  have at' : Nd X (upd H d (NdO X.prog X.w d (dropX xs k))) d (dropK (kvX xs) k) := ⟨_, upd_same, kvX_drop _ _, fun x hx => by
    have m := (List.mem_filter.mp hx).1
    exact ⟨(hk x m).1.keep (nd_tup e), (hk x m).2⟩⟩
  refine call_meetsIn PySem.F.slot_dict_pop dd.typeIs PySem.F.entry_dict_pop (PySem.F.args_dict_pop_2 _ _) (meetsH_dict_pop (knd := nestedKind X.prog X.w) (d := d) (a := b) hd [] (.inl rfl)) ⟨room_nd hu, k, ys, ik.key I dep, dd, hz, fun p' hp' h' dd' hs => ?_, fun hn => ?_⟩
  · rw [hp] at hp'
    cases hp'
    rw [hp2]
    exact h (dropX xs k) at' w' _ (nd_write I e hs (Nat.le_trans (List.length_filter_le _ _) z) hd (rel.drop k) dd') rw'
  · rw [hp] at hn; cases hn
theorem nd_len {Q : Value → Shared → Prop} (I : Inv X pins σ H s) (n : Nd X H d kvs) (h : ∀ t s', Inv X pins σ H s' → Q (.int kvs.length t) s') : wpAny (model X.prog X.w) A (call (.builtin "len") [.ref d]) Q E s := by
  obtain ⟨xs, e, rfl, hk⟩ := n
  obtain ⟨z, hd, ys, rel, dd⟩ := nd_of I e hk
  have lx : (kvX xs).length = ys.length := by rw [show (kvX xs).length = xs.length from List.length_map _, rel.length]
  rw [rel.length] at z
  have m : s.heap.DictKeyed (nestedKind X.prog X.w) d (pairsH ys) := ⟨ys, dd, rfl⟩
  have ln : (pairsH ys).length = ys.length := by simp [pairsH]
  refine PyProof.Rows.call_len_slot (n := ys.length) dd.typeIs F.slot_dict_len (fun Q' hq => len_keyed (kvs := pairsH ys) hd m (by rw [ln]; exact hq)) (by omega) (by rw [sizeLine_eq] at z; omega) ?_
  rw [← lx]
  exact h _ _ (I.tok _)
end

/-! ### the rules -/
def tNGet (P : Program) (w : World) (K : PySem.W.Frag) (td ty : TE) : TE := fun σ H Q => td σ H fun x H1 => ty σ H1 fun y H2 => ∃ d kvs k v, x = .ref d ∧ NdAt P w K H2 d kvs ∧ KeyAt K H2 k y ∧ valV kvs k = some v ∧ Q v H2
def tNGet2 (P : Program) (w : World) (K : PySem.W.Frag) (td ty tz : TE) : TE := fun σ H Q => td σ H fun x H1 => ∃ d, x = .ref d ∧ (∃ kvs, NdAt P w K H1 d kvs) ∧ ty σ H1 fun y H2 => tz σ H2 fun z H3 => ∃ kvs k, NdAt P w K H3 d kvs ∧ KeyAt K H3 k y ∧ Q ((valV kvs k).getD z) H3
def tNPop (P : Program) (w : World) (K : PySem.W.Frag) (td ty : TE) : TE := fun σ H Q => td σ H fun x H1 => ∃ d, x = .ref d ∧ (∃ kvs, NdAt P w K H1 d kvs) ∧ ty σ H1 fun y H2 => ∃ kvs k v, NdAt P w K H2 d kvs ∧ KeyAt K H2 k y ∧ valV kvs k = some v ∧ NdTo P w K H2 d (dropK kvs k) (Q v)
def rNIn (P : Program) (w : World) (K : PySem.W.Frag) (neg : Bool) : R2 := fun y x H Q => ∃ d kvs k, x = .ref d ∧ NdAt P w K H d kvs ∧ KeyAt K H k y ∧ Q (.bl (if neg = true then !(valV kvs k).isSome else (valV kvs k).isSome)) H
def sNPut (P : Program) (w : World) (K : PySem.W.Frag) (td ty tv : TE) : TS := fun D σ H => tv σ H fun v H1 => td σ H1 fun x H2 => ty σ H2 fun y H3 => ∃ d kvs k, x = .ref d ∧ NdAt P w K H3 d kvs ∧ KeyAt K H3 k y ∧ kvs.length < sizeLine ∧ NdTo P w K H3 d (putK kvs k v) (D.nx σ)
section
variable {X : Cx} {o i e f value : Expr} {pos pos' tpos apos cpos : Pos} {td ty tv tz : TE}
theorem pe_nget {P : Program} {w : World} {K : PySem.W.Frag} (hu : X.A.units + 20 < cLine) (ho : PE X o td) (hi : PE X i ty) (hs : NoSl i) (hX : X.prog = P ∧ X.w = w ∧ X.K = K := by exact ⟨rfl, rfl, rfl⟩) : PE X (.Subscript o i pos) (tNGet P w K td ty) := by
  obtain ⟨rfl, rfl, rfl⟩ := hX
  refine ⟨fun pins s σ H Q I h => ?_⟩
  refine subD_of PySem.F.slot_dict_getitem.lookup hs (thn (ho.run pins s σ H _ I h) fun u s1 ⟨x, H1, I1, rx, q1⟩ => thn (hi.run pins s1 σ H1 _ I1 q1) fun iv s2 ⟨y, H2, I2, ry, d, kvs, k, v, ex, n, hy, l, q2⟩ => ?_)
  subst ex
  obtain rfl : u = Value.ref d := rx
  exact ⟨(nd_type I2 n).1, nd_getItem hu I2 n hy l ry fun w' s3 I3 rw' => ⟨v, H2, I3, rw', q2⟩⟩
theorem op_nin {P : Program} {w : World} {K : PySem.W.Frag} (hu : X.A.units + 20 < cLine) (hX : X.prog = P ∧ X.w = w ∧ X.K = K := by exact ⟨rfl, rfl, rfl⟩) : OpR X (compareOp .In) (rNIn P w K false) := by
  obtain ⟨rfl, rfl, rfl⟩ := hX
  intro pins s σ H y x u r Q I ry rx h
  obtain ⟨d, kvs, k, ex, n, hy, q⟩ := h
  subst ex
  obtain rfl : r = Value.ref d := rx
  exact nd_in hu I n hy ry fun s' I' => ⟨.bl (valV kvs k).isSome, H, I', rfl, q⟩
theorem op_nnotin {P : Program} {w : World} {K : PySem.W.Frag} (hu : X.A.units + 20 < cLine) (hX : X.prog = P ∧ X.w = w ∧ X.K = K := by exact ⟨rfl, rfl, rfl⟩) : OpR X (compareOp .NotIn) (rNIn P w K true) := by
  obtain ⟨rfl, rfl, rfl⟩ := hX
  intro pins s σ H y x u r Q I ry rx h
  obtain ⟨d, kvs, k, ex, n, hy, q⟩ := h
  subst ex
  obtain rfl : r = Value.ref d := rx
  exact nd_notIn hu I n hy ry fun s' I' => ⟨.bl (!(valV kvs k).isSome), H, I', rfl, q⟩
theorem ps_nput {P : Program} {w : World} {K : PySem.W.Frag} (hu : X.A.units + 20 < cLine) (ho : PE X o td) (hi : PE X i ty) (hv : PE X value tv) (hs : swapsWith value (some (.Subscript o i pos')) pos.line X.env = pure false) (hX : X.prog = P ∧ X.w = w ∧ X.K = K := by exact ⟨rfl, rfl, rfl⟩) :
    PS X (.Assign [.Subscript o i pos'] value pos) (sNPut P w K td ty tv) := by
  obtain ⟨rfl, rfl, rfl⟩ := hX
  refine ⟨fun pins s σ H D I h => ?_⟩
  refine wpAny_Assign_Subscript (thn (hv.run pins s σ H _ I h) fun r s1 ⟨v, H1, I1, rv, q1⟩ => thn (ho.run pins s1 σ H1 _ I1 q1) fun u s2 ⟨x, H2, I2, rx, q2⟩ => thn (hi.run pins s2 σ H2 _ I2 q2) fun iv s3 ⟨y, H3, I3, ry, d, kvs, k, ex, n, hy, l, q3⟩ => ?_) hs
  subst ex
  obtain rfl : u = Value.ref d := rx
  exact nd_setItem hu I3 n hy l ry rv fun xs' n' s4 I4 => ⟨σ, _, I4, q3 xs' n'⟩
theorem pe_nget2 {P : Program} {w : World} {K : PySem.W.Frag} (hu : X.A.units + 20 < cLine) (ho : PE X o td) (he : PE X e ty) (hf : PE X f tz) (m : M2 X o "get" apos e f cpos) (hX : X.prog = P ∧ X.w = w ∧ X.K = K := by exact ⟨rfl, rfl, rfl⟩) : PE X (.Call (.Attribute o "get" apos) [e, f] [] cpos) (tNGet2 P w K td ty tz) := by
  obtain ⟨rfl, rfl, rfl⟩ := hX
  refine ⟨fun pins s σ H Q I h => ?_⟩
  refine wpAny_Call_method m.base m.few m.line PySem.F.plainAttrs_dict PySem.F.slot_dict_get PySem.F.type_dict_get (thn (ho.run pins s σ H _ I h) fun u s1 ⟨x, H1, I1, rx, d, ex, ⟨_, n⟩, q1⟩ => ?_)
  subst ex
  obtain rfl : u = Value.ref d := rx
  obtain ⟨t1, t2, _⟩ := nd_type I1 n
  refine ⟨t1, t2, ?_⟩
  rw [m.trees]
  refine Calls.callWith_builtin rfl (Calls.evalArgs_plain (Calls.spliced_cons (thn (he.run pins s1 σ H1 _ I1 q1) fun iv s2 ⟨y, H2, I2, ry, q2⟩ =>
    Calls.spliced_cons (thn (hf.run pins s2 σ H2 _ I2 q2) fun fv s3 ⟨z, H3, I3, rz, kvs, k, n3, hy, q3⟩ => Calls.spliced_nil ?_))))
  exact nd_get2 hu I3 n3 hy ry rz fun w' s4 I4 rw' => ⟨_, H3, I4, rw', q3⟩
theorem pe_npop {P : Program} {w : World} {K : PySem.W.Frag} (hu : X.A.units + 20 < cLine) (ho : PE X o td) (he : PE X e ty) (m : M1 X o "pop" apos e cpos) (hX : X.prog = P ∧ X.w = w ∧ X.K = K := by exact ⟨rfl, rfl, rfl⟩) : PE X (.Call (.Attribute o "pop" apos) [e] [] cpos) (tNPop P w K td ty) := by
  obtain ⟨rfl, rfl, rfl⟩ := hX
  refine ⟨fun pins s σ H Q I h => ?_⟩
  refine wpAny_Call_method m.base m.few m.line PySem.F.plainAttrs_dict PySem.F.slot_dict_pop PySem.F.type_dict_pop (thn (ho.run pins s σ H _ I h) fun u s1 ⟨x, H1, I1, rx, d, ex, ⟨_, n⟩, q1⟩ => ?_)
  subst ex
  obtain rfl : u = Value.ref d := rx
  obtain ⟨t1, t2, _⟩ := nd_type I1 n
  refine ⟨t1, t2, ?_⟩
  rw [m.trees]
  refine Calls.callWith_builtin rfl (Calls.evalArgs_plain (Calls.spliced_cons (thn (he.run pins s1 σ H1 _ I1 q1) fun iv s2 ⟨y, H2, I2, ry, kvs, k, v, n2, hy, l, q2⟩ => Calls.spliced_nil ?_)))
  exact nd_pop hu I2 n2 hy l ry fun xs' n' w' s4 I4 rw' => ⟨v, _, I4, rw', q2 xs' n'⟩
theorem call_nlen : CallR X (.builtin "len") (fun xs H Q => ∃ d kvs, xs = [.ref d] ∧ Nd X H d kvs ∧ Q (.int kvs.length) H) := by
  intro pins s σ H xs us Q I r q
  obtain ⟨d, kvs, rfl, n, q⟩ := q
  obtain ⟨u, eu, rx⟩ := vals1 r
  subst eu
  cases rx
  exact nd_len I n fun t s' I' => ⟨.int kvs.length, H, I', ⟨t, rfl⟩, q⟩
/-- {}, to be a dict of nested keys -/
theorem nd_empty {P : Program} {w : World} {H : Hp} (h : Heap) (hb : sysModules < h.objs.size) : ObjOk P w H (h.push { cls := .type "dict", data := .dict #[] }) h.objs.size (NdO P w h.objs.size []) := by
  refine ⟨⟨Nat.zero_le _, beq_eq_false_iff_ne.mpr (Ne.symm (Nat.ne_of_lt hb)), [], .nil, _, #[], 0, Heap.get?_push_size _ rfl, ⟨rfl, rfl, rfl⟩, rfl, rfl, List.nodup_nil⟩, ⟨_, Heap.get?_push_size _ rfl⟩, ?_⟩
  rintro g1 g2 ⟨z, hd, ys, r, o, es, ep, h1, h⟩ k
  exact ⟨z, hd, ys, r, o, es, ep, k _ h1, h⟩
theorem ndat_empty {P : Program} {w : World} {K : PySem.W.Frag} {H : Hp} {d : Addr} : NdAt P w K (upd H d (NdO P w d [])) d [] := ⟨[], upd_same, rfl, fun _ h => nomatch h⟩
def tNNew (P : Program) (w : World) : TE := fun _ H Q => ∀ p, H p = none → Q (.ref p) (upd H p (NdO P w p []))
theorem pe_nnew {P : Program} {w : World} {K : PySem.W.Frag}  (hX : X.prog = P ∧ X.w = w ∧ X.K = K := by exact ⟨rfl, rfl, rfl⟩) : PE X (.Dict [] [] pos) (tNNew P w) := by
  obtain ⟨rfl, rfl, rfl⟩ := hX
  exact ⟨fun pins s σ H Q I h =>
  wpAny_Dict_empty ⟨.ref s.heap.objs.size, _, I.laid (a := s.heap.objs.size) (o := NdO X.prog X.w s.heap.objs.size []) (t' := s.toks) (fun _ _ q => Heap.get?_push_of_some _ q) (Nat.le_refl _) (nd_empty s.heap I.big), rfl, h _ (I.hok.fresh (Nat.le_refl _))⟩⟩
end
end HH
namespace HH
open PySem PySem.Spec PyProof.Rows L2 PySem.SeqAt

section
variable {X : Cx}
/-- {k: v for target in iter if ..}, keys nested data: D the new dict -/
def tDcN (P : Program) (w : World) (K : PySem.W.Frag) (wi : TI) (g : TG) (tt : TT) (tk tv : TE) (vs : List Nat) : TE := fun σ H Q => wi σ H fun J H1 => ∀ D, H1 D = none → ∃ W : Nat → Nat → Hp → Prop, (∃ m, W 0 m (upd H1 D (NdO P w D []))) ∧ ∀ i m H, W i m H →
  (J.stop i H ∧ Q (.ref D) H) ∨ (J.go i H ∧ ∃ Nx : Hp → Prop, (∀ H', Nx H' → ∃ m', m' < m ∧ W (i + 1) m' H') ∧ ∀ x H', J.yld i H x H' → g x (wipe σ vs) H' fun σ2 H2 => wipe σ2 vs = wipe σ vs ∧ tt σ2 H2 fun b H3 =>
    if b = true then tk σ2 H3 fun y H4 => tv σ2 H4 fun z H5 => ∃ kvs k, NdAt P w K H5 D kvs ∧ KeyAt K H5 k y ∧ kvs.length < sizeLine ∧ NdTo P w K H5 D (putK kvs k z) Nx else Nx H3)
theorem dcn_core {pins : List (Addr × Obj)} {s : Shared} {σ : L2.St} {H : Hp} {Q : VK} {kx vx tg iter : Expr} {ifs : List Expr} {scope : Scope} {own : List (Str × Nat)} {pos pos' : Pos} {wi : TI} {g : TG} {tt : TT} {tk tv : TE} {use : Option (Value → Sem Unit)} {Qf : Value → Shared → Prop}
    (hu : X.A.units + 20 < cLine) (hc : X.calm = true) (hN : X.N.Nodup) (I : Inv X pins σ H s) (hi : PI X tg iter wi) (ok : BlkOk X.N X.env.scope scope own)
    (hg : ∀ s H C cl fp, PG (X.blk s H scope (compEnvC scope cl C X.env) fp) tg g) (ht : ∀ s H C cl fp, PTs (X.blk s H scope (compEnvC scope cl C X.env) fp) ifs tt)
    (hk : ∀ s H C cl fp, PE (X.blk s H scope (compEnvC scope cl C X.env) fp) kx tk) (he : ∀ s H C cl fp, PE (X.blk s H scope (compEnvC scope cl C X.env) fp) vx tv) (hs : ∀ x, foldedSetIterable iter X.env x = pure x)
    (h : tDcN X.prog X.w X.K wi g tt tk tv (own.map (·.2)) σ H Q)
    (hRR : ∀ D C s' m H', Inv X pins σ H' s' → Q (.ref D) H' → s'.heap.Ns C m → FpOk X pins H' C → compPost (model X.prog X.w) X.A X.xe use Qf (.ref D) C (.ok .next) s') :
    wpAny (model X.prog X.w) X.A (comprehension (.DictComp kx vx [⟨tg, iter, ifs, 0⟩] scope pos) scope X.env pos' newDict false (eval iter X.env) use) Qf X.xe s := by
  have free : ∀ y ∈ scope.names, y.2 = .free → ∃ c, X.env.cells.lookup y.1 = some c := fun y hy e => (ok.free y hy e).elim (fun k => I.ok.has _ (.inl k)) fun k => I.ok.has _ (.inr k)
  refine wpAny_comprehension_free (use := use) rfl hs (closure_ok free) ok.kind (fun y hy e => by rw [ok.uniq y hy, e]) (thn (hi.run pins s σ H _ I h) fun xv s1 hx => thn hx fun itv s2 h2 => ?_)
  obtain ⟨it, fp, tn, J, H2, rfl, I2, T, st2, f2, q⟩ := h2
  refine wpAny_newObj_type (newEnv_comp ?_)
  generalize hD : s2.heap.objs.size = D
  have hDn : H2 D = none := I2.hok.fresh (Nat.le_of_eq hD)
  obtain ⟨W, ⟨m0, w0⟩, turn⟩ := q D hDn
  generalize hs3 : ({ s2 with heap := s2.heap.push { cls := .type "dict", data := .dict #[] } } : Shared) = s3
  have I3 : Inv X pins σ (upd H2 D (NdO X.prog X.w D [])) s3 := by
    subst hs3 hD
    exact I2.laid (t' := s2.toks) (fun b o e => Heap.get?_push_of_some _ e) (Nat.le_refl _) (nd_empty s2.heap I2.big)
  have h3 : s3.heap = s2.heap.push { cls := .type "dict", data := .dict #[] } := by rw [← hs3]
  have sz : ∀ b ∈ fp, b < s2.heap.objs.size := fun b hb => let ⟨_, e, _⟩ := T.obj _ _ st2 b hb; Heap.lt_size e
  have f3 : ∀ b ∈ fp, FpOk X pins (upd H2 D (NdO X.prog X.w D [])) b ∧ b < s3.heap.objs.size := fun b hb =>
    ⟨⟨by rw [upd_ne (by rw [← hD]; exact Nat.ne_of_lt (sz b hb))]; exact (f2 b hb).1, (f2 b hb).2⟩, by rw [h3, Heap.size_push]; exact Nat.lt_succ_of_lt (sz b hb)⟩
  have st3 : tn 0 s3.heap := T.keep _ _ _ st2 fun b _ o e => by rw [h3]; exact Heap.get?_push_of_some _ e
  have I4 := block_start I3 ok hN f3
  have pg := hg s3 (upd H2 D (NdO X.prog X.w D [])) s3.heap.objs.size (cellsFrom (s3.heap.objs.size + 1) scope.names (cloFrom X.env.cells scope.names [])) fp
  have pt := ht s3 (upd H2 D (NdO X.prog X.w D [])) s3.heap.objs.size (cellsFrom (s3.heap.objs.size + 1) scope.names (cloFrom X.env.cells scope.names [])) fp
  have pk := hk s3 (upd H2 D (NdO X.prog X.w D [])) s3.heap.objs.size (cellsFrom (s3.heap.objs.size + 1) scope.names (cloFrom X.env.cells scope.names [])) fp
  have pe := he s3 (upd H2 D (NdO X.prog X.w D [])) s3.heap.objs.size (cellsFrom (s3.heap.objs.size + 1) scope.names (cloFrom X.env.cells scope.names [])) fp
  show codeAny _ _ (.compStart (.DictComp kx vx [⟨tg, iter, ifs, 0⟩] scope pos) 0 (.ref it) (.ref D) (compEnvC scope (cellsFrom (s3.heap.objs.size + 1) scope.names (cloFrom X.env.cells scope.names [])) s3.heap.objs.size X.env))
    (compPost (model X.prog X.w) X.A X.xe use Qf (.ref D) s3.heap.objs.size) { s3 with heap := pushCells (s3.heap.push { cls := .type "dict", data := .dict #[] }) scope.names }
  have nfp : ∀ b ∈ fp, (upd H2 D (NdO X.prog X.w D [])) b = none := fun b hb => (f3 b hb).1.1
  generalize hce : compEnvC scope (cellsFrom (s3.heap.objs.size + 1) scope.names (cloFrom X.env.cells scope.names [])) s3.heap.objs.size X.env = ce at I4 pg pt pk pe ⊢
  have cL : ce.locals = s3.heap.objs.size := by subst hce; rfl
  generalize hH3 : upd H2 D (NdO X.prog X.w D []) = H3 at I3 I4 pg pt pk pe w0 nfp f3
  generalize hs4 : ({ s3 with heap := pushCells (s3.heap.push { cls := .type "dict", data := .dict #[] }) scope.names } : Shared) = s4 at I4 ⊢
  have st4 : tn 0 s4.heap := T.keep _ _ _ st3 fun b _ o e => by rw [← hs4]; exact pushCells_keeps _ _ _ _ (Heap.get?_push_of_some _ e)
  have stat : ∀ {σ' : L2.St} {H' : Hp} {s' : Shared}, Inv (X.blk s3 H3 scope ce fp) [] σ' H' s' → (∀ b ∈ fp, H' b = none) → ∀ b ∈ fp, FpOk (X.blk s3 H3 scope ce fp) [] H' b := fun {σ' H' s'} I' hn b hb =>
    ⟨hn b hb, (I'.ok.exf b hb).1, I'.ok.exfs b hb, .inl hb, fun x c e => (I'.ok.exf b hb).2 x c e, fun p hp => absurd (show p ∈ ([] : List (Addr × Obj)) ++ [] from hp) (by simp)⟩
  refine codeAny_compStart_dict ?loop (T.self X.A 0 _ _ _ st4 ?loop)
  refine compLoop_anyD (fun n s' => ∃ i H', Inv (X.blk s3 H3 scope ce fp) [] (wipe σ (own.map (·.2))) H' s' ∧ tn i s'.heap ∧ (∀ b ∈ fp, H' b = none) ∧ W i n H') ?_ m0 ⟨0, H3, I4, st4, nfp, w0⟩
  rintro n s5 ⟨i, H5, I5, st5, n5, w5⟩
  rcases turn i n H5 w5 with ⟨stop, qq⟩ | ⟨go, Nx, hNx, step⟩
  · refine thnF (T.done (X.blk s3 H3 scope ce fp) rfl rfl rfl hc i [] s5 _ H5 (fun _ _ => False) I5 (stat I5 n5) st5 stop) fun r s6 ⟨hr, I6⟩ => ?_
    subst hr
    have I7 : Inv X pins σ H5 s6 := I3.call' (ch := fp) I6.os I6.base I6.hok I6.bare fun b hb => ⟨(f3 b hb).1.2.2.2.1, (f3 b hb).1.2.1, (f3 b hb).1.2.2.2.2.1, (f3 b hb).1.2.2.2.2.2⟩
    have nC : H5 s3.heap.objs.size = none := by rw [← cL]; exact I6.free
    obtain ⟨m, hn, _⟩ := I6.loc
    have hn' : s6.heap.Ns s3.heap.objs.size m := by rw [← cL]; exact hn
    exact hRR D s3.heap.objs.size s6 m H5 I7 qq hn' (I3.fpOk (Nat.le_refl _) nC)
  · refine thnF (T.item (X.blk s3 H3 scope ce fp) rfl rfl rfl hc i [] s5 _ H5 (fun _ _ => False) I5 (stat I5 n5) st5 go) fun r s6 ⟨u, hr, h6⟩ => ?_
    subst hr
    refine thnF h6 fun _ s7 ⟨x, H7, I7, r7, y7, st7, n7⟩ => ?_
    refine thnF (pg.run _ s7 _ H7 x u _ (I7.pinned (stat I7 n7) (T.obj _ _ st7)) r7 (step x H7 y7)) fun _ s8 ⟨σ8, H8, I8, hw8, q8⟩ => ?_
    refine thnF (pt.run _ s8 σ8 H8 _ I8 q8) fun b s9 ⟨H9, I9, q9⟩ => ?_
    have fin : ∀ {s' : Shared} {H' : Hp}, Inv (X.blk s3 H3 scope ce fp) ([] ++ pinsAt fp s7.heap) σ8 H' s' → Nx H' → ∃ m, m < n ∧ ∃ i H', Inv (X.blk s3 H3 scope ce fp) [] (wipe σ (own.map (·.2))) H' s' ∧ tn i s'.heap ∧ (∀ b ∈ fp, H' b = none) ∧ W i m H' := fun {s' H'} I' nx => by
      obtain ⟨m', hm, w'⟩ := hNx H' nx
      have pin' : ∀ b ∈ fp, ∀ o, s7.heap.get? b = some o → s'.heap.get? b = some o ∧ H' b = none := fun b hb o e =>
        let z := I'.pin (b, o) (List.mem_append_right _ (List.mem_append_right _ (mem_pinsAt hb e))); ⟨z.1, z.2.1⟩
      refine ⟨m', hm, i + 1, H', (I'.unpinned (pins := [])).weak (by rw [← hw8, wipe_length]) (fun j v e => ?_), T.keep _ _ _ st7 fun b hb o e => (pin' b hb o e).1, fun b hb => let ⟨o, e, _⟩ := T.obj _ _ st7 b hb; (pin' b hb o e).2, w'⟩
      rw [← hw8] at e
      exact (wipe_some e).1
    cases b with
    | false =>
      simp only [Bool.false_eq_true, if_false] at q9 ⊢
      exact fin I9 q9
    | true =>
      simp only [if_true] at q9 ⊢
      refine thnF (pk.run _ s9 σ8 H9 _ I9 q9) fun z s10 ⟨yk, H10, I10, r10, q10⟩ => ?_
      refine thnF (pe.run _ s10 σ8 H10 _ I10 q10) fun z2 s11 ⟨yv, H11, I11, r11, kvs, k, nd, hy, hz11, nx⟩ => ?_
      exact nd_dictSet (X := X.blk s3 H3 scope ce fp) hu I11 nd hy hz11 r10 r11 fun xs' n' s12 I12 => fin I12 (nx xs' n')
theorem pe_dcn {P : Program} {w : World} {K : PySem.W.Frag} {kx vx tg iter : Expr} {ifs : List Expr} {scope : Scope} {own : List (Str × Nat)} {pos : Pos} {wi : TI} {g : TG} {tt : TT} {tk tv : TE} (hu : X.A.units + 20 < cLine) (hc : X.calm = true) (hN : X.N.Nodup) (hi : PI X tg iter wi) (ok : BlkOk X.N X.env.scope scope own)
    (hg : ∀ s H C cl fp, PG (X.blk s H scope (compEnvC scope cl C X.env) fp) tg g) (ht : ∀ s H C cl fp, PTs (X.blk s H scope (compEnvC scope cl C X.env) fp) ifs tt)
    (hk : ∀ s H C cl fp, PE (X.blk s H scope (compEnvC scope cl C X.env) fp) kx tk) (he : ∀ s H C cl fp, PE (X.blk s H scope (compEnvC scope cl C X.env) fp) vx tv) (hs : ∀ x, foldedSetIterable iter X.env x = pure x := by intro _; rfl) (hX : X.prog = P ∧ X.w = w ∧ X.K = K := by exact ⟨rfl, rfl, rfl⟩) :
    PE X (.DictComp kx vx [⟨tg, iter, ifs, 0⟩] scope pos) (tDcN P w K wi g tt tk tv (own.map (·.2))) := by
  obtain ⟨rfl, rfl, rfl⟩ := hX
  refine ⟨fun pins s σ H Q I h => ?_⟩
  rw [arm_eval_DictComp]
  refine dcn_core hu hc hN I hi ok hg ht hk he hs h fun D C s' m H' I' q hn f => ⟨m, hn, fun h'' sb => ?_⟩
  obtain ⟨f0, f1, f2, f3, f4, f5⟩ := f
  exact ⟨.ref D, H', I'.turned (t' := s'.toks) (fun b o hb e => (sb.2 b hb).trans e) f0 f1 f3 f4 f5, rfl, q⟩
end

/-! ### sorted of nested data -/
section
variable {X : Cx}
/-- sorted(l), l a list of nested data ks, alike in form -/
def rSortK (K : PySem.W.Frag) : List V → Hp → VK → Prop := fun vs H Q => ∃ (a : Addr) (xs : List V) (ks : List NestedKey), vs = [.ref a] ∧ SqL K H a xs ∧ IsKs K H ks xs ∧ (∀ a ∈ ks, ∀ b ∈ ks, cmK a b = true) ∧ NestedKey.depthAll ks ≤ 8 ∧
  ∀ (ys : List V) (ls : List NestedKey) (p : Addr), ls.Perm ks → ls.Pairwise (fun a b => ltK b a = false) → IsKs K H ls ys → H p = none → Q (.ref p) (upd H p (.lst ys))
theorem vals_mem {vs : List V} {us : List Value} (r : Vals vs us) : ∀ u ∈ us, ∃ v ∈ vs, RelV v u := by
  induction r with
  | nil => intro u h; cases h
  | cons a b ih =>
    intro u h
    rcases List.mem_cons.mp h with e | e
    · subst e; exact ⟨_, List.mem_cons_self, a⟩
    · obtain ⟨v, m, q⟩ := ih u e
      exact ⟨v, List.mem_cons_of_mem _ m, q⟩
theorem triples {K : PySem.W.Frag} {H : Hp} {h : Heap} : ∀ {ks : List NestedKey} {vs : List V} {us : List Value}, IsKs K H ks vs → Vals vs us → DAll h ks us → ∀ u ∈ us, ∃ k v, k ∈ ks ∧ IsK K H k v ∧ RelV v u ∧ DIs h k u
  | [], _, _, h1, h2, h3, u, hu => by cases h3; cases hu
  | k :: ks, _, _, ⟨x, r, e, a, b⟩, h2, h3, u, hu => by
    subst e
    cases h2 with
    | cons c1 c2 =>
      cases h3 with
      | cons d1 d2 =>
        rcases List.mem_cons.mp hu with e | e
        · subst e; exact ⟨k, x, List.mem_cons_self, a, c1, d1⟩
        · obtain ⟨k', v', m, q1, q2, q3⟩ := triples b c2 d2 u e
          exact ⟨k', v', List.mem_cons_of_mem _ m, q1, q2, q3⟩
theorem back_keys {K : PySem.W.Frag} {H : Hp} {h : Heap} : ∀ {out : List Value}, (∀ u ∈ out, ∃ k v, IsK K H k v ∧ RelV v u ∧ DIs h k u) → ∃ ls ys, IsKs K H ls ys ∧ Vals ys out ∧ ls = out.map (keyOf h)
  | [], _ => ⟨[], [], rfl, .nil, rfl⟩
  | u :: out, f => by
    obtain ⟨k, v, a, b, c⟩ := f u List.mem_cons_self
    obtain ⟨ls, ys, q1, q2, q3⟩ := back_keys (out := out) fun w hw => f w (List.mem_cons_of_mem _ hw)
    exact ⟨k :: ls, v :: ys, ⟨v, ys, rfl, a, q1⟩, .cons b q2, by rw [List.map_cons, keyOf_eq c, q3]⟩
theorem keys_map {h : Heap} : ∀ {ks : List NestedKey} {us : List Value}, DAll h ks us → us.map (keyOf h) = ks
  | [], _, x => by cases x; rfl
  | k :: ks, _, x => by
    cases x with
    | cons p r => rw [List.map_cons, keyOf_eq p, keys_map r]
theorem cr_sortK {K : PySem.W.Frag} (hu : X.A.units + 20 < cLine) (hX : X.K = K := by rfl) : CallR X (.builtin "sorted") (rSortK K) := by
  subst hX
  intro pins s σ H vs us Q I r q
  obtain ⟨a, xs, ks, rfl, sq, ik, cm, dep, q⟩ := q
  obtain ⟨u, eu, rx⟩ := vals1 r
  subst eu
  cases rx
  obtain ⟨its, rv, pl, hz⟩ := I.list sq
  have d := IsKs.dis I ks xs its ik rv
  refine sorted_keys (s := s) (ks := ks) pl.isList (by rw [← rv.length]; exact hz) d cm (by omega) fun h' p out hs hp hk hd ⟨n, ho⟩ => ?_
  obtain ⟨ls, ys, k1, k2, k3⟩ := back_keys (K := X.K) (H := H) (h := s.heap) (out := out) fun u hu => by
    obtain ⟨k, v, _, b, c, e⟩ := triples ik rv d u (hp.mem_iff.mp hu)
    exact ⟨k, v, b, c, e⟩
  have lz : ys.length ≤ sizeLine := by rw [k2.length, hp.length_eq, ← rv.length]; exact hz
  refine ⟨.ref p, _, I.laid (a := p) (o := .lst ys) (t' := s.toks) hk hd ⟨lz, out, n, k2, ho⟩, rfl, q ys ls p ?_ ?_ k1 (I.hok.fresh hd)⟩
  · rw [k3, ← keys_map d]
    exact hp.map _
  · rw [k3]
    exact List.pairwise_map.mpr hs
end
end HH
namespace HH
open PySem PySem.Spec PyProof.Rows L2 PySem.SeqAt

/-- list.sort of nested data -/
theorem list_sort_keys {prog : Program} {w : World} {A : Around} {E : Value → Shared → Prop} {s : Shared} {a : Addr} {ks : List NestedKey} {vs : List Value} {n : Nat} {R : PySem.Fin → Shared → Prop} (ho : s.heap.get? a = some (seqObj "list" vs.toArray n)) (hz : vs.length ≤ sizeLine)
    (x : DAll s.heap ks vs) (hc : ∀ a ∈ ks, ∀ b ∈ ks, cmK a b = true) (hu : A.units + NestedKey.depthAll ks < cLine)
    (h : ∀ out : List Value, SrtO.Srtd (fun v u => ltK (keyOf s.heap v) (keyOf s.heap u)) out → out.Perm vs → R (.done (.ret .none)) { s with heap := sortedHeap s.heap a vs out.toArray }) :
    wpAny (model prog w) A (Builtin.«list.sort» ⟨[.ref a], []⟩) R E s := by
  refine SrtO.list_sort_ord (swo_key s.heap) ho hz (fun h2 => ?_) fun out hs hb => h out hs hb.perm
  intro h' keep
  have ne : ∀ b vs', s.heap.IsTuple b vs' → b ≠ a := fun b vs' ⟨o, hb, hcl, _⟩ z => by
    subst z
    rw [hb] at ho
    cases ho
    exact absurd (Value.type.inj hcl) (by decide)
  have kt : ∀ b vs', s.heap.IsTuple b vs' → h'.IsTuple b vs' := fun b vs' t => by
    obtain ⟨o, hb, r⟩ := id t
    exact ⟨o, keep b o (ne b vs' t) hb, r⟩
  have xk : DAll h' ks vs := x.keep kt _ _
  obtain ⟨κ, K, run⟩ := kind_run (model prog w) A (s := { s with heap := h' }) xk
  refine ⟨κ, run, cmp_ok (s := { s with heap := h' }) xk (fun v hv k hk => ?_) K hc hu⟩
  obtain ⟨k', mk, hk'⟩ := x.mem v hv
  rw [keyOf_eq hk']
  exact NestedIs.inj _ _ _ ((DIs.keep kt _ _ hk').nested _ _) (hk.nested _ _)
section
variable {X : Cx}
theorem nd_keys {pins : List (Addr × Obj)} {σ : L2.St} {H : Hp} {s : Shared} (I : Inv X pins σ H s) : ∀ {xs : NX} {ys : List (NestedKey × Addr × Value)} {us : List Value}, NdRel xs ys → (∀ x ∈ xs, IsK X.K H x.1 (.ref x.2.1) ∧ x.1.depth ≤ 8) → us.length = ys.length → (∀ (j : Nat) (v : Value), us[j]? = some v → ∃ y, ys[j]? = some y ∧ v = .ref y.2.1) →
    IsKs X.K H (ys.map (·.1)) (ys.map fun y => V.ref y.2.1) ∧ Vals (ys.map fun y => V.ref y.2.1) us
  | [], [], [], _, _, _, _ => ⟨rfl, .nil⟩
  | [], [], _ :: _, _, _, hl, _ => by simp at hl
  | x :: xs, y :: ys, [], _, _, hl, _ => by simp at hl
  | x :: xs, y :: ys, u :: us, r, hk, hl, hu => by
    unfold NdRel at r
    cases r with
    | cons h t =>
      obtain ⟨e1, e2, _⟩ := h
      obtain ⟨a, _⟩ := hk x List.mem_cons_self
      obtain ⟨q1, q2⟩ := nd_keys I (us := us) t (fun z hz => hk z (List.mem_cons_of_mem _ hz)) (by simpa using hl) fun j v e => by
        obtain ⟨y', z1, z2⟩ := hu (j + 1) v (by simpa using e)
        exact ⟨y', by simpa using z1, z2⟩
      obtain ⟨y', z1, z2⟩ := hu 0 u rfl
      obtain rfl : y = y' := by simpa using z1
      rw [e1, e2] at a
      exact ⟨⟨_, _, rfl, a, q1⟩, .cons z2 q2⟩
/-- sorted(d), d a dict of nested keys, alike in form -/
def rSortN (P : Program) (w : World) (K : PySem.W.Frag) : List V → Hp → VK → Prop := fun vs H Q => ∃ (d : Addr) (kvs : List (NestedKey × V)), vs = [.ref d] ∧ NdAt P w K H d kvs ∧ (∀ a ∈ kvs.map (·.1), ∀ b ∈ kvs.map (·.1), cmK a b = true) ∧
  ∀ (ys : List V) (ls : List NestedKey) (p : Addr), ls.Perm (kvs.map (·.1)) → ls.Pairwise (fun a b => ltK b a = false) → IsKs K H ls ys → H p = none → Q (.ref p) (upd H p (.lst ys))
theorem depthAll_le {n : Nat} : ∀ {ks : List NestedKey}, (∀ k ∈ ks, k.depth ≤ n) → NestedKey.depthAll ks ≤ n
  | [], _ => by simp [NestedKey.depthAll]
  | k :: ks, h => by
    simp only [NestedKey.depthAll]
    have a := h k List.mem_cons_self
    have b := depthAll_le (ks := ks) fun x hx => h x (List.mem_cons_of_mem _ hx)
    omega
theorem cr_sortN {P : Program} {w : World} {K : PySem.W.Frag} (hu : X.A.units + 20 < cLine) (hcalm : X.calm = true) (hX : X.prog = P ∧ X.w = w ∧ X.K = K := by exact ⟨rfl, rfl, rfl⟩) : CallR X (.builtin "sorted") (rSortN P w K) := by
  obtain ⟨rfl, rfl, rfl⟩ := hX
  intro pins s σ H vs us Q I r q
  obtain ⟨d, kvs, rfl, ⟨xs, e, rfl, hk⟩, cm, q⟩ := q
  obtain ⟨u, eu, rx⟩ := vals1 r
  subst eu
  cases rx
  obtain ⟨z, lo, ys, rel, dd⟩ := nd_of I e hk
  obtain ⟨o, es, ep, ho, hex, hda, hes, hall, hnd⟩ := id dd
  have raw : s.heap.DictRaw d es ep := ⟨o, ho, hex, hda⟩
  have esz : es.size = ys.length := size_of_entries hes
  have h16 : es.size ≤ sizeLine := by rw [esz, ← rel.length]; exact z
  refine Calls.call_function_entry PyProof.Rows.kind_sorted PyProof.Rows.plain_sorted PyProof.Rows.entry_sorted (PyProof.Rows.args_sorted1 _) ?_
  unfold Builtin.«sorted»
  refine wpAny_bind (m := checkCount "sorted" 1 1 _) (wpAny_pure ?_)
  refine wpAny_bind (PySem.W.kdu_collect (A := X.A.in1) (PySem.KdlSrc.rawDict (es := es) (ep := ep) lo) (I.ok.hd hcalm) raw h16 fun h' tk acc hkp hacc => ?_)
  have hal : acc.toList.length = ys.length := by rw [Array.length_toList, hacc.1, esz]
  obtain ⟨ik, rv⟩ := nd_keys I (us := acc.toList) rel hk hal fun j v ej => by
    obtain ⟨hi, ev⟩ := hacc.2 j v (by rw [← Array.getElem?_toList]; exact ej)
    have hj : j < ys.length := by omega
    refine ⟨ys[j], List.getElem?_eq_getElem hj, ?_⟩
    have en := entry_at (knd := nestedKind X.prog X.w) hes j
    rw [List.getElem?_eq_getElem hj, Option.map_some, Array.getElem?_eq_getElem hi] at en
    rw [ev, Option.some.inj en]
    rfl
  have I1 : Inv X pins σ H { s with heap := h', toks := tk } := I.kept hkp
  have keq : (kvX xs).map (·.1) = ys.map (·.1) := by
    rw [← rel.keys]; unfold kvX; rw [List.map_map]; rfl
  have dep : NestedKey.depthAll (ys.map (·.1)) ≤ 8 := depthAll_le fun k hk' => by
    rw [← rel.keys] at hk'
    obtain ⟨x, hx, ex⟩ := List.mem_map.mp hk'
    rw [← ex]; exact (hk x hx).2
  refine wpAny_bind (wpAny_newList ?_ (by rw [hal, ← esz]; exact h16))
  have hoL : (h'.push (seqObj "list" acc.toList.toArray 0)).get? h'.objs.size = some (seqObj "list" acc.toList.toArray 0) := Heap.get?_push_size _ rfl
  show wpAny _ _ _ _ _ { s with heap := h'.push (seqObj "list" acc.toList.toArray 0), toks := tk }
  have I2 : Inv X pins σ H { s with heap := h'.push (seqObj "list" acc.toList.toArray 0), toks := tk } := I1.kept (t' := tk) fun b o e => Heap.get?_push_of_some _ e
  have da := IsKs.dis I2 _ _ _ ik rv
  refine wpAny_bind (wpAny_holding (wpAny_call_entry PyProof.Rows.slot_list_sort ⟨_, hoL, rfl⟩ PyProof.Rows.entry_list_sort
    (list_sort_keys (s := { s with heap := h'.push (seqObj "list" acc.toList.toArray 0), toks := tk }) hoL (by rw [hal, ← esz]; exact h16) da (by rw [← keq]; exact cm) (by show X.A.units + 1 + 1 + _ < _; omega) fun out hs hp => ⟨_, rfl, ?_⟩)
    (PyProof.Rows.args_list_sort _)))
  obtain ⟨ls, zs, k1, k2, k3⟩ := back_keys (K := X.K) (H := H) (h := h'.push (seqObj "list" acc.toList.toArray 0)) (out := out) fun u hu => by
    obtain ⟨k, v, _, b, c, e⟩ := triples ik rv da u (hp.mem_iff.mp hu)
    exact ⟨k, v, b, c, e⟩
  have sold : ∀ b o, h'.get? b = some o → (sortedHeap (h'.push (seqObj "list" acc.toList.toArray 0)) h'.objs.size acc.toList out.toArray).get? b = some o := fun b o h1 => by
    have hlt := Heap.lt_size h1
    rw [sortedHeap_old (Nat.ne_of_lt hlt) (by rw [size_push']; exact Nat.lt_succ_of_lt hlt)]
    exact Heap.get?_push_of_some _ h1
  obtain ⟨n, hn⟩ := sortedHeap_at (out := out.toArray) hoL
  refine wpAny_pure ⟨_, rfl, ⟨.ref h'.objs.size, _, I1.laid (a := h'.objs.size) (o := .lst zs) (t' := tk) sold (Nat.le_refl _) ⟨by rw [k2.length, hp.length_eq, hal, ← esz]; exact h16, out, n, k2, hn⟩, rfl, q zs ls _ ?_ ?_ k1 (I1.hok.fresh (Nat.le_refl _))⟩⟩
  · rw [k3, keq, ← keys_map da]
    exact hp.map _
  · rw [k3]
    exact List.pairwise_map.mpr hs
end
end HH
namespace HH
open PySem PySem.Spec PyProof.Rows L2 PySem.SeqAt

section
variable {X : Cx}
theorem OpR.or {f : Value → Value → Sem Value} {r r' : R2} (h : OpR X f r) (h' : OpR X f r') : OpR X f (fun x y H Q => r x y H Q ∨ r' x y H Q) := by
  intro pins s σ H x y v u Q I rx ry q
  rcases q with q | q
  · exact h pins s σ H x y v u Q I rx ry q
  · exact h' pins s σ H x y v u Q I rx ry q
theorem CallR.or {f : Value} {r r' : List V → Hp → VK → Prop} (h : CallR X f r) (h' : CallR X f r') : CallR X f (fun xs H Q => r xs H Q ∨ r' xs H Q) := by
  intro pins s σ H xs us Q I rx q
  rcases q with q | q
  · exact h pins s σ H xs us Q I rx q
  · exact h' pins s σ H xs us Q I rx q
/-- t == u of nested data -/
def rEqT (K : PySem.W.Frag) : R2 := fun x y H Q => ∃ ks ls, IsK K H (.tup ks) x ∧ IsK K H (.tup ls) y ∧ NestedKey.depthAll ks ≤ 30 ∧ Q (.bl (decide (ks = ls))) H
theorem op_eqT (hu : X.A.units + 40 < cLine) : OpR X (compareOp .Eq) (rEqT X.K) := by
  intro pins s σ H x y v u Q I rx ry q
  obtain ⟨ks, ls, ik, il, dep, q⟩ := q
  have d1 := IsK.dis I _ _ _ ik rx
  have d2 := IsK.dis I _ _ _ il ry
  cases d1 with
  | @tup a vs _ p r =>
    cases d2 with
    | @tup b us _ p' r' =>
      have n1 : vs.size = ks.length := by simpa using r.length
      have n2 : us.size = ls.length := by simpa using r'.length
      have hu1 : X.A.in1.units = X.A.units + 1 := rfl
      have key := RcAt.tuples (A := X.A) (s := s) (e := keyEqAt ks ls) p p' (by omega) fun j j1 j2 => by
        have := eqAt_keys ks ls X.A.in1 s vs.toList us.toList (r.nested _ _) (r'.nested _ _) (by omega) j (by simpa using j1) (by simpa using j2)
        simpa using this
      rw [n1, n2, beqAll_eq] at key
      refine key X.prog X.w _ _ ⟨.bl (decide (ks = ls)), H, I, ?_, q⟩
      have e : NestedKey.beqAll ks ls = decide (ks = ls) := by
        by_cases h : ks = ls
        · subst h; simp [NestedKey.beqAll_self]
        · rw [decide_eq_false h]
          cases h2 : NestedKey.beqAll ks ls with
          | false => rfl
          | true => exact absurd (NestedKey.eq_of_beqAll ks ls h2) h
      rw [e]
      rfl
/-- t < u of nested data -/
def rLtK (K : PySem.W.Frag) : R2 := fun x y H Q => ∃ k l, IsK K H k x ∧ IsK K H l y ∧ cmK k l = true ∧ k.depth ≤ 30 ∧ Q (.bl (ltK k l)) H
theorem op_ltK (hu : X.A.units + 40 < cLine) : OpR X (compareOp .Lt) (rLtK X.K) := by
  intro pins s σ H x y v u Q I rx ry q
  obtain ⟨k, l, ik, il, cm, dep, q⟩ := q
  have d1 := IsK.dis I _ _ _ ik rx
  have d2 := IsK.dis I _ _ _ il ry
  exact rc_lt _ k l X.A s v u (Nat.le_refl _) d1 d2 cm (by omega) X.prog X.w _ _ ⟨.bl (ltK k l), H, I, rfl, q⟩
end
end HH
namespace HH
open PySem PySem.Spec PyProof.Rows L2 PySem.SeqAt

/-! ### what the defs of a text are called by -/
structure Bi (mg : Str → Option Value) : Prop where
  len_ : mg "len" = none
  int_ : mg "int" = none
  abs_ : mg "abs" = none
  range : mg "range" = none
  sorted_ : mg "sorted" = none
  tuple_ : mg "tuple" = none
  list_ : mg "list" = none
  all_ : mg "all" = none
  any_ : mg "any" = none
  isinstance_ : mg "isinstance" = none
  bool_ : mg "bool" = none
  str_ : mg "str" = none
  dict_ : mg "dict" = none
  min_ : mg "min" = none
  max_ : mg "max" = none
  zip_ : mg "zip" = none
  enum_ : mg "enumerate" = none
def Callee (P : Program) (w : World) (K : PySem.W.Frag) (mg : Str → Option Value) (base : Heap) (k : Nat) (x : Str) (ps : List Str) (sp : Sp) : Prop :=
  ∃ f fd, FnOk P w K mg base CX0 k f fd ps sp ∧ mg x = some (.ref f) ∧ PySem.W.keepIn K (.ref f) = true ∧ Binds K fd ps []
/-- all but p stays -/
def Fr (p : Addr) (H H' : Hp) : Prop := ∀ b o, b ≠ p → H b = some o → H' b = some o
theorem Fr.refl (p : Addr) (H : Hp) : Fr p H H := fun _ _ _ h => h
theorem Fr.trans {p : Addr} {H H1 H2 : Hp} (a : Fr p H H1) (b : Fr p H1 H2) : Fr p H H2 := fun c o n h => b c o n (a c o n h)
theorem Fr.of {p : Addr} {H H' : Hp} (e : Same H H') : Fr p H H' := fun b o _ h => e b o h
theorem Fr.upd {p : Addr} {H : Hp} {o : HO} : Fr p H (upd H p o) := fun b u n h => by rw [upd_ne n]; exact h
theorem Fr.new {p a : Addr} {H : Hp} {o : HO} (n : H a = none) : Fr p H (L2.upd H a o) := fun b u _ h => by rw [upd_ne (ne_of_none h n)]; exact h
/-- an object that H does not know is written -/
theorem Fr.mut {p a : Addr} {H H' : Hp} {o : HO} (f : Fr p H H') (n : H a = none) : Fr p H (L2.upd H' a o) := fun b u hb h => by rw [upd_ne (ne_of_none h n)]; exact f b u hb h
theorem Fr.oth {p a : Addr} {H H1 H2 : Hp} (f : Fr p H H1) (n : H a = none) (e : ∀ b, b ≠ a → H2 b = H1 b) : Fr p H H2 := fun b u hb h => by rw [e b (ne_of_none h n)]; exact f b u hb h
theorem Fr.back {p a : Addr} {H H' : Hp} (f : Fr p H H') (ne : a ≠ p) (n : H' a = none) : H a = none := by
  cases h : H a with
  | none => rfl
  | some o => rw [f a o ne h] at n; cases n
theorem Fr.seq {K : PySem.W.Frag} {p a : Addr} {H H' : Hp} {xs : List V} (f : Fr p H H') (ne : a ≠ p) (h : SqL K H a xs) : SqL K H' a xs := by
  rcases h with (h | ⟨o, h⟩) | h
  · exact .inl (.inl (f _ _ ne h))
  · exact .inl (.inr ⟨o, f _ _ ne h⟩)
  · exact .inr h
theorem Fr.tup {K : PySem.W.Frag} {p : Addr} {H H' : Hp} {xs : List V} (f : Fr p H H') (hp : H p = some (.lst xs)) : Tup K H H' := fun a ys h => by
  rcases h with (h | ⟨o, h⟩) | h
  · exact .inl (.inl (f _ _ (ne_of h hp (fun z => nomatch z)) h))
  · exact .inl (.inr ⟨o, f _ _ (ne_of h hp (fun z => nomatch z)) h⟩)
  · exact .inr h
theorem same_new {H : Hp} {a : Addr} {o : HO} (n : H a = none) : Same H (L2.upd H a o) := fun b u h => by rw [upd_ne (ne_of_none h n)]; exact h
/-- what is newer than H may change -/
theorem same_mut {H H' : Hp} {a : Addr} {o : HO} (s : Same H H') (n : H a = none) : Same H (L2.upd H' a o) := fun b u h => by rw [upd_ne (ne_of_none h n)]; exact s b u h
theorem sz_le {n : Nat} (h : n ≤ 1000000) : n ≤ sizeLine := by rw [sizeLine_eq]; omega
theorem sz_lt {n : Nat} (h : n ≤ 1000000) : n < sizeLine := by rw [sizeLine_eq]; omega
def rAddU (K : PySem.W.Frag) : R2 := fun x y H Q => (rI0 (fun i j => .int (i + j)) x y H Q ∨ (∃ i j, x = .str i ∧ y = .str j ∧ i.length + j.length ≤ sizeLine ∧ Q (.str (i ++ j)) H)) ∨ rCat x y H Q ∨ rCatT K x y H Q
def rEqU (K : PySem.W.Frag) : R2 := fun x y H Q => rEq x y H Q ∨ rEqT K x y H Q
def rLtU (K : PySem.W.Frag) : R2 := fun x y H Q => rI0 (fun i j => .bl (decide (i < j))) x y H Q ∨ rLtK K x y H Q
def rLenU (P : Program) (w : World) (K : PySem.W.Frag) : List V → Hp → VK → Prop := fun xs H Q => ((∃ p ys, xs = [.ref p] ∧ (SqL K H p ys ∨ SqT K H p ys) ∧ Q (.int ys.length) H) ∨ (∃ z : Str, xs = [.str z] ∧ z.length ≤ sizeLine ∧ Q (.int z.length) H)) ∨ (∃ d kvs, xs = [.ref d] ∧ NdAt P w K H d kvs ∧ Q (.int kvs.length) H)
section
variable {X : Cx}
theorem op_addU {K : PySem.W.Frag} (hX : X.K = K := by rfl) : OpR X (binaryOp .Add) (rAddU K) := by subst hX; exact OpR.or (OpR.or op_add op_add_str) (OpR.or op_cat op_catT)
theorem op_eqU {K : PySem.W.Frag} (hu : X.A.units + 40 < cLine) (hX : X.K = K := by rfl) : OpR X (compareOp .Eq) (rEqU K) := by subst hX; exact OpR.or op_eq (op_eqT hu)
theorem op_ltU {K : PySem.W.Frag} (hu : X.A.units + 40 < cLine) (hX : X.K = K := by rfl) : OpR X (compareOp .Lt) (rLtU K) := by subst hX; exact OpR.or op_lt (op_ltK hu)
theorem call_lenU {P : Program} {w : World} {K : PySem.W.Frag} (hX : X.prog = P ∧ X.w = w ∧ X.K = K := by exact ⟨rfl, rfl, rfl⟩) : CallR X (.builtin "len") (rLenU P w K) := by obtain ⟨rfl, rfl, rfl⟩ := hX; exact CallR.or (CallR.or call_len_seq call_len_str) call_nlen
end
def rIntC : List V → Hp → VK → Prop := fun xs H Q => (∃ i, xs = [.int i] ∧ Q (.int i) H) ∨ ∃ k, xs = [.bl k] ∧ Q (.int (if k then 1 else 0)) H
def rAbsC : List V → Hp → VK → Prop := fun xs H Q => ∃ i, xs = [.int i] ∧ Q (.int (if i < 0 then -i else i)) H
def rTupC (K : PySem.W.Frag) : List V → Hp → VK → Prop := fun xs H Q => ∃ p ys, xs = [.ref p] ∧ ((SqL K H p ys ∧ ∀ l, H l = none → Q (.ref l) (upd H l (.tup ys))) ∨ (SqT K H p ys ∧ Q (.ref p) H))
theorem call_intC {X : Cx} : CallR X (.type "int") rIntC := call_int1
theorem call_absC {X : Cx} : CallR X (.builtin "abs") rAbsC := call_abs
theorem call_tupC {X : Cx} {K : PySem.W.Frag} (hX : X.K = K := by rfl) : CallR X (.type "tuple") (rTupC K) := by subst hX; exact call_tuple_of
theorem ix_listK {X : Cx} {K : PySem.W.Frag} (hX : X.K = K := by rfl) : IxR X (rIxL K) := by subst hX; exact ix_list
theorem ix_tupK {X : Cx} {K : PySem.W.Frag} (hX : X.K = K := by rfl) : IxR X (rIxT K) := by subst hX; exact ix_tup
theorem sl_listK {X : Cx} {K : PySem.W.Frag} (hX : X.K = K := by rfl) : SlR X (rSlL K) := by subst hX; exact sl_list
theorem cr_allK {X : Cx} {K : PySem.W.Frag} (hc : X.calm = true) (hX : X.K = K := by rfl) : CallR X (.builtin "all") (rAll K) := by subst hX; exact cr_all hc
theorem cr_anyK {X : Cx} {K : PySem.W.Frag} (hc : X.calm = true) (hX : X.K = K := by rfl) : CallR X (.builtin "any") (rAny K) := by subst hX; exact cr_any hc
theorem cr_sortedSK {X : Cx} {K : PySem.W.Frag} (hX : X.K = K := by rfl) : CallR X (.builtin "sorted") (rSortedS K) := by subst hX; exact cr_sortedS
theorem pg_tupK {X : Cx} {K : PySem.W.Frag} {es : List Expr} {k : Nat} {t : TGs} {pos : Pos} (n : Nat) (hc : X.calm = true) (h : PGs X es t) (hn : (assignEach es X.env).length = n := by rfl) (hst : (assignEach es X.env).findIdx? (·.1) = none := by rfl) (hX : X.K = K := by rfl) : PG X (.Tuple es k pos) (gTup K n t) := by subst hX; exact pg_tup hc h hn hst
theorem call_isiK {X : Cx} {K : PySem.W.Frag} (hX : X.K = K := by rfl) : CallR X (.builtin "isinstance") (rIsi K) := by subst hX; exact call_isi
theorem rd_isi {K : PySem.W.Frag} {H : Hp} {Q : VK} {x : V} {a b : String} {r : Bool} (ht : TyX K H x (.type a)) (hk : kitB a b = some r) (h : Q (.bl r) H) : rIsi K [x, .ty b] H Q := ⟨x, .ty b, _, _, r, rfl, .ty b, ht, kit_ty hk, h⟩
theorem iteNotF {A B : Prop} (h : A) : if (!false) = true then A else B := h
theorem iteNotT {A B : Prop} (h : B) : if (!true) = true then A else B := by rw [if_neg (by decide)]; exact h
theorem hu40_of {A : Around} {k : Nat} (hr : Room k A) : A.units + 40 < cLine := by have := hr.un; omega
theorem hu20_of {A : Around} {k : Nat} (hr : Room k A) : A.units + 20 < cLine := by have := hr.un; omega

/-! ### steps through a reading -/
section
variable {P : Program} {w : World} {K : PySem.W.Frag} {X : Cx} {σ : L2.St} {H : Hp} {Q : VK} {D : Ends} {t u : TS} {c d : TT} {te ta tb : TE} {tr : TA} {v x y : V} {i j : Int} {b : Bool} {QB : Bool → Hp → Prop} {g : TG}
theorem rd_seq (h : t { D with nx := u D } σ H) : tSeq t u D σ H := h
theorem rd_cut (Mid : L2.St → Hp → Prop) (h1 : t { D with nx := Mid } σ H) (h2 : ∀ σ' H', Mid σ' H' → u D σ' H') : C8.tCut t u D σ H := ⟨Mid, h1, h2⟩
theorem rd_next (h : D.nx σ H) : tNext D σ H := h
theorem rd_ret (h : te σ H D.rt) : tRet te D σ H := h
theorem rd_retN (h : D.rt .non H) : tRetN D σ H := h
theorem rd_drop (h : te σ H fun _ H1 => D.nx σ H1) : tDrop te D σ H := h
theorem rd_asg (h : te σ H fun x H1 => g x σ H1 D.nx) : tAsg te g D σ H := h
theorem rd_name {n : Nat} {Q : L2.St → Hp → Prop} (h : Q (σ.set n (some v)) H) : gName n v σ H Q := h
theorem rd_sub {to ti : TE} {s : TSet} {Q : L2.St → Hp → Prop} (h : to σ H fun o H1 => ti σ H1 fun i H2 => s o i v H2 fun H3 => Q σ H3) : gSub to ti s v σ H Q := h
theorem rd_ifs (h : c σ H fun b H1 => if b = true then t D σ H1 else u D σ H1) : tIfS c t u D σ H := h
theorem rd_op {r : R2} (h : ta σ H fun x H1 => tb σ H1 fun y H2 => r x y H2 Q) : tOp r ta tb σ H Q := h
theorem rd_un {r : V → Hp → VK → Prop} (h : ta σ H fun x H1 => r x H1 Q) : tUn r ta σ H Q := h
theorem rd_var {n : Nat} (e : σ[n]? = some (some v)) (h : Q v H) : tVar n σ H Q := ⟨v, e, h⟩
theorem rd_c (h : Q v H) : tC v σ H Q := h
theorem rd_test (h : te σ H fun x H' => ∃ k, x = .bl k ∧ QB k H') : tTest te σ H QB := h
theorem rd_tB (h : te σ H fun x H' => ∃ k, x = .bl k ∧ QB k H') : tB te σ H QB := h
theorem rd_bl (h : QB b H) : ∃ k, V.bl b = .bl k ∧ QB k H := ⟨b, rfl, h⟩
theorem rd_and (h : c σ H fun b H1 => if b = true then d σ H1 QB else QB false H1) : tAnd c d σ H QB := h
theorem rd_or (h : c σ H fun b H1 => if b = true then QB true H1 else d σ H1 QB) : tOr c d σ H QB := h
theorem rd_not (h : c σ H fun b H1 => QB (!b) H1) : tNot c σ H QB := h
theorem rd_andV (h : ta σ H fun x H1 => ∃ k, x = .bl k ∧ if k = true then tb σ H1 Q else Q (.bl false) H1) : tAndV ta tb σ H Q := h
theorem rd_orV (h : ta σ H fun x H1 => ∃ k, x = .bl k ∧ if k = true then Q (.bl true) H1 else tb σ H1 Q) : tOrV ta tb σ H Q := h
theorem rd_notV (h : ta σ H fun x H1 => ∃ k, x = .bl k ∧ Q (.bl (!k)) H1) : tNotV ta σ H Q := h
theorem rd_blQ {R : Bool → Prop} (h : R b) : ∃ k, V.bl b = .bl k ∧ R k := ⟨b, rfl, h⟩
theorem rd_if (h : c σ H fun b H1 => if b = true then ta σ H1 Q else tb σ H1 Q) : tIf c ta tb σ H Q := h
theorem rd_I0 {f : Int → Int → V} (h : Q (f i j) H) : rI0 f (.int i) (.int j) H Q := ⟨i, j, rfl, rfl, h⟩
theorem rd_I {C : Int → Int → Prop} {f : Int → Int → V} (hc : C i j) (h : Q (f i j) H) : rI C f (.int i) (.int j) H Q := ⟨i, j, rfl, rfl, hc, h⟩
theorem rd_U {f : Int → V} (h : Q (f i) H) : rU f (.int i) H Q := ⟨i, rfl, h⟩
theorem rd_addI (h : Q (.int (i + j)) H) : rAddU K (.int i) (.int j) H Q := .inl (.inl ⟨i, j, rfl, rfl, h⟩)
theorem rd_addS {z w : Str} (hz : z.length + w.length ≤ sizeLine) (h : Q (.str (z ++ w)) H) : rAddU K (.str z) (.str w) H Q := .inl (.inr ⟨z, w, rfl, rfl, hz, h⟩)
theorem rd_addL {a b : Addr} {xs ys : List V} (ha : H a = some (.lst xs)) (hb : H b = some (.lst ys)) (hz : xs.length + ys.length ≤ sizeLine) (h : ∀ p, H p = none → Q (.ref p) (upd H p (.lst (xs ++ ys)))) : rAddU K (.ref a) (.ref b) H Q :=
  .inr (.inl ⟨a, b, xs, ys, rfl, rfl, ha, hb, hz, h⟩)
theorem rd_eqI (h : Q (.bl (decide (i = j))) H) : rEqU K (.int i) (.int j) H Q := .inl ⟨rfl, by
  rw [show decide (V.int i = V.int j) = decide (i = j) from decide_eq_decide.mpr ⟨fun e => V.int.inj e, fun e => congrArg V.int e⟩]; exact h⟩
theorem rd_eqS {z w : Str} (h : Q (.bl (decide (z = w))) H) : rEqU K (.str z) (.str w) H Q := .inl ⟨rfl, by
  rw [show decide (V.str z = V.str w) = decide (z = w) from decide_eq_decide.mpr ⟨fun e => V.str.inj e, fun e => congrArg V.str e⟩]; exact h⟩
theorem rd_eqB {z w : Bool} (h : Q (.bl (decide (z = w))) H) : rEqU K (.bl z) (.bl w) H Q := .inl ⟨rfl, by
  rw [show decide (V.bl z = V.bl w) = decide (z = w) from decide_eq_decide.mpr ⟨fun e => V.bl.inj e, fun e => congrArg V.bl e⟩]; exact h⟩
theorem rd_eqT {ks ls : List NestedKey} (hx : IsK K H (.tup ks) x) (hy : IsK K H (.tup ls) y) (hd : NestedKey.depthAll ks ≤ 30) (h : Q (.bl (decide (ks = ls))) H) : rEqU K x y H Q := .inr ⟨ks, ls, hx, hy, hd, h⟩
theorem rd_ltI (h : Q (.bl (decide (i < j))) H) : rLtU K (.int i) (.int j) H Q := .inl ⟨i, j, rfl, rfl, h⟩
theorem rd_ixl {p : Addr} {xs : List V} (hp : SqL K H p xs) (ha : atI xs i = some v) (h : Q v H) : rIxL K (.ref p) (.int i) H Q := ⟨p, xs, i, v, rfl, rfl, hp, ha, h⟩
theorem rd_ixt {p : Addr} {xs : List V} (hp : SqT K H p xs) (ha : atI xs i = some v) (h : Q v H) : rIxT K (.ref p) (.int i) H Q := ⟨p, xs, i, v, rfl, rfl, hp, ha, h⟩
theorem rd_ixs {z : Str} {a : Nat} (hz : z.length ≤ sizeLine) (ha : atI z.cps.toList i = some a) (h : Q (.str ⟨#[a]⟩) H) : rIxS (.str z) (.int i) H Q := ⟨z, i, a, rfl, rfl, hz, ha, h⟩
theorem rd_setl {p : Addr} {xs : List V} {n : Nat} {R : Hp → Prop} (hp : H p = some (.lst xs)) (hn : ixN xs.length i = some n) (h : R (upd H p (.lst (xs.set n v)))) : rSetL (.ref p) (.int i) v H R := ⟨p, xs, i, n, rfl, rfl, hp, hn, h⟩
theorem rd_setl' {p : Addr} {xs : List V} {n : Nat} {R : Hp → Prop} (hp : H p = some (.lst xs)) (hn : ixN xs.length i = some n) (h : ∀ H' : Hp, H' p = some (.lst (xs.set n v)) → (∀ b, b ≠ p → H' b = H b) → R H') : rSetL (.ref p) (.int i) v H R :=
  rd_setl hp hn (h _ upd_same fun b hb => upd_ne hb)
theorem rd_cb {r : List V → Hp → VK → Prop} (h : tr σ H fun vs H1 => r vs H1 Q) : tCB r tr σ H Q := h
theorem rd_nil {Q : List V → Hp → Prop} (h : Q [] H) : tNil σ H Q := h
theorem rd_cons {Q : List V → Hp → Prop} (h : ta σ H fun x H1 => tr σ H1 fun xs H2 => Q (x :: xs) H2) : tCons ta tr σ H Q := h
theorem rd_call {sp : Sp} {dvs : List V} {E : XK} (h : tr σ H fun vs H1 => sp (vs ++ dvs) H1 Q E) : tCall sp dvs E tr σ H Q := h
theorem rd_tup (h : tr σ H fun xs H1 => xs.length ≤ sizeLine ∧ ∀ p, H1 p = none → Q (.ref p) (upd H1 p (.tup xs))) : tTup tr σ H Q := h
theorem rd_lst (h : tr σ H fun xs H1 => xs.length ≤ sizeLine ∧ ∀ p, H1 p = none → Q (.ref p) (upd H1 p (.lst xs))) : tLst tr σ H Q := h
theorem rd_lenL {p : Addr} {xs : List V} (hp : SqL K H p xs) (h : Q (.int xs.length) H) : rLenU P w K [.ref p] H Q := .inl (.inl ⟨p, xs, rfl, .inl hp, h⟩)
theorem rd_lenT {p : Addr} {xs : List V} (hp : SqT K H p xs) (h : Q (.int xs.length) H) : rLenU P w K [.ref p] H Q := .inl (.inl ⟨p, xs, rfl, .inr hp, h⟩)
theorem rd_lenS {z : Str} (hz : z.length ≤ sizeLine) (h : Q (.int z.length) H) : rLenU P w K [.str z] H Q := .inl (.inr ⟨z, rfl, hz, h⟩)
theorem rd_lenN {p : Addr} {kvs : List (NestedKey × V)} (n : NdAt P w K H p kvs) (h : Q (.int kvs.length) H) : rLenU P w K [.ref p] H Q := .inr ⟨p, kvs, rfl, n, h⟩
theorem rd_intI (h : Q (.int i) H) : rIntC [.int i] H Q := .inl ⟨i, rfl, h⟩
theorem rd_absI (h : Q (.int (if i < 0 then -i else i)) H) : rAbsC [.int i] H Q := ⟨i, rfl, h⟩
theorem rd_tupL {p : Addr} {ys : List V} (hp : SqL K H p ys) (h : ∀ l, H l = none → Q (.ref l) (upd H l (.tup ys))) : rTupC K [.ref p] H Q := ⟨p, ys, rfl, .inl ⟨hp, h⟩⟩
theorem rd_pow {f : Int → Int → V} (h0 : 0 ≤ j) (h1 : j ≤ 1000000) (h2 : i.natAbs < 2 ^ 64) (h : Q (f i j) H) : rI CPow f (.int i) (.int j) H Q := ⟨i, j, rfl, rfl, ⟨h0, h1, h2⟩, h⟩
theorem rd_mod {f : Int → Int → V} (h0 : j ≠ 0) (h : Q (f i j) H) : rI (fun _ j => j ≠ 0) f (.int i) (.int j) H Q := ⟨i, j, rfl, rfl, h0, h⟩
theorem rd_mulL {f : Int → Int → V} (h0 : -(2 ^ 64) < i) (h1 : i < 2 ^ 64) (h : Q (f i j) H) : rI CMul f (.int i) (.int j) H Q := ⟨i, j, rfl, rfl, .inl ⟨h0, h1⟩, h⟩
theorem rd_mulR {f : Int → Int → V} (h0 : -(2 ^ 64) < j) (h1 : j < 2 ^ 64) (h : Q (f i j) H) : rI CMul f (.int i) (.int j) H Q := ⟨i, j, rfl, rfl, .inr ⟨h0, h1⟩, h⟩
theorem rd_divW {n : Nat} {f : Int → Int → V} (h0 : 0 < j) (hb : j.natAbs < 2 ^ n) (hn : 0 < n) (h9 : n ≤ 9000) (h : Q (f i j) H) : rI CDivW f (.int i) (.int j) H Q := ⟨i, j, rfl, rfl, wide_div h0 hb hn h9, h⟩
theorem rd_bm {T : String} {r : V → List V → Hp → VK → Prop} (h : te σ H fun x H1 => tyV K T x H1 ∧ tr σ H1 fun xs H2 => r x xs H2 Q) : tBM K T r te tr σ H Q := h
theorem sql {a : Addr} {xs : List V} (h : H a = some (.lst xs)) : SqL K H a xs := .inl (.inl h)
theorem sqt {a : Addr} {xs : List V} (h : H a = some (.tup xs)) : SqT K H a xs := .inl (.inl h)
theorem rd_app {p : Addr} {xs : List V} (hp : H p = some (.lst xs)) (hz : xs.length < sizeLine) (h : Q .non (upd H p (.lst (xs ++ [y])))) : rAppend (.ref p) [y] H Q := ⟨p, xs, y, rfl, rfl, hp, hz, h⟩
end
end HH
namespace HH
open PySem PySem.Spec PyProof.Rows L2 PySem.SeqAt
section
variable {P : Program} {w : World} {K : PySem.W.Frag} {σ : L2.St} {H : Hp} {Q : VK} {D : Ends} {te tl : TE} {ta : TA} {tt : TT} {tb : TS} {g : TG} {wi : TI} {vs : List Nat}
theorem rd_lc (h : wi σ H fun J H1 => ∀ D, H1 D = none → ∃ W : Nat → Nat → Hp → Prop, (∃ m, W 0 m (upd H1 D (.lst []))) ∧ ∀ i m H, W i m H →
    (J.stop i H ∧ Q (.ref D) H) ∨ (J.go i H ∧ ∃ Nx : Hp → Prop, (∀ H', Nx H' → ∃ m', m' < m ∧ W (i + 1) m' H') ∧ ∀ x H', J.yld i H x H' → g x (wipe σ vs) H' fun σ2 H2 => wipe σ2 vs = wipe σ vs ∧ tt σ2 H2 fun b H3 =>
      if b = true then te σ2 H3 fun y H4 => ∃ acc, H4 D = some (.lst acc) ∧ acc.length < sizeLine ∧ Nx (upd H4 D (.lst (acc ++ [y]))) else Nx H3)) : tLc wi g tt te vs σ H Q := h
theorem rd_for (h : wi σ H fun J H1 => ∃ W : Nat → Nat → L2.St → Hp → Prop, (∃ m, W 0 m σ H1) ∧ ∀ i m σ H, W i m σ H →
    (J.stop i H ∧ D.nx σ H) ∨ (J.go i H ∧ ∃ N : L2.St → Hp → Prop, (∀ σ' H', N σ' H' → ∃ m', m' < m ∧ W (i + 1) m' σ' H') ∧ ∀ x H', J.yld i H x H' → g x σ H' fun σ2 H2 => tb { D with nx := N, ct := N, bk := D.nx } σ2 H2)) : tFor wi g tb D σ H := h
theorem rd_iL {R : It → Hp → Prop} (h : tl σ H fun x H1 => ∃ a, x = .ref a ∧ (∃ xs, SqL K H1 a xs) ∧ R (Itl K a) H1) : iList K tl σ H R := h
theorem rd_iT {R : It → Hp → Prop} (h : tl σ H fun x H1 => ∃ a, x = .ref a ∧ (∃ xs, SqT K H1 a xs) ∧ R (Itt K a) H1) : iTup K tl σ H R := h
theorem rd_iR1 {R : It → Hp → Prop} (h : ta σ H fun vs H1 => ∃ j : Int, vs = [.int j] ∧ -(2 ^ 62) ≤ j ∧ j < 2 ^ 62 ∧ R (Itr 0 j.toNat) H1) : iRng1 ta σ H R := h
theorem rd_iS {R : It → Hp → Prop} (h : tl σ H fun v H1 => ∃ x, v = .str x ∧ R (Its x) H1) : iStr tl σ H R := h
theorem rd_leafS {z : Str} {R : Str → Prop} (h : R z) : ∃ x, V.str z = .str x ∧ R x := ⟨z, rfl, h⟩
theorem rd_leafR {n : Int} {R : Int → Prop} (h1 : -(2 ^ 62) ≤ n) (h2 : n < 2 ^ 62) (h : R n) : ∃ j : Int, [V.int n] = [.int j] ∧ -(2 ^ 62) ≤ j ∧ j < 2 ^ 62 ∧ R j := ⟨n, rfl, h1, h2, h⟩
theorem rd_leafL {p : Addr} {xs : List V} {R : Addr → Prop} (hp : SqL K H p xs) (h : R p) : ∃ a, V.ref p = .ref a ∧ (∃ xs, SqL K H a xs) ∧ R a := ⟨p, rfl, ⟨_, hp⟩, h⟩
theorem rd_leafT {p : Addr} {xs : List V} {R : Addr → Prop} (hp : SqT K H p xs) (h : R p) : ∃ a, V.ref p = .ref a ∧ (∃ xs, SqT K H a xs) ∧ R a := ⟨p, rfl, ⟨_, hp⟩, h⟩
theorem rd_sl {r : V → Option Int → Option Int → Hp → VK → Prop} {lo hi : TO} (h : te σ H fun x H1 => lo σ H1 fun l H2 => hi σ H2 fun u H3 => r x l u H3 Q) : tSl r te lo hi σ H Q := h
theorem rd_noPart {Q : Option Int → Hp → Prop} (h : Q none H) : tNoPart σ H Q := h
theorem rd_part {Q : Option Int → Hp → Prop} (h : te σ H fun x H1 => ∃ i, x = .int i ∧ Q (some i) H1) : tPart te σ H Q := h
theorem rd_leafI {i : Int} {R : Int → Prop} (h : R i) : ∃ j, V.int i = .int j ∧ R j := ⟨i, rfl, h⟩
theorem rd_slL {p : Addr} {xs : List V} {lo hi : Option Int} (hp : SqL K H p xs) (h : ∀ q, H q = none → Q (.ref q) (upd H q (.lst (cutV xs lo hi)))) : rSlL K (.ref p) lo hi H Q := ⟨p, xs, rfl, hp, h⟩
theorem rd_slS {z : Str} {lo hi : Option Int} (hz : z.length ≤ sizeLine) (h : Q (.str (cutS z lo hi)) H) : rSlS (.str z) lo hi H Q := ⟨z, rfl, hz, h⟩
theorem rd_yes {Q : Bool → Hp → Prop} (h : Q true H) : tYes σ H Q := h
/-- a list comprehension over a list: σ' the slots, its own names forgotten -/
theorem lc_listW {a : Addr} {xs : List V} {H1 : Hp} {D : Addr} {Qd : Hp → Prop} (σ' : L2.St) (hw : wipe σ vs = σ') (Pv : Nat → Hp → Prop) (h0 : Pv 0 (upd H1 D (.lst []))) (hl : ∀ i H, i ≤ xs.length → Pv i H → SqL K H a xs)
    (hs : ∀ i x H, xs[i]? = some x → Pv i H → g x σ' H fun σ2 H2 => wipe σ2 vs = σ' ∧ tt σ2 H2 fun b H3 =>
      if b = true then te σ2 H3 fun y H4 => ∃ acc, H4 D = some (.lst acc) ∧ acc.length < sizeLine ∧ Pv (i + 1) (upd H4 D (.lst (acc ++ [y]))) else Pv (i + 1) H3) (hd : ∀ H, Pv xs.length H → Qd H) :
    ∃ W : Nat → Nat → Hp → Prop, (∃ m, W 0 m (upd H1 D (.lst []))) ∧ ∀ i m H, W i m H →
      ((Itl K a).stop i H ∧ Qd H) ∨ ((Itl K a).go i H ∧ ∃ Nx : Hp → Prop, (∀ H', Nx H' → ∃ m', m' < m ∧ W (i + 1) m' H') ∧ ∀ x H', (Itl K a).yld i H x H' → g x (wipe σ vs) H' fun σ2 H2 => wipe σ2 vs = wipe σ vs ∧ tt σ2 H2 fun b H3 =>
        if b = true then te σ2 H3 fun y H4 => ∃ acc, H4 D = some (.lst acc) ∧ acc.length < sizeLine ∧ Nx (upd H4 D (.lst (acc ++ [y]))) else Nx H3) := by
  subst hw
  exact lc_list Pv h0 hl hs hd
theorem lc_tupW {a : Addr} {xs : List V} {H1 : Hp} {D : Addr} {Qd : Hp → Prop} (σ' : L2.St) (hw : wipe σ vs = σ') (Pv : Nat → Hp → Prop) (h0 : Pv 0 (upd H1 D (.lst []))) (hl : ∀ i H, i ≤ xs.length → Pv i H → SqT K H a xs)
    (hs : ∀ i x H, xs[i]? = some x → Pv i H → g x σ' H fun σ2 H2 => wipe σ2 vs = σ' ∧ tt σ2 H2 fun b H3 =>
      if b = true then te σ2 H3 fun y H4 => ∃ acc, H4 D = some (.lst acc) ∧ acc.length < sizeLine ∧ Pv (i + 1) (upd H4 D (.lst (acc ++ [y]))) else Pv (i + 1) H3) (hd : ∀ H, Pv xs.length H → Qd H) :
    ∃ W : Nat → Nat → Hp → Prop, (∃ m, W 0 m (upd H1 D (.lst []))) ∧ ∀ i m H, W i m H →
      ((Itt K a).stop i H ∧ Qd H) ∨ ((Itt K a).go i H ∧ ∃ Nx : Hp → Prop, (∀ H', Nx H' → ∃ m', m' < m ∧ W (i + 1) m' H') ∧ ∀ x H', (Itt K a).yld i H x H' → g x (wipe σ vs) H' fun σ2 H2 => wipe σ2 vs = wipe σ vs ∧ tt σ2 H2 fun b H3 =>
        if b = true then te σ2 H3 fun y H4 => ∃ acc, H4 D = some (.lst acc) ∧ acc.length < sizeLine ∧ Nx (upd H4 D (.lst (acc ++ [y]))) else Nx H3) := by
  subst hw
  exact lc_tup Pv h0 hl hs hd
theorem cut_map {α : Type} (f : α → V) (xs : List α) (lo hi : Option Int) : ∃ ys : List α, cutV (xs.map f) lo hi = ys.map f ∧ ys.length ≤ xs.length ∧ ∀ y ∈ ys, y ∈ xs := by
  unfold cutV
  rw [← List.map_drop, ← List.map_take]
  exact ⟨_, rfl, by rw [List.length_take, List.length_drop]; omega, fun y hy => List.mem_of_mem_drop (List.mem_of_mem_take hy)⟩
end
end HH
namespace HH
open PySem PySem.Spec PyProof.Rows L2 PySem.SeqAt
/-- the codes of a text -/
abbrev cds (z : Str) : List Nat := z.cps.toList
theorem cds_app (a b : Str) : cds (a ++ b) = cds a ++ cds b := by
  show (a ++ b).cps.toList = _
  rw [Str.cps_append, Array.toList_append]
theorem len_cds (z : Str) : z.length = (cds z).length := by simp [Str.length, cds]
theorem cds_one (c : Nat) : cds ⟨#[c]⟩ = [c] := rfl
theorem cds_cut (z : Str) (lo hi : Option Int) : cds (cutS z lo hi) = ((cds z).drop (HT.sIx z.length 0 lo)).take (HT.sIx z.length z.length hi - HT.sIx z.length 0 lo) := rfl
theorem sIx_le' {n k : Nat} {i : Int} (h0 : 0 ≤ i) (h : i.toNat = k) : HT.sIx n 0 (some i) = min k n := by
  obtain ⟨m, rfl⟩ := Int.eq_ofNat_of_zero_le h0
  have : m = k := by simpa using h
  subst this
  exact HT.sIx_nat n 0 m
theorem sIx_ge' {n k : Nat} {i : Int} (h0 : 0 ≤ i) (h : i.toNat = k) : HT.sIx n n (some i) = min k n := by
  obtain ⟨m, rfl⟩ := Int.eq_ofNat_of_zero_le h0
  have : m = k := by simpa using h
  subst this
  exact HT.sIx_nat n n m
theorem cds_upto (z : Str) {i : Int} (h0 : 0 ≤ i) : cds (cutS z none (some i)) = (cds z).take i.toNat := by
  rw [cds_cut, HT.sIx_none, sIx_ge' h0 rfl, List.drop_zero, Nat.sub_zero, len_cds]
  rcases Nat.le_total i.toNat (cds z).length with h | h
  · rw [Nat.min_eq_left h]
  · rw [Nat.min_eq_right h, List.take_length, List.take_of_length_le h]
theorem cds_from (z : Str) {i : Int} (h0 : 0 ≤ i) : cds (cutS z (some i) none) = (cds z).drop i.toNat := by
  rw [cds_cut, HT.sIx_none, sIx_le' h0 rfl, len_cds]
  rcases Nat.le_total i.toNat (cds z).length with h | h
  · rw [Nat.min_eq_left h]
    exact List.take_of_length_le (by rw [List.length_drop]; omega)
  · rw [Nat.min_eq_right h, List.drop_length, List.drop_of_length_le h]
    exact List.take_nil
/-- a to z -/
def Low (z : Str) : Prop := ∀ c ∈ cds z, 97 ≤ c ∧ c ≤ 122
theorem Low.app {a b : Str} (ha : Low a) (hb : Low b) : Low (a ++ b) := fun c hc => by
  rw [cds_app, List.mem_append] at hc
  exact hc.elim (ha c) (hb c)
theorem Low.cut {z : Str} (h : Low z) (lo hi : Option Int) : Low (cutS z lo hi) := fun c hc => h c (by
  rw [cds_cut] at hc
  exact List.mem_of_mem_drop (List.mem_of_mem_take hc))
theorem Low.one {c : Nat} (h1 : 97 ≤ c) (h2 : c ≤ 122) : Low ⟨#[c]⟩ := fun d hd => by
  rw [cds_one, List.mem_singleton] at hd
  omega
theorem letters_at {r : Int} (h0 : 0 ≤ r) (h1 : r < 26) : atI (cds "abcdefghijklmnopqrstuvwxyz") r = some (97 + r.toNat) := by
  have e : cds "abcdefghijklmnopqrstuvwxyz" = List.range' 97 26 := by decide +kernel
  obtain ⟨n, rfl⟩ := Int.eq_ofNat_of_zero_le h0
  have hn : n < 26 := by omega
  rw [e]
  exact atI_nat (j := n) (by rw [List.getElem?_range' (by omega)]; simp)
/-! ### in -/
def rDIn (neg : Bool) : R2 := fun y x H Q => ∃ a o, x = .ref a ∧ DGet H a y o ∧ Q (.bl (if neg = true then !o.isSome else o.isSome)) H
def rInU (P : Program) (w : World) (K : PySem.W.Frag) (neg : Bool) : R2 := fun x y H Q => (rIn K neg x y H Q ∨ rNIn P w K neg x y H Q) ∨ rDIn neg x y H Q
section
variable {X : Cx}
theorem op_din (hu : X.A.units + 1 < cLine) : OpR X (compareOp .In) (rDIn false) := by
  intro pins s σ H y x u r Q I ry rx h
  obtain ⟨a, o, ex, g, q⟩ := h
  subst ex
  obtain rfl : r = Value.ref a := rx
  exact d_in hu I g ry fun s' I' => ⟨.bl o.isSome, H, I', rfl, q⟩
theorem op_dnotin (hu : X.A.units + 1 < cLine) : OpR X (compareOp .NotIn) (rDIn true) := by
  intro pins s σ H y x u r Q I ry rx h
  obtain ⟨a, o, ex, g, q⟩ := h
  subst ex
  obtain rfl : r = Value.ref a := rx
  exact d_notIn hu I g ry fun s' I' => ⟨.bl (!o.isSome), H, I', rfl, q⟩
theorem op_inU {P : Program} {w : World} {K : PySem.W.Frag} (hu : X.A.units + 20 < cLine) (hX : X.prog = P ∧ X.w = w ∧ X.K = K := by exact ⟨rfl, rfl, rfl⟩) : OpR X (compareOp .In) (rInU P w K false) := by obtain ⟨rfl, rfl, rfl⟩ := hX; exact OpR.or (OpR.or op_in_seq (op_nin hu)) (op_din (by omega))
theorem op_ninU {P : Program} {w : World} {K : PySem.W.Frag} (hu : X.A.units + 20 < cLine) (hX : X.prog = P ∧ X.w = w ∧ X.K = K := by exact ⟨rfl, rfl, rfl⟩) : OpR X (compareOp .NotIn) (rInU P w K true) := by obtain ⟨rfl, rfl, rfl⟩ := hX; exact OpR.or (OpR.or op_notIn_seq (op_nnotin hu)) (op_dnotin (by omega))
end
section
variable {P : Program} {w : World} {K : PySem.W.Frag} {H : Hp} {Q : VK} {neg : Bool}
theorem inV_strs (z : Str) (xs : List Str) : inV (.str z) (xs.map V.str) = decide (z ∈ xs) := by
  unfold inV
  rw [List.any_map, Bool.eq_iff_iff, List.any_eq_true, decide_eq_true_eq]
  constructor
  · rintro ⟨x, hx, e⟩
    have e' : (x == z) = true := e
    rw [← eq_of_beq e']; exact hx
  · intro h
    exact ⟨z, h, beq_self_eq_true z⟩
theorem flat_strs (xs : List Str) : (xs.map V.str).all flatV = true := by
  rw [List.all_map, List.all_eq_true]; intro x _; rfl
theorem rd_inS {z : Str} {p : Addr} {xs : List Str} (hp : SqL K H p (xs.map V.str)) (h : Q (.bl (decide (z ∈ xs))) H) : rInU P w K false (.str z) (.ref p) H Q :=
  .inl (.inl ⟨p, _, rfl, .inl hp, rfl, flat_strs xs, by rw [inV_strs]; exact h⟩)
theorem rd_ninS {z : Str} {p : Addr} {xs : List Str} (hp : SqL K H p (xs.map V.str)) (h : Q (.bl (!decide (z ∈ xs))) H) : rInU P w K true (.str z) (.ref p) H Q :=
  .inl (.inl ⟨p, _, rfl, .inl hp, rfl, flat_strs xs, by rw [inV_strs]; exact h⟩)
theorem rd_inN {x : V} {d : Addr} {kvs : List (NestedKey × V)} {k : NestedKey} (n : NdAt P w K H d kvs) (hy : KeyAt K H k x) (h : Q (.bl (valV kvs k).isSome) H) : rInU P w K false x (.ref d) H Q :=
  .inl (.inr ⟨d, kvs, k, rfl, n, hy, h⟩)
theorem rd_ninN {x : V} {d : Addr} {kvs : List (NestedKey × V)} {k : NestedKey} (n : NdAt P w K H d kvs) (hy : KeyAt K H k x) (h : Q (.bl (!(valV kvs k).isSome)) H) : rInU P w K true x (.ref d) H Q :=
  .inl (.inr ⟨d, kvs, k, rfl, n, hy, h⟩)
theorem rd_sortS {a : Addr} {xs : List Str} (ha : SqL K H a (xs.map V.str)) (hl : xs.length < 64) (h : ∀ (ys : List Str) (p : Addr), ys.Perm xs → sortedS ys = true → H p = none → Q (.ref p) (upd H p (.lst (ys.map V.str)))) : rSortedS K [.ref a] H Q :=
  ⟨a, xs, rfl, ha, hl, h⟩
end
end HH
namespace HH
open PySem PySem.Spec PyProof.Rows L2 PySem.SeqAt
/-! ### tables from texts to whole numbers -/
abbrev Tab := List (Str × Int)
section
variable {α : Type} [DecidableEq α]
def tget (m : List (α × Int)) (z : α) : Option Int := (m.find? fun q => decide (q.1 = z)).map (·.2)
def tput (m : List (α × Int)) (z : α) (n : Int) : List (α × Int) := if z ∈ m.map (·.1) then m.map (fun q => if q.1 = z then (q.1, n) else q) else m ++ [(z, n)]
def tdrop (m : List (α × Int)) (z : α) : List (α × Int) := m.filter fun q => decide (q.1 ≠ z)
theorem tget_cons_pos {q : α × Int} {m : List (α × Int)} {z : α} (e : q.1 = z) : tget (q :: m) z = some q.2 := by simp [tget, List.find?_cons, e]
theorem tget_cons_neg {q : α × Int} {m : List (α × Int)} {z : α} (e : ¬ q.1 = z) : tget (q :: m) z = tget m z := by simp [tget, List.find?_cons, e]
theorem tget_some {m : List (α × Int)} {z : α} : (tget m z).isSome = true ↔ z ∈ m.map (·.1) := by
  induction m with
  | nil => simp [tget]
  | cons q m ih =>
    by_cases e : q.1 = z
    · simp [tget_cons_pos e, e]
    · have e' : ¬ z = q.1 := fun h => e h.symm
      rw [tget_cons_neg e, ih]
      simp [e']
theorem tget_none {m : List (α × Int)} {z : α} (h : z ∉ m.map (·.1)) : tget m z = none := by
  cases q : tget m z with
  | none => rfl
  | some n => exact absurd (tget_some.mp (by rw [q]; rfl)) h
theorem tget_mem {m : List (α × Int)} {z : α} {n : Int} (h : tget m z = some n) : (z, n) ∈ m := by
  unfold tget at h
  obtain ⟨q, hq, e⟩ := Option.map_eq_some_iff.mp h
  have h1 := List.mem_of_find?_eq_some hq
  have h2 := List.find?_some hq
  simp only [decide_eq_true_eq] at h2
  rw [← h2, ← e]
  exact h1
theorem mem_tget {m : List (α × Int)} {z : α} {n : Int} (nd : (m.map (·.1)).Nodup) (h : (z, n) ∈ m) : tget m z = some n := by
  induction m with
  | nil => cases h
  | cons q m ih =>
    rw [List.map_cons, List.nodup_cons] at nd
    rcases List.mem_cons.mp h with e | e
    · subst e
      exact tget_cons_pos rfl
    · have ne : ¬ q.1 = z := fun h => nd.1 (by rw [h]; exact List.mem_map.mpr ⟨(z, n), e, rfl⟩)
      rw [tget_cons_neg ne]
      exact ih nd.2 e
theorem tput_keys (m : List (α × Int)) (z : α) (n : Int) : (tput m z n).map (·.1) = if z ∈ m.map (·.1) then m.map (·.1) else m.map (·.1) ++ [z] := by
  unfold tput
  split
  · rw [List.map_map]
    refine List.map_congr_left fun q _ => ?_
    show (if q.1 = z then (q.1, n) else q).1 = q.1
    split <;> rfl
  · simp
theorem tput_nodup {m : List (α × Int)} {z : α} {n : Int} (nd : (m.map (·.1)).Nodup) : ((tput m z n).map (·.1)).Nodup := by
  rw [tput_keys]
  split
  · exact nd
  · rename_i h
    exact List.nodup_append.mpr ⟨nd, List.nodup_cons.mpr ⟨List.not_mem_nil, List.nodup_nil⟩, fun a ha b hb e => h (by rw [List.mem_singleton.mp hb] at e; rw [← e]; exact ha)⟩
theorem mem_tput {m : List (α × Int)} {z : α} {n : Int} {q : α × Int} (h : q ∈ tput m z n) : q ∈ m ∨ q = (z, n) := by
  unfold tput at h
  split at h
  · obtain ⟨r, hr, e⟩ := List.mem_map.mp h
    split at e
    · rename_i e2
      exact .inr (by rw [← e, e2])
    · exact .inl (by rw [← e]; exact hr)
  · rcases List.mem_append.mp h with h | h
    · exact .inl h
    · exact .inr (List.mem_singleton.mp h)
theorem tput_len (m : List (α × Int)) (z : α) (n : Int) : (tput m z n).length ≤ m.length + 1 := by
  unfold tput
  split
  · rw [List.length_map]; omega
  · rw [List.length_append]; simp
theorem tput_ne (m : List (α × Int)) (z : α) (n : Int) : 1 ≤ (tput m z n).length := by
  unfold tput
  split
  · rename_i h
    obtain ⟨q, hq, _⟩ := List.mem_map.mp h
    rw [List.length_map]
    exact List.length_pos_of_mem hq
  · rw [List.length_append]; simp
theorem tput_has {m : List (α × Int)} {z x : α} {n : Int} (h : x ∈ m.map (·.1) ∨ x = z) : x ∈ (tput m z n).map (·.1) := by
  rw [tput_keys]
  split
  · rename_i hz
    rcases h with h | h
    · exact h
    · rw [h]; exact hz
  · rcases h with h | h
    · exact List.mem_append_left _ h
    · rw [h]; exact List.mem_append_right _ (List.mem_singleton.mpr rfl)
theorem tdrop_nodup {m : List (α × Int)} {z : α} (nd : (m.map (·.1)).Nodup) : ((tdrop m z).map (·.1)).Nodup := nd.sublist (List.filter_sublist.map _)
theorem mem_tdrop {m : List (α × Int)} {z : α} {q : α × Int} (h : q ∈ tdrop m z) : q ∈ m := (List.mem_filter.mp h).1
theorem tdrop_len (m : List (α × Int)) (z : α) : (tdrop m z).length ≤ m.length := List.length_filter_le _ _
theorem upd_sum (z : α) (v : Int) : ∀ m : List (α × Int), (m.map (·.1)).Nodup → z ∈ m.map (·.1) → ((m.map fun q => if q.1 = z then (q.1, v) else q).map (·.2)).sum = (m.map (·.2)).sum + v - (tget m z).getD 0
  | [], _, h => by simp at h
  | q :: m, nd, h => by
    rw [List.map_cons, List.nodup_cons] at nd
    by_cases e : q.1 = z
    · have e2 : (m.map fun q => if q.1 = z then (q.1, v) else q) = m := by
        have : ∀ r ∈ m, (if r.1 = z then (r.1, v) else r) = r := fun r hr => if_neg fun h => nd.1 (by rw [e, ← h]; exact List.mem_map.mpr ⟨r, hr, rfl⟩)
        rw [List.map_congr_left this, List.map_id']
      rw [List.map_cons, if_pos e, e2, tget_cons_pos e, List.map_cons, List.map_cons, List.sum_cons, List.sum_cons]
      simp only [Option.getD_some]
      omega
    · have h' : z ∈ m.map (·.1) := by
        rw [List.map_cons] at h
        rcases List.mem_cons.mp h with r | r
        · exact absurd r.symm e
        · exact r
      have ih := upd_sum z v m nd.2 h'
      rw [List.map_cons, if_neg e, tget_cons_neg e, List.map_cons, List.map_cons, List.sum_cons, List.sum_cons, ih]
      omega
theorem tput_sum {m : List (α × Int)} (nd : (m.map (·.1)).Nodup) (z : α) (v : Int) : ((tput m z v).map (·.2)).sum = (m.map (·.2)).sum + v - (tget m z).getD 0 := by
  unfold tput
  split
  · rename_i h
    exact upd_sum z v m nd h
  · rename_i h
    rw [tget_none h, List.map_append, List.sum_append]
    simp
theorem perm_sum {a b : List Int} (h : a.Perm b) : a.sum = b.sum := by
  induction h with
  | nil => rfl
  | cons x _ ih => rw [List.sum_cons, List.sum_cons, ih]
  | swap x y l => simp only [List.sum_cons]; omega
  | trans _ _ h1 h2 => exact h1.trans h2
/-- the table in another order of its keys -/
theorem tab_perm {m : List (α × Int)} {ys : List α} (nd : (m.map (·.1)).Nodup) (pm : ys.Perm (m.map (·.1))) : (ys.map fun y => (y, (tget m y).getD 0)).Perm m := by
  have h := pm.map fun y => (y, (tget m y).getD 0)
  rw [List.map_map] at h
  have e : m.map ((fun y => (y, (tget m y).getD 0)) ∘ fun q => q.1) = m := by
    have : ∀ q ∈ m, ((fun y => (y, (tget m y).getD 0)) ∘ fun q : α × Int => q.1) q = q := fun q hq => by
      show (q.1, (tget m q.1).getD 0) = q
      rw [mem_tget nd (show (q.1, q.2) ∈ m from hq)]
      rfl
    rw [List.map_congr_left this, List.map_id']
  rw [e] at h
  exact h
/-! ### such a table as a dict's pairs -/
section
variable {κ : Type} [DecidableEq κ] (enc : α → κ) (inj : ∀ a b, enc a = enc b → a = b)
def encV (m : List (α × Int)) : List (κ × V) := m.map fun q => (enc q.1, V.int q.2)
include inj
theorem valV_enc (m : List (α × Int)) (z : α) : valV (encV enc m) (enc z) = (tget m z).map V.int := by
  induction m with
  | nil => rfl
  | cons q m ih =>
    show valV ((enc q.1, V.int q.2) :: encV enc m) _ = _
    by_cases e : q.1 = z
    · rw [valV_pos (p := (enc q.1, V.int q.2)) (by rw [e]), tget_cons_pos e]
      rfl
    · rw [valV_neg (p := (enc q.1, V.int q.2)) (fun h => e (inj _ _ h)), ih, tget_cons_neg e]
theorem putK_enc (m : List (α × Int)) (z : α) (n : Int) : putK (encV enc m) (enc z) (V.int n) = encV enc (tput m z n) := by
  unfold putK tput
  rw [valV_any, valV_enc enc inj, Option.isSome_map]
  by_cases h : z ∈ m.map (·.1)
  · rw [if_pos (tget_some.mpr h), if_pos h]
    unfold encV
    rw [List.map_map, List.map_map]
    refine List.map_congr_left fun q _ => ?_
    by_cases e : q.1 = z
    · simp [e]
    · have : ¬ enc q.1 = enc z := fun h => e (inj _ _ h)
      simp [e, this]
  · rw [if_neg (fun q => h (tget_some.mp q)), if_neg h]
    simp [encV]
theorem dropK_enc (m : List (α × Int)) (z : α) : dropK (encV enc m) (enc z) = encV enc (tdrop m z) := by
  unfold dropK encV tdrop
  rw [List.filter_map]
  congr 1
  refine List.filter_congr fun q _ => ?_
  show decide (enc q.1 ≠ enc z) = decide (q.1 ≠ z)
  by_cases e : q.1 = z
  · simp [e]
  · have : ¬ enc q.1 = enc z := fun h => e (inj _ _ h)
    simp [e, this]
end
end
def tabV (m : Tab) : List (Key × V) := encV Sum.inr m
theorem tabV_len (m : Tab) : (tabV m).length = m.length := List.length_map _
theorem tabV_keys (m : Tab) : (tabV m).map (·.1) = (m.map (·.1)).map Sum.inr := by simp [tabV, encV]
theorem valV_tab (m : Tab) (z : Str) : valV (tabV m) (Sum.inr z) = (tget m z).map V.int := valV_enc Sum.inr (fun _ _ h => Sum.inr.inj h) m z
theorem putK_tab (m : Tab) (z : Str) (n : Int) : putK (tabV m) (Sum.inr z) (V.int n) = tabV (tput m z n) := putK_enc Sum.inr (fun _ _ h => Sum.inr.inj h) m z n
/-! ### steps over such a dict -/
section
variable {P : Program} {w : World} {K : PySem.W.Frag} {σ : L2.St} {H : Hp} {Q : VK} {D : Ends} {td ty tv tx : TE}
theorem rd_tDGet2 (h : td σ H fun x H1 => ∃ a, x = .ref a ∧ IsD H1 a ∧ ty σ H1 fun y H2 => tx σ H2 fun z H3 => ∃ o, DGet H3 a y o ∧ Q (o.getD z) H3) : tDGet2 td ty tx σ H Q := h
theorem rd_tDGet (h : td σ H fun x H1 => ty σ H1 fun y H2 => ∃ a v, x = .ref a ∧ DGet H2 a y (some v) ∧ Q v H2) : tDGet td ty σ H Q := h
theorem rd_sDPut (h : tv σ H fun v H1 => td σ H1 fun x H2 => ty σ H2 fun y H3 => ∃ a H4, x = .ref a ∧ DPut H3 a y v H4 ∧ D.nx σ H4) : sDPut td ty tv D σ H := h
theorem rd_isD {a : Addr} {kvs : List (Key × V)} {R : Addr → Prop} (ha : H a = some (.dK kvs)) (h : R a) : ∃ b, V.ref a = .ref b ∧ IsD H b ∧ R b := ⟨a, rfl, .inl ⟨kvs, .inl ha⟩, h⟩
theorem rd_dgetS {a : Addr} {m : Tab} {z : Str} {x : V} (ha : H a = some (.dK (tabV m))) (h : Q (((tget m z).map V.int).getD x) H) : ∃ o, DGet H a (.str z) o ∧ Q (o.getD x) H :=
  ⟨_, DGet.k (k := Sum.inr z) ha, by rw [valV_tab]; exact h⟩
theorem rd_dgetT {a : Addr} {m : Tab} {z : Str} {n : Int} (ha : H a = some (.dK (tabV m))) (e : tget m z = some n) (h : Q (.int n) H) : ∃ b v, V.ref a = .ref b ∧ DGet H b (.str z) (some v) ∧ Q v H :=
  ⟨a, .int n, rfl, by have := DGet.k (k := Sum.inr z) ha; rw [valV_tab, e] at this; exact this, h⟩
theorem dget_tab {a : Addr} {m : Tab} {z : Str} {n : Int} (ha : H a = some (.dK (tabV m))) (e : tget m z = some n) : DGet H a (.str z) (some (.int n)) := by
  have := DGet.k (k := Sum.inr z) ha
  rw [valV_tab, e] at this
  exact this
theorem rd_dputT {a : Addr} {m : Tab} {z : Str} {n : Int} (ha : H a = some (.dK (tabV m))) (hl : m.length ≤ 1000000) (h : ∀ H' : Hp, H' a = some (.dK (tabV (tput m z n))) → (∀ b, b ≠ a → H' b = H b) → D.nx σ H') :
    ∃ b H4, V.ref a = .ref b ∧ DPut H b (.str z) (.int n) H4 ∧ D.nx σ H4 :=
  ⟨a, _, rfl, DPut.k (k := Sum.inr z) ha (by rw [tabV_len]; exact sz_lt hl), h _ (by rw [upd_same, putK_tab]) fun b hb => upd_ne hb⟩
theorem rd_dnewK (h : ∀ p, H p = none → Q (.ref p) (upd H p (.dK []))) : tDNewK σ H Q := h
def rSortD : List V → Hp → VK → Prop := fun xs H Q => ∃ (a : Addr) (kvs : List (Key × V)) (ks : List Str), xs = [.ref a] ∧ Rd H a (.dK kvs) ∧ kvs.map (·.1) = ks.map Sum.inr ∧ ks.length < 64 ∧
  ∀ ys p, ys.Perm ks → sortedS ys = true → H p = none → Q (.ref p) (upd H p (.lst (ys.map V.str)))
theorem cr_sortD {X : Cx} (hc : X.calm = true) : CallR X (.builtin "sorted") rSortD := call_sortedD hc
theorem rd_sortD {a : Addr} {m : Tab} (ha : H a = some (.dK (tabV m))) (hl : m.length < 64) (h : ∀ (ys : List Str) (p : Addr), ys.Perm (m.map (·.1)) → sortedS ys = true → H p = none → Q (.ref p) (upd H p (.lst (ys.map V.str)))) : rSortD [.ref a] H Q :=
  ⟨a, _, m.map (·.1), rfl, .inl ha, tabV_keys m, by rw [List.length_map]; exact hl, h⟩
end
/-! ### products -/
def prodK (ps : Tab) : NestedKey := .tup (ps.map fun q => .tup [.text q.1, .num q.2])
theorem prodK_depth (ps : Tab) : (prodK ps).depth ≤ 2 := by
  have : NestedKey.depthAll (ps.map fun q => .tup [.text q.1, .num q.2]) ≤ 1 := depthAll_le fun k hk => by
    obtain ⟨q, _, rfl⟩ := List.mem_map.mp hk
    simp [NestedKey.depth, NestedKey.depthAll]
  simp only [prodK, NestedKey.depth]
  omega
theorem prodK_inj {a b : Tab} (h : prodK a = prodK b) : a = b := by
  simp only [prodK, NestedKey.tup.injEq] at h
  induction a generalizing b with
  | nil => cases b with
    | nil => rfl
    | cons y b => simp at h
  | cons x a ih => cases b with
    | nil => simp at h
    | cons y b =>
      simp only [List.map_cons, List.cons.injEq, NestedKey.tup.injEq, NestedKey.text.injEq, NestedKey.num.injEq, and_true] at h
      obtain ⟨⟨h1, h2⟩, h3⟩ := h
      rw [ih h3]
      cases x; cases y
      simp only at h1 h2
      rw [h1, h2]
theorem cm_prod : ∀ (a b : Tab), cmL (a.map fun q => .tup [.text q.1, .num q.2]) (b.map fun q => .tup [.text q.1, .num q.2]) = true
  | [], [] => rfl
  | [], _ :: _ => rfl
  | _ :: _, [] => rfl
  | x :: a, y :: b => by
    rw [List.map_cons, List.map_cons, cmL, cm_prod a b]
    rfl
theorem cmK_prod (a b : Tab) : cmK (prodK a) (prodK b) = true := cm_prod a b
/-! ### sums: coefficients and products -/
abbrev Sm := List (Int × Tab)
def termK (q : Int × Tab) : NestedKey := .tup [.num q.1, prodK q.2]
def sumK (S : Sm) : NestedKey := .tup (S.map termK)
theorem termK_depth (q : Int × Tab) : (termK q).depth ≤ 3 := by
  have := prodK_depth q.2
  simp only [termK, NestedKey.depth, NestedKey.depthAll]
  omega
theorem sumK_depth (S : Sm) : (sumK S).depth ≤ 4 := by
  have : NestedKey.depthAll (S.map termK) ≤ 3 := depthAll_le fun k hk => by
    obtain ⟨q, _, rfl⟩ := List.mem_map.mp hk
    exact termK_depth q
  simp only [sumK, NestedKey.depth]
  omega
/-- a dict from products to whole numbers -/
abbrev Pt := List (Tab × Int)
def ptV (m : Pt) : List (NestedKey × V) := encV prodK m
theorem ptV_len (m : Pt) : (ptV m).length = m.length := List.length_map _
theorem ptV_keys (m : Pt) : (ptV m).map (·.1) = (m.map (·.1)).map prodK := by simp [ptV, encV]
theorem valV_pt (m : Pt) (z : Tab) : valV (ptV m) (prodK z) = (tget m z).map V.int := valV_enc prodK (fun _ _ h => prodK_inj h) m z
theorem putK_pt (m : Pt) (z : Tab) (n : Int) : putK (ptV m) (prodK z) (V.int n) = ptV (tput m z n) := putK_enc prodK (fun _ _ h => prodK_inj h) m z n
theorem dropK_pt (m : Pt) (z : Tab) : dropK (ptV m) (prodK z) = ptV (tdrop m z) := dropK_enc prodK (fun _ _ h => prodK_inj h) m z
theorem ptV_cm (m : Pt) : ∀ a ∈ (ptV m).map (·.1), ∀ b ∈ (ptV m).map (·.1), cmK a b = true := by
  rw [ptV_keys]
  intro a ha b hb
  obtain ⟨x, _, rfl⟩ := List.mem_map.mp ha
  obtain ⟨y, _, rfl⟩ := List.mem_map.mp hb
  exact cmK_prod x y
/-- keys told in another order are products again -/
theorem keys_back {m : Pt} {ls : List NestedKey} (pm : ls.Perm ((ptV m).map (·.1))) : ∃ ys : List Tab, ls = ys.map prodK ∧ ys.Perm (m.map (·.1)) := by
  rw [ptV_keys] at pm
  have all : ∀ l ∈ ls, ∃ y, prodK y = l := fun l hl => by
    obtain ⟨y, _, e⟩ := List.mem_map.mp (pm.mem_iff.mp hl)
    exact ⟨y, e⟩
  have key : ∀ ls : List NestedKey, (∀ l ∈ ls, ∃ y, prodK y = l) → ∃ ys : List Tab, ls = ys.map prodK := by
    intro ls
    induction ls with
    | nil => exact fun _ => ⟨[], rfl⟩
    | cons l ls ih =>
      intro h
      obtain ⟨y, e⟩ := h l List.mem_cons_self
      obtain ⟨ys, e2⟩ := ih fun k hk => h k (List.mem_cons_of_mem _ hk)
      exact ⟨y :: ys, by rw [e2, List.map_cons, e]⟩
  obtain ⟨ys, rfl⟩ := key ls all
  refine ⟨ys, rfl, ?_⟩
  have inj : ∀ (a b : List Tab), (a.map prodK).Perm (b.map prodK) → a.Perm b := by
    intro a b h
    refine List.perm_iff_count.mpr fun x => ?_
    have cnt : ∀ l : List Tab, (l.map prodK).count (prodK x) = l.count x := by
      intro l
      induction l with
      | nil => rfl
      | cons y l ih =>
        rw [List.map_cons, List.count_cons, List.count_cons, ih]
        by_cases e : y = x
        · subst e; simp
        · have e2 : ¬ prodK y = prodK x := fun h => e (prodK_inj h)
          simp [e, e2]
    rw [← cnt a, ← cnt b, h.count_eq]
  exact inj _ _ pm
section
variable {P : Program} {w : World} {K : PySem.W.Frag} {σ : L2.St} {H : Hp} {Q : VK} {D : Ends} {td ty tv tz : TE}
theorem rd_nnew (h : ∀ p, H p = none → Q (.ref p) (upd H p (NdO P w p []))) : tNNew P w σ H Q := h
theorem rd_nget (h : td σ H fun x H1 => ty σ H1 fun y H2 => ∃ d kvs k v, x = .ref d ∧ NdAt P w K H2 d kvs ∧ KeyAt K H2 k y ∧ valV kvs k = some v ∧ Q v H2) : tNGet P w K td ty σ H Q := h
theorem rd_nget2 (h : td σ H fun x H1 => ∃ d, x = .ref d ∧ (∃ kvs, NdAt P w K H1 d kvs) ∧ ty σ H1 fun y H2 => tz σ H2 fun z H3 => ∃ kvs k, NdAt P w K H3 d kvs ∧ KeyAt K H3 k y ∧ Q ((valV kvs k).getD z) H3) : tNGet2 P w K td ty tz σ H Q := h
theorem rd_npop (h : td σ H fun x H1 => ∃ d, x = .ref d ∧ (∃ kvs, NdAt P w K H1 d kvs) ∧ ty σ H1 fun y H2 => ∃ kvs k v, NdAt P w K H2 d kvs ∧ KeyAt K H2 k y ∧ valV kvs k = some v ∧ NdTo P w K H2 d (dropK kvs k) (Q v)) : tNPop P w K td ty σ H Q := h
theorem rd_nput (h : tv σ H fun v H1 => td σ H1 fun x H2 => ty σ H2 fun y H3 => ∃ d kvs k, x = .ref d ∧ NdAt P w K H3 d kvs ∧ KeyAt K H3 k y ∧ kvs.length < sizeLine ∧ NdTo P w K H3 d (putK kvs k v) (D.nx σ)) : sNPut P w K td ty tv D σ H := h
/-- a dict of nested keys stays when its own object and the tuples stay -/
theorem NdAt.keep {H H' : Hp} {d : Addr} {kvs : List (NestedKey × V)} (n : NdAt P w K H d kvs) (s : ∀ o, H d = some o → H' d = some o) (t : Tup K H H') : NdAt P w K H' d kvs := by
  obtain ⟨xs, e, k, h⟩ := n
  exact ⟨xs, s _ e, k, fun x hx => ⟨(h x hx).1.keep t, (h x hx).2⟩⟩
theorem NdAt.at {H : Hp} {d : Addr} {kvs : List (NestedKey × V)} (n : NdAt P w K H d kvs) : ∃ xs, H d = some (NdO P w d xs) := let ⟨xs, e, _⟩ := n; ⟨xs, e⟩
theorem prod_key {H : Hp} {ps : Tab} {t : Addr} (h : IsK K H (prodK ps) (.ref t)) : KeyAt K H (prodK ps) (.ref t) := ⟨t, rfl, h, by have := prodK_depth ps; omega⟩
end
end HH
namespace HH
open PySem PySem.Spec PyProof.Rows L2 PySem.SeqAt
section
variable {P : Program} {w : World} {K : PySem.W.Frag} {σ : L2.St} {H : Hp} {Q : VK} {D : Ends} {te tl tk tv : TE} {ta : TA} {tt : TT} {tb : TS} {g : TG} {wi : TI} {vs : List Nat}
theorem rd_dcn (h : wi σ H fun J H1 => ∀ D, H1 D = none → ∃ W : Nat → Nat → Hp → Prop, (∃ m, W 0 m (upd H1 D (NdO P w D []))) ∧ ∀ i m H, W i m H →
  (J.stop i H ∧ Q (.ref D) H) ∨ (J.go i H ∧ ∃ Nx : Hp → Prop, (∀ H', Nx H' → ∃ m', m' < m ∧ W (i + 1) m' H') ∧ ∀ x H', J.yld i H x H' → g x (wipe σ vs) H' fun σ2 H2 => wipe σ2 vs = wipe σ vs ∧ tt σ2 H2 fun b H3 =>
    if b = true then tk σ2 H3 fun y H4 => tv σ2 H4 fun z H5 => ∃ kvs k, NdAt P w K H5 D kvs ∧ KeyAt K H5 k y ∧ kvs.length < sizeLine ∧ NdTo P w K H5 D (putK kvs k z) Nx else Nx H3)) : tDcN P w K wi g tt tk tv vs σ H Q := h
/-- a dict comprehension over a tuple: σ' the slots, its own names forgotten -/
theorem dcn_tupW {a : Addr} {xs : List V} {H1 : Hp} {D : Addr} {Qd : Hp → Prop} (σ' : L2.St) (hw : wipe σ vs = σ') (Pv : Nat → Hp → Prop) (h0 : Pv 0 (upd H1 D (NdO P w D []))) (hl : ∀ i H, i ≤ xs.length → Pv i H → SqT K H a xs)
    (hs : ∀ i x H, xs[i]? = some x → Pv i H → g x σ' H fun σ2 H2 => wipe σ2 vs = σ' ∧ tt σ2 H2 fun b H3 =>
      if b = true then tk σ2 H3 fun y H4 => tv σ2 H4 fun z H5 => ∃ kvs k, NdAt P w K H5 D kvs ∧ KeyAt K H5 k y ∧ kvs.length < sizeLine ∧ NdTo P w K H5 D (putK kvs k z) (Pv (i + 1)) else Pv (i + 1) H3) (hd : ∀ H, Pv xs.length H → Qd H) :
    ∃ W : Nat → Nat → Hp → Prop, (∃ m, W 0 m (upd H1 D (NdO P w D []))) ∧ ∀ i m H, W i m H →
      ((Itt K a).stop i H ∧ Qd H) ∨ ((Itt K a).go i H ∧ ∃ Nx : Hp → Prop, (∀ H', Nx H' → ∃ m', m' < m ∧ W (i + 1) m' H') ∧ ∀ x H', (Itt K a).yld i H x H' → g x (wipe σ vs) H' fun σ2 H2 => wipe σ2 vs = wipe σ vs ∧ tt σ2 H2 fun b H3 =>
        if b = true then tk σ2 H3 fun y H4 => tv σ2 H4 fun z H5 => ∃ kvs k, NdAt P w K H5 D kvs ∧ KeyAt K H5 k y ∧ kvs.length < sizeLine ∧ NdTo P w K H5 D (putK kvs k z) Nx else Nx H3) := by
  subst hw
  refine ⟨fun i m H => i + m = xs.length ∧ Pv i H, ⟨xs.length, by omega, h0⟩, ?_⟩
  rintro i m H ⟨em, p⟩
  have q := hl i H (by omega) p
  rcases Nat.eq_zero_or_pos m with rfl | hm
  · have e : i = xs.length := by omega
    subst e
    exact .inl ⟨⟨xs, q, Nat.le_refl _⟩, hd H p⟩
  · have hlt : i < xs.length := by omega
    refine .inr ⟨⟨xs, xs[i], q, List.getElem?_eq_getElem hlt⟩, Pv (i + 1), fun H' p' => ⟨m - 1, by omega, by omega, p'⟩, ?_⟩
    rintro x H' ⟨rfl, y⟩
    exact hs i x _ (y xs q) p
theorem rd_gtup {n : Nat} {t : TGs} {v : V} {Q : L2.St → Hp → Prop} (h : ∃ a xs, v = .ref a ∧ SqT K H a xs ∧ xs.length = n ∧ t xs σ H Q) : gTup K n t v σ H Q := h
theorem rd_gcons {t : TG} {u : TGs} {v : V} {r : List V} {Q : L2.St → Hp → Prop} (h : t v σ H fun σ' H' => u r σ' H' Q) : gCons t u (v :: r) σ H Q := ⟨v, r, rfl, h⟩
theorem rd_gnil {Q : L2.St → Hp → Prop} (h : Q σ H) : gNil [] σ H Q := ⟨rfl, h⟩
/-- a term's two things -/
theorem term_at {q : Int × Tab} {v : V} (h : IsK K H (termK q) v) : ∃ a t, v = .ref a ∧ SqT K H a [.int q.1, .ref t] ∧ IsK K H (prodK q.2) (.ref t) := by
  obtain ⟨a, vs, rfl, s, ⟨x, r, rfl, hx, y, r2, rfl, hy, hr⟩⟩ := h
  obtain rfl : x = .int q.1 := hx
  obtain rfl : r2 = [] := hr
  obtain ⟨t, _, rfl, _⟩ := id hy
  exact ⟨a, t, rfl, s, hy⟩
/-- a sum's terms -/
theorem sum_at {S : Sm} {v : V} (h : IsK K H (sumK S) v) : ∃ a vs, v = .ref a ∧ SqT K H a vs ∧ IsKs K H (S.map termK) vs ∧ vs.length = S.length := by
  obtain ⟨a, vs, rfl, s, k⟩ := h
  exact ⟨a, vs, rfl, s, k, by rw [IsKs.length k, List.length_map]⟩
end
/-- what of a sum's terms lies in another one, term by term -/
def ptOf (S : Sm) : Pt := S.map fun q => (q.2, q.1)
def tbt (S R : Sm) : Bool := S.all fun q => decide (q.1 ≤ (tget (ptOf R) q.2).getD 0)
def lies (S R : Sm) : Bool := S.all fun q => R.any fun r => decide (r.2 = q.2) && decide (q.1 ≤ r.1)
theorem ptOf_keys (S : Sm) : (ptOf S).map (·.1) = S.map (·.2) := by simp [ptOf]
theorem tbt_lies {S R : Sm} (nd : (R.map (·.2)).Nodup) (p : ∀ q ∈ S, 1 ≤ q.1) : tbt S R = lies S R := by
  rw [Bool.eq_iff_iff]
  simp only [tbt, lies, List.all_eq_true, List.any_eq_true, Bool.and_eq_true, decide_eq_true_eq]
  have nd' : ((ptOf R).map (·.1)).Nodup := by rw [ptOf_keys]; exact nd
  constructor
  · intro h q hq
    have h1 := h q hq
    have h2 := p q hq
    cases e : tget (ptOf R) q.2 with
    | none => rw [e] at h1; simp at h1; omega
    | some n =>
      rw [e] at h1
      obtain ⟨r, hr, e2⟩ := List.mem_map.mp (tget_mem e)
      injection e2 with e3 e4
      exact ⟨r, hr, e3, by rw [e4]; exact h1⟩
  · intro h q hq
    obtain ⟨r, hr, e1, e2⟩ := h q hq
    have : (q.2, r.1) ∈ ptOf R := by rw [← e1]; exact List.mem_map.mpr ⟨r, hr, rfl⟩
    rw [mem_tget nd' this]
    exact e2
theorem lies_self (S : Sm) : lies S S = true := by
  simp only [lies, List.all_eq_true, List.any_eq_true, Bool.and_eq_true, decide_eq_true_eq]
  exact fun q hq => ⟨q, hq, rfl, Int.le_refl _⟩
/-- a table from the terms so far -/
theorem ptOf_snoc {S : Sm} {q : Int × Tab} (h : q.2 ∉ S.map (·.2)) : tput (ptOf S) q.2 q.1 = ptOf (S ++ [q]) := by
  unfold tput
  rw [ptOf_keys, if_neg h]
  simp [ptOf]
end HH
namespace HH
open PySem PySem.Spec PyProof.Rows L2 PySem.SeqAt
/-! ### error classes with one field, set by their own __init__ -/
/-- what the text has written of such a class at C; its __init__ at fI; the field n -/
structure ErrC (K : PySem.W.Frag) (mg : Str → Option Value) (x n : Str) (C fI : Addr) : Prop where
  ox : OexC K C
  gC : mg x = some (.ref C)
  iC : PySem.W.findIn K (.ref C) "__init__" = some (some (.ref fI))
  tI : PySem.W.typeIn K (.ref fI) = some (.type "function")
  no : PySem.W.findIn K (.ref C) n = some none
  xf : XfC K C
  at_ : PySem.W.findIn K (.ref C) "__class__" = some (some (.builtin "object.__class__"))
  gt : PySem.W.specialIn K (.builtin "object.__class__") "__get__" = some (some (.builtin "getset_descriptor.__get__"))
  tk : PySem.W.takesIn K (.builtin "object.__class__") = some true
  mr : PySem.W.mroIn K C (.type "object") = some true
/-- isinstance(e, c) in an except suite, e the error that it holds -/
def rIsX (K : PySem.W.Frag) (cls : Value) (d : Option Addr) (a : Addr) : List V → Hp → VK → Prop := fun xs H Q => ∃ (mg : Str → Option Value) (x n : Str) (C fI dd : Addr) (fs : List (Str × V)) (c : V) (cv : Value) (b : Bool),
  ErrC K mg x n C fI ∧ cls = .ref C ∧ d = some dd ∧ H dd = some (.xd fs) ∧ xs = [.ref a, c] ∧ (∀ u, RelV c u → u = cv) ∧ PySem.W.kitOne K (.ref C) cv = some b ∧ Q (.bl b) H
theorem call_isX {X : Cx} {a : Addr} {cls : Value} {d : Option Addr} {oe : Obj} {pn : List (Addr × Obj)} (hz : Zc cls d oe) (hf : ∃ vs, oe.data = .fields vs) : CallR (X.suite a ((a, oe) :: pn)) (.builtin "isinstance") (rIsX X.K cls d a) := by
  intro pins s σ H xs us Q I r h
  obtain ⟨mg, x, n, C, fI, dd, fs, c, cv, b, T, rfl, rfl, ed, rfl, hcv, e, q⟩ := h
  cases r with
  | cons rx rr =>
    cases rr with
    | cons rt rr =>
      cases rr
      cases rx
      have ec := hcv _ rt
      subst ec
      obtain ⟨hget, _⟩ := I.pin (a, oe) (List.mem_append_left _ List.mem_cons_self)
      obtain ⟨vs, hv⟩ := hf
      have hx : ObjOk X.prog X.w H s.heap dd (.xd fs) := I.hok dd _ ed
      obtain ⟨mA, hns, _⟩ := hx
      obtain ⟨od, ho, _⟩ := lookIn_ns hns
      have J : PySem.W.InstAt s.heap a oe C (some od) := ⟨hget, hz.1, by unfold PySem.W.notCls; rw [hv] <;> rfl, by rw [hz.2]; exact ho⟩
      have hcl : (PySem.W.clsIn X.K C).isSome = true := by
        obtain ⟨cd, hc, _⟩ := PySem.W.any_some T.xf.hdC
        rw [hc]; rfl
      exact PySem.W.kia_one (PySem.W.kitx_exc hcl T.xf.ga T.xf.gg T.xf.exC T.at_ T.gt T.tk T.mr) I.kIn J e (fun z => nomatch z) fun tk => ⟨.bl b, H, I.kept (t' := tk) fun _ _ z => z, rfl, q⟩
/-- self.n = v, self being made -/
def spInit (n : Str) (C : Addr) : Sp := fun vs H Q _ => ∃ (a : Addr) (v : V), vs = [.ref a, v] ∧ H a = some (exo a C none) ∧
  ∀ dx : Addr, H dx = none → dx ≠ a → Q .non (upd (upd H dx (exd dx [(n, v)])) a (exo a C (some dx)))
/-- a def of the text that may raise -/
def CalleeX (P : Program) (w : World) (K : PySem.W.Frag) (mg : Str → Option Value) (base : Heap) (k : Nat) (x : Str) (ps : List Str) (sp : Sp) : Prop :=
  ∃ f fd, FnOk P w K mg base (L2.CX P w) k f fd ps sp ∧ mg x = some (.ref f) ∧ PySem.W.keepIn K (.ref f) = true ∧ Binds K fd ps []
/-- an error class, its __init__ held to its promise -/
def ErrAt (P : Program) (w : World) (K : PySem.W.Frag) (mg : Str → Option Value) (base : Heap) (x n : Str) (C : Addr) : Prop :=
  ∃ fI fd, ErrC K mg x n C fI ∧ FnOk P w K mg base CX0 1 fI fd ["self", n] (spInit n C) ∧ Binds K fd ["self", n] []
section
variable {P : Program} {w : World} {K : PySem.W.Frag} {σ : L2.St} {H : Hp} {D : Ends} {te : TE} {n : Str} {C : Addr} {v : V}
/-- C(v): the new error's dict holds v -/
theorem rd_mkO {Q : XK} (h : te σ H fun v H1 => ∀ d, H1 d = none → Q (.ref C) (some d) (upd H1 d (.xd [(n, v)])))
    (mono : ∀ R R' : VK, (∀ v H1, R v H1 → R' v H1) → te σ H R → te σ H R') : tMkO C (spInit n C) [] (tCons te tNil) σ H Q := by
  refine mono _ _ (fun v H1 q => ?_) h
  refine ⟨by simp, fun a na => ⟨a, v, rfl, upd_same, fun dx nd ne => ⟨rfl, dx, [(n, v)], upd_same, by rw [upd_ne ne, upd_same], by rw [upd_ne ne] at nd; exact nd, ?_⟩⟩⟩
  have nd' : H1 dx = none := by rw [upd_ne ne] at nd; exact nd
  rw [show upd (del (upd (upd (upd H1 a (exo a C none)) dx (exd dx [(n, v)])) a (exo a C (some dx))) a) dx (.xd [(n, v)]) = upd H1 dx (.xd [(n, v)]) from ?_]
  · exact q dx nd'
  · funext b
    by_cases h1 : b = dx
    · subst h1; rw [upd_same, upd_same]
    · rw [upd_ne h1, upd_ne h1]
      by_cases h2 : b = a
      · subst h2; rw [del_same, na]
      · rw [del_ne h2, upd_ne h2, upd_ne h1, upd_ne h2]
theorem rd_mkOv {Q : XK} {i : Nat} (e : σ[i]? = some (some v)) (h : ∀ d, H d = none → Q (.ref C) (some d) (upd H d (.xd [(n, v)]))) : tMkO C (spInit n C) [] (tCons (tVar i) tNil) σ H Q :=
  rd_mkO (rd_var e h) (fun R R' m ⟨v, e, r⟩ => ⟨v, e, m _ _ r⟩)
theorem rd_callS {sp : Sp} {E : L2.St → XK} {tr : TA} {Q : VK} (h : tr σ H fun vs H1 => sp vs H1 Q (E σ)) : tCallS sp E tr σ H Q := h
theorem rd_xf {a : Addr} {cls : Value} {d : Option Addr} {f : Str} {Q : VK} (h : te σ H fun x H1 => x = .ref a ∧ cls = .ref C ∧ ∃ (dd : Addr) (fs : List (Str × V)) (v : V), d = some dd ∧ H1 dd = some (.xd fs) ∧ fs.lookup f = some v ∧ Q v H1) : tXf a cls d C f te σ H Q := h
/-- self.n = v in __init__ -/
theorem rd_ost {n : Str} {a C : Addr} {v : V} {H : Hp} (T : OexC K C) (hno : PySem.W.findIn K (.ref C) n = some none) (ea : H a = some (exo a C none))
    (h : ∀ dx, H dx = none → dx ≠ a → D.nx [some (.ref a), some v] (upd (upd H dx (exd dx [(n, v)])) a (exo a C (some dx)))) : tOst K n (tVar 0) (tVar 1) D [some (.ref a), some v] H :=
  ⟨v, rfl, .ref a, rfl, a, C, rfl, T, hno, .inl ⟨ea, h⟩⟩
theorem rd_isX {mg : Str → Option Value} {cls : Value} {d : Option Addr} {a : Addr} {x n : Str} {C fI dd : Addr} {fs : List (Str × V)} {Q : VK} {c : V} {cv : Value} {b : Bool} (T : ErrC K mg x n C fI) (ec : cls = .ref C) (ed : d = some dd) (eh : H dd = some (.xd fs))
    (hc : ∀ u, RelV c u → u = cv) (hk : PySem.W.kitOne K (.ref C) cv = some b) (h : Q (.bl b) H) : rIsX K cls d a [.ref a, c] H Q := ⟨mg, x, n, C, fI, dd, fs, c, cv, b, T, ec, ed, eh, rfl, hc, hk, h⟩
end
end HH
namespace HH
open PySem PySem.Spec PyProof.Rows L2 PySem.SeqAt
/-! ### what a product is worth at numbers -/
def worthP (m : Tab) : Tab → Int
  | [] => 1
  | q :: r => (tget m q.1).getD 0 ^ q.2.toNat * worthP m r
def degP : Tab → Nat
  | [] => 0
  | q :: r => q.2.toNat + degP r
def lackOf (m : Tab) (ps : Tab) : Option Str := (ps.map (·.1)).find? fun z => (tget m z).isNone
/-- the numbers of ps are below 2 ^ b -/
structure WB (m ps : Tab) (b : Nat) : Prop where
  nn : ∀ q ∈ ps, 0 ≤ q.2
  lt : ∀ q ∈ ps, ((tget m q.1).getD 0).natAbs < 2 ^ b
  dg : b * degP ps ≤ 200000
  b1 : 1 ≤ b
theorem worthP_app (m a b : Tab) : worthP m (a ++ b) = worthP m a * worthP m b := by
  induction a with
  | nil => simp [worthP]
  | cons q r ih => simp only [List.cons_append, worthP, ih, Int.mul_assoc]
theorem degP_app (a b : Tab) : degP (a ++ b) = degP a + degP b := by
  induction a with
  | nil => simp [degP]
  | cons q r ih => simp only [List.cons_append, degP, ih]; omega
theorem worthP_step (m ps : Tab) {i : Nat} (h : i < ps.length) : worthP m (ps.take (i + 1)) = worthP m (ps.take i) * (tget m ps[i].1).getD 0 ^ ps[i].2.toNat := by
  rw [← List.take_append_getElem h, worthP_app]
  simp [worthP]
theorem degP_step (ps : Tab) {i : Nat} (h : i < ps.length) : degP (ps.take (i + 1)) = degP (ps.take i) + ps[i].2.toNat := by
  rw [← List.take_append_getElem h, degP_app]
  simp [degP]
theorem degP_take (ps : Tab) (i : Nat) : degP (ps.take i) ≤ degP ps := by
  have := degP_app (ps.take i) (ps.drop i)
  rw [List.take_append_drop] at this
  omega
theorem degP_mem {ps : Tab} {q : Str × Int} (h : q ∈ ps) : q.2.toNat ≤ degP ps := by
  induction ps with
  | nil => cases h
  | cons x r ih =>
    rcases List.mem_cons.mp h with e | e
    · rw [e]; exact Nat.le_add_right _ _
    · have := ih e; simp only [degP]; omega
theorem pow_bb {n : Int} {b : Nat} (h : n.natAbs < 2 ^ b) (k : Nat) : (n ^ k).natAbs ≤ 2 ^ (b * k) := by
  rw [Int.natAbs_pow, Nat.pow_mul]
  exact Nat.pow_le_pow_left (Nat.le_of_lt h) k
theorem worthP_le {m ps : Tab} {b : Nat} (h : ∀ q ∈ ps, ((tget m q.1).getD 0).natAbs < 2 ^ b) : (worthP m ps).natAbs ≤ 2 ^ (b * degP ps) := by
  induction ps with
  | nil => simp [worthP, degP]
  | cons q r ih =>
    simp only [worthP, degP, Int.natAbs_mul, Nat.mul_add, Nat.pow_add]
    exact Nat.mul_le_mul (pow_bb (h q (List.mem_cons_self ..)) _) (ih fun x hx => h x (List.mem_cons_of_mem _ hx))
theorem lt_pow1 {n : Int} {k : Nat} (h : n.natAbs ≤ 2 ^ k) : n.natAbs < 2 ^ (k + 1) := Nat.lt_of_le_of_lt h (Nat.pow_lt_pow_right (by decide) (Nat.lt_succ_self _))
theorem lackOf_some {m ps : Tab} {i : Nat} (h : i < ps.length) (h0 : lackOf m (ps.take i) = none) (e : tget m ps[i].1 = none) : lackOf m ps = some ps[i].1 := by
  have e1 : ps.map (·.1) = (ps.take i).map (·.1) ++ (ps[i].1 :: (ps.drop (i + 1)).map (·.1)) := by
    have e0 : ps = ps.take i ++ ps[i] :: ps.drop (i + 1) := by rw [← List.drop_eq_getElem_cons h, List.take_append_drop]
    have e2 := congrArg (List.map (fun q : Str × Int => q.1)) e0
    rwa [List.map_append, List.map_cons] at e2
  unfold lackOf at h0 ⊢
  rw [e1, List.find?_append, h0]
  simp [e]
theorem lackOf_step {m ps : Tab} {i : Nat} (h : i < ps.length) (h0 : lackOf m (ps.take i) = none) {n : Int} (e : tget m ps[i].1 = some n) : lackOf m (ps.take (i + 1)) = none := by
  unfold lackOf at h0 ⊢
  rw [← List.take_append_getElem h, List.map_append, List.find?_append, h0]
  simp [e]
theorem lackOf_has {m ps : Tab} (h : lackOf m ps = none) {q : Str × Int} (hq : q ∈ ps) : ∃ n, tget m q.1 = some n := by
  have := List.find?_eq_none.mp h q.1 (List.mem_map_of_mem hq)
  exact Option.isSome_iff_exists.mp (by rw [Option.isSome_iff_ne_none]; simpa using this)
def worthS (m : Tab) : Sm → Int
  | [] => 0
  | q :: r => q.1 * worthP m q.2 + worthS m r
def lackS (m : Tab) : Sm → Option Str
  | [] => none
  | q :: r => (lackOf m q.2).or (lackS m r)
theorem worthS_app (m : Tab) (a b : Sm) : worthS m (a ++ b) = worthS m a + worthS m b := by
  induction a with
  | nil => simp [worthS]
  | cons q r ih => simp only [List.cons_append, worthS, ih]; omega
theorem worthS_step (m : Tab) (S : Sm) {i : Nat} (h : i < S.length) : worthS m (S.take (i + 1)) = worthS m (S.take i) + S[i].1 * worthP m S[i].2 := by
  rw [← List.take_append_getElem h, worthS_app]
  simp [worthS]
theorem worthS_sum (m : Tab) (S : Sm) : (S.map fun q => q.1 * worthP m q.2).sum = worthS m S := by
  induction S with
  | nil => rfl
  | cons q r ih => simp only [List.map_cons, List.sum_cons, worthS, ih]
theorem lackS_app (m : Tab) (a b : Sm) : lackS m (a ++ b) = (lackS m a).or (lackS m b) := by
  induction a with
  | nil => simp [lackS]
  | cons q r ih => simp only [List.cons_append, lackS, ih, Option.or_assoc]
theorem lackS_step (m : Tab) (S : Sm) {i : Nat} (h : i < S.length) : lackS m (S.take (i + 1)) = (lackS m (S.take i)).or (lackOf m S[i].2) := by
  rw [← List.take_append_getElem h, lackS_app]
  simp [lackS]
theorem lackS_some {m : Tab} {S : Sm} {i : Nat} {z : Str} (h : i < S.length) (h0 : lackS m (S.take i) = none) (e : lackOf m S[i].2 = some z) : lackS m S = some z := by
  conv => lhs; rw [← List.take_append_drop (i + 1) S]
  rw [lackS_app, lackS_step m S h, h0, e]
  rfl
section
variable {P : Program} {w : World} {K : PySem.W.Frag} {H : Hp} {Q : VK}
theorem dgetO {a : Addr} {m : Tab} {z : Str} (ha : H a = some (.dK (tabV m))) : DGet H a (.str z) ((tget m z).map V.int) := by
  have := DGet.k (k := Sum.inr z) ha
  rw [valV_tab] at this
  exact this
theorem rd_inD {z : Str} {d : Addr} {m : Tab} (hd : H d = some (.dK (tabV m))) (h : Q (.bl (tget m z).isSome) H) : rInU P w K false (.str z) (.ref d) H Q :=
  .inr ⟨d, _, rfl, dgetO hd, by simpa using h⟩
theorem rd_ninD {z : Str} {d : Addr} {m : Tab} (hd : H d = some (.dK (tabV m))) (h : Q (.bl (!(tget m z).isSome)) H) : rInU P w K true (.str z) (.ref d) H Q :=
  .inr ⟨d, _, rfl, dgetO hd, by simpa using h⟩
/-- a product's pairs -/
theorem pair_at {q : Str × Int} {v : V} (h : IsK K H (.tup [.text q.1, .num q.2]) v) : ∃ a, v = .ref a ∧ SqT K H a [.str q.1, .int q.2] := by
  obtain ⟨a, vs, rfl, s, ⟨x, r, rfl, hx, y, r2, rfl, hy, hr⟩⟩ := h
  obtain rfl : x = .str q.1 := hx
  obtain rfl : y = .int q.2 := hy
  obtain rfl : r2 = [] := hr
  exact ⟨a, rfl, s⟩
theorem prod_at {ps : Tab} {v : V} (h : IsK K H (prodK ps) v) : ∃ a vs, v = .ref a ∧ SqT K H a vs ∧ IsKs K H (ps.map fun q => .tup [.text q.1, .num q.2]) vs ∧ vs.length = ps.length := by
  obtain ⟨a, vs, rfl, s, k⟩ := h
  exact ⟨a, vs, rfl, s, k, by rw [IsKs.length k, List.length_map]⟩
theorem pair_get {ps : Tab} {vs : List V} {i : Nat} {x : V} (k : IsKs K H (ps.map fun q => .tup [.text q.1, .num q.2]) vs) (hi : i < ps.length) (hx : vs[i]? = some x) : ∃ a, x = .ref a ∧ SqT K H a [.str ps[i].1, .int ps[i].2] := by
  obtain ⟨x', ex, kx⟩ := IsKs.get (i := i) (k := .tup [.text ps[i].1, .num ps[i].2]) k (by rw [List.getElem?_map, List.getElem?_eq_getElem hi]; rfl)
  obtain rfl : x = x' := Option.some.inj (hx.symm.trans ex)
  exact pair_at kx
end
end HH
namespace HH
open PySem PySem.Spec PyProof.Rows L2 PySem.SeqAt
/-! ### a list comprehension whose element may raise -/
section
variable {X : Cx} {W : WX}
/-- an error leaves the block whose names stand at C: it is noted, the names are let go, it goes on in the def's own frame -/
theorem leaves_block {C : Addr} {ce : Env} {u : Value} {s' : Shared} {m0 : Str → Option Value} (hs : X.stack = X.env :: X.outer) (hf : X.env.frame = some X.env.locals) (hA : X.A.frames = some X.stack) (hpn : X.pn = []) (tk : Takes X W)
    (hce : ce.frame = X.env.frame) (hcl : ce.locals = C) (c1 : C ≠ X.env.locals) (c2 : C ∉ frs X.stack) (c3 : C ∈ X.ex ∨ X.s_0.heap.objs.size ≤ C) (c4 : ∀ x c, X.env.cells.lookup x = some c → c ≠ C)
    (hn : s'.heap.Ns C m0) (x : XE X (fun cls d σ H => W cls d σ H ∧ H C = none) u s') :
    notedBy (model X.prog X.w) X.A X.env (fun e s2 => CompFails (model X.prog X.w) X.A X.xe ce e s2) u s' := by
  obtain ⟨a, B, sI, pins, σ, H, cls, d, rfl, I, nb, up, sky, na, os, ag, hW, hC⟩ := x
  have hfr : X.A.frames = some (X.env :: X.outer) := by rw [hA, hs]
  have fin : ∀ g1, HandSPX.HeldZ B (X.env :: X.outer) a (Zc cls d) X.env.locals g1 → s'.heap.UpToSlots g1 → CompFails (model X.prog X.w) X.A X.xe ce (.ref a) { s' with heap := g1 } := fun g1 hh up1 => by
    refine ⟨m0, by rw [hcl]; exact up1.ns hn, fun g2 m2 hn2 sb => ?_⟩
    rw [hcl] at sb hn2
    obtain ⟨B2, b1, b2⟩ := restrict B fun b => decide (b ≠ C)
    have bk : ∀ b o, B2.get? b = some o → b ≠ C ∧ B.get? b = some o := fun b o e => by
      by_cases hb : b = C
      · rw [b2 b (by simp [hb])] at e; cases e
      · exact ⟨hb, (b1 b (by simp [hb])).symm.trans e⟩
    have sb2 : ∀ b, b ≠ C → g2.get? b = g1.get? b := sb.2
    obtain ⟨st, hen, hl, oe, vs, T, oT, ts, he, hz, hd, hv1, hnT, hTe, hT, hdT, h3⟩ := hh
    have hnC : g1.Ns C m0 := up1.ns hn
    obtain ⟨oC, es, ep, eC, dC, _⟩ := id hnC
    have aC : a ≠ C := fun z => by
      rw [z] at he
      have : oC = oe := Option.some.inj (eC.symm.trans he)
      rw [this, hd] at dC; cases dC
    have tC : T ≠ C := fun z => by
      rw [z] at hT
      have : oC = oT := Option.some.inj (eC.symm.trans hT)
      rw [this, hdT] at dC; cases dC
    have gone : ∀ b, B.get? b = none → B2.get? b = none := fun b e => by
      cases q : B2.get? b with
      | none => rfl
      | some o => rw [(bk b o q).2] at e; cases e
    have held : HandSPX.HeldZ B2 (X.env :: X.outer) a (Zc cls d) X.env.locals g2 :=
      ⟨fun b o e => (sb2 b (bk b o e).1).trans (st b o (bk b o e).2), gone a hen, Heap.FunFrames.sameBut sb hn2 (funFrames_none hl fun L hL => gone L (hl.mem hL).1),
        oe, vs, T, oT, ts, (sb2 a aC).trans he, hz, hd, hv1, gone T hnT, hTe, (sb2 T tC).trans hT, hdT, h3⟩
    unfold PySem.passOn
    refine wpAny_bind (wpAny_field ((sb2 a aC).trans he) hd hv1 ?_)
    rw [if_neg (show ¬ ((Value.ref T == Value.none) = true) from by simp), hce, hf]
    have done : ∀ g3, HandSPX.HeldZ B2 (X.env :: X.outer) a (Zc cls d) X.env.locals g3 → g2.UpToSlots g3 → X.xe (.ref a) { s' with heap := g3 } := fun g3 held3 up3 => by
      obtain ⟨G, q1, q2⟩ := restrict sI.heap fun b => decide (b ≠ C)
      have qk : ∀ b o, G.get? b = some o → b ≠ C ∧ sI.heap.get? b = some o := fun b o e => by
        by_cases hb : b = C
        · rw [q2 b (by simp [hb])] at e; cases e
        · exact ⟨hb, (q1 b (by simp [hb])).symm.trans e⟩
      have I2 : Inv X [] σ H { sI with heap := G, toks := sI.toks } :=
        (Inv.unpinned (pins := []) (pl := pins) I).turned (it := C) (fun b o hb e => (q1 b (by simp [hb])).trans e) hC c1 c3 c4 (fun p hp => by rw [hpn] at hp; cases hp)
      have up2 : G.UpToSlots g3 := Heap.UpToSlots.trans (fun b o e hnf => by
        obtain ⟨hb, e1⟩ := qk b o e
        obtain ⟨sl, e2⟩ := (up.trans up1) b o e1 hnf
        exact ⟨sl, (sb2 b hb).trans e2⟩) up3
      refine tk (.ref a) _ ⟨a, B2, _, [], σ, H, cls, d, rfl, I2, fun b o e hb => ?_, up2, by rw [hs]; exact .inr (.inr held3), na, os, ag, hW⟩
      obtain ⟨hbC, e1⟩ := qk b o e
      exact (b1 b (by simp [hbC])).trans (nb b o e1 hb)
    first
      | exact wpAny_bind (wpAny_pure (wpAny_bind (HandSPX.setFlight_onZ held fun g3 h3' u3 => wpAny_throw (done g3 h3' u3))))
      | exact wpAny_bind (HandSPX.setFlight_onZ held fun g3 h3' u3 => wpAny_throw (done g3 h3' u3))
  show wpAny (model X.prog X.w) X.A (noteFrame (.ref a) X.env) (fun _ s2 => CompFails (model X.prog X.w) X.A X.xe ce (.ref a) s2) _ s'
  rw [hs] at sky
  rcases sky with ⟨hB, hne, hl, oe, vs, he, hz, hd, h1⟩ | fl | hh
  · exact HandSPX.look_newZ Zc.steady hfr hl hf he hB hne hd h1 hz fin
  · exact HandSPX.looks_onZ Zc.steady hfr hf fl fin
  · exact HandSPX.againZ hf hh.2.2.2 (fin s'.heap hh (Heap.UpToSlots.refl _))

/-- the block's context, its errors taken by r -/
abbrev blkX (X : Cx) (s : Shared) (H : Hp) (scope : Scope) (ce : Env) (fp : List Addr) (r : Value → Shared → Prop) : Cx := (X.blk s H scope ce fp).tr [] r
theorem toBlkX {s s' : Shared} {H H' : Hp} {scope : Scope} {ce : Env} {fp : List Addr} {r : Value → Shared → Prop} {σ : L2.St} (I : Inv (X.blk s H scope ce fp) [] σ H' s') : Inv (blkX X s H scope ce fp r) [] σ H' s' := I.toTry r
/-- what a call in the block may let out -/
theorem block_passes {E : XK} {pins : List (Addr × Obj)} {σ : L2.St} {H3 : Hp} {s3 : Shared} {scope : Scope} {ce : Env} {fp : List Addr} (hs : X.stack = X.env :: X.outer) (hf : X.env.frame = some X.env.locals) (hpn : X.pn = [])
    (tk : Takes X (fun cls d _ H => E cls d H)) (hce : ce.frame = X.env.frame) (hcl : ce.locals = s3.heap.objs.size) (I3 : Inv X pins σ H3 s3) (f3 : ∀ b ∈ fp, FpOk X pins H3 b) :
    Passes (L2.CX X.prog X.w) (blkX X s3 H3 scope ce fp (notedBy (model X.prog X.w) X.A X.env fun e s2 => CompFails (model X.prog X.w) X.A X.xe ce e s2)) E := by
  intro pins' σ' H' s5 u s' I5 c
  have I7 : Inv X pins σ H' s5 := I3.call' (ch := fp) I5.os I5.base I5.hok I5.bare fun b hb => ⟨(f3 b hb).2.2.2.1, (f3 b hb).2.1, (f3 b hb).2.2.2.2.1, (f3 b hb).2.2.2.2.2⟩
  have nC : H' s3.heap.objs.size = none := by
    have z : H' ce.locals = none := I5.free
    rwa [hcl] at z
  obtain ⟨m, hn, _⟩ := I5.loc
  have hn : s5.heap.Ns s3.heap.objs.size m := by
    have z : s5.heap.Ns ce.locals m := hn
    rwa [hcl] at z
  have fC := I3.fpOk (Nat.le_refl _) nC
  have fs : s3.heap.objs.size ∉ frs X.stack := fun hm => by
    rw [hs] at hm
    have e0 : frs (X.env :: X.outer) = X.env.locals :: X.fs := by
      show (X.env :: X.outer).filterMap (·.frame) = _
      rw [List.filterMap_cons, hf]
      rfl
    rw [e0] at hm
    rcases List.mem_cons.mp hm with z | z
    · exact fC.2.1 z
    · exact fC.2.2.1 z
  obtain ⟨a, B, H2, cls, d, rfl, fl, hok, ub, na, os, ag, hE⟩ := c
  obtain ⟨oC, es, ep, eC, rC⟩ := id hn
  have bC : B.get? s3.heap.objs.size = some oC := ub.keep _ _ eC nC fs
  have hn' : s'.heap.Ns s3.heap.objs.size m := ⟨oC, es, ep, fl.1 _ _ bC, rC⟩
  have x : XE X (fun cls d σ H => (fun cls d _ H => E cls d H : WX) cls d σ H ∧ H s3.heap.objs.size = none) (.ref a) s' :=
    XE.of_call (E := fun cls d H => E cls d H ∧ H s3.heap.objs.size = none) I7 (fun _ _ _ h => h) ⟨a, B, H2, cls, d, rfl, fl, hok, ub, na, os, ag, hE, ub.free _ _ eC nC⟩
  exact leaves_block hs hf I7.ok.frames hpn tk hce hcl fC.2.1 fs fC.2.2.2.1 fC.2.2.2.2.1 hn' x
/-- [elt for tg in iter if ..], elt may let out what E takes -/
theorem pe_lcx {E : XK} {elt tg iter : Expr} {ifs : List Expr} {scope : Scope} {own : List (Str × Nat)} {pos : Pos} {wi : TI} {g : TG} {tt : TT} {te : TE} (hs : X.stack = X.env :: X.outer) (hf : X.env.frame = some X.env.locals) (hpn : X.pn = [])
    (tk : Takes X (fun cls d _ H => E cls d H)) (hc : X.calm = true) (hN : X.N.Nodup) (hi : PI X tg iter wi) (ok : BlkOk X.N X.env.scope scope own)
    (hg : ∀ s H C cl fp r, PG (blkX X s H scope (compEnvC scope cl C X.env) fp r) tg g) (ht : ∀ s H C cl fp r, PTs (blkX X s H scope (compEnvC scope cl C X.env) fp r) ifs tt)
    (he : ∀ s H C cl fp r, Passes (L2.CX X.prog X.w) (blkX X s H scope (compEnvC scope cl C X.env) fp r) E → PE (blkX X s H scope (compEnvC scope cl C X.env) fp r) elt te) (hsf : ∀ x, foldedSetIterable iter X.env x = pure x := by intro _; rfl) :
    PE X (.ListComp elt [⟨tg, iter, ifs, 0⟩] scope pos) (tLc wi g tt te (own.map (·.2))) := by
  refine ⟨fun pins s σ H Q I h => ?_⟩
  rw [eval_ListComp]
  have cells : ∀ y ∈ scope.names, y.2 = .free → ∃ c, X.env.cells.lookup y.1 = some c := fun y hy e => (ok.free y hy e).elim (fun k => I.ok.has _ (.inl k)) fun k => I.ok.has _ (.inr k)
  refine comprehension_at rfl hsf (closure_ok cells) ok.kind (fun y hy e => (ok.uniq y hy).trans (congrArg some e)) (thn (hi.run pins s σ H _ I h) fun v0 sa ha => thn ha fun v1 sb hb => ?_)
  obtain ⟨it, fp, tn, J, Hb, rfl, Ib, T, tb, fb, q⟩ := hb
  refine wpAny_newObj_type (newEnv_comp ?_) (by show 0 ≤ sizeLine; decide)
  have Dn : Hb sb.heap.objs.size = none := Ib.hok.fresh (Nat.le_refl _)
  obtain ⟨Wm, ⟨m0, w0⟩, turn⟩ := q _ Dn
  have old : ∀ b ∈ fp, b < sb.heap.objs.size := fun b hb => let ⟨_, e, _⟩ := T.obj _ _ tb b hb; Heap.lt_size e
  generalize hsc : ({ sb with heap := sb.heap.push { cls := .type "list", data := .seq ([] : List Value).toArray } } : Shared) = sc
  obtain ⟨Hc, hHc⟩ : ∃ Hc : Hp, Hc = upd Hb sb.heap.objs.size (.lst []) := ⟨_, rfl⟩
  have Ic : Inv X pins σ Hc sc := by
    rw [← hsc, hHc]
    exact Ib.laid (t' := sb.toks) (fun b o e => Heap.get?_push_of_some _ e) (Nat.le_refl _) ⟨Nat.zero_le _, [], 0, .nil, Heap.get?_push_size _ rfl⟩
  have szc : sc.heap.objs.size = sb.heap.objs.size + 1 := by rw [← hsc]; exact Heap.size_push ..
  have fc : ∀ b ∈ fp, FpOk X pins Hc b ∧ b < sc.heap.objs.size := fun b hb => by
    have lt := old b hb
    exact ⟨⟨by rw [hHc, upd_ne (Nat.ne_of_lt lt)]; exact (fb b hb).1, (fb b hb).2⟩, by rw [szc]; exact Nat.lt_succ_of_lt lt⟩
  have tc : tn 0 sc.heap := T.keep _ _ _ tb fun b _ o e => by rw [← hsc]; exact Heap.get?_push_of_some _ e
  have bs := block_start Ic ok hN fc
  show codeAny _ _ (.compStart (.ListComp elt [⟨tg, iter, ifs, 0⟩] scope pos) 0 (.ref it) (.ref sb.heap.objs.size)
    (compEnvC scope (cellsFrom (sc.heap.objs.size + 1) scope.names (cloFrom X.env.cells scope.names [])) sc.heap.objs.size X.env)) (compEnds (model X.prog X.w) X.A X.xe none (EP X pins σ Q) (.ref sb.heap.objs.size)
    (compEnvC scope (cellsFrom (sc.heap.objs.size + 1) scope.names (cloFrom X.env.cells scope.names [])) sc.heap.objs.size X.env)) _
  generalize hce : compEnvC scope (cellsFrom (sc.heap.objs.size + 1) scope.names (cloFrom X.env.cells scope.names [])) sc.heap.objs.size X.env = ce at bs ⊢
  have ceL : ce.locals = sc.heap.objs.size := by rw [← hce]; rfl
  have ceF : ce.frame = X.env.frame := by rw [← hce]; rfl
  have hps := block_passes (scope := scope) hs hf hpn tk ceF ceL Ic fun b hb => (fc b hb).1
  have pg := hg sc Hc sc.heap.objs.size (cellsFrom (sc.heap.objs.size + 1) scope.names (cloFrom X.env.cells scope.names [])) fp (notedBy (model X.prog X.w) X.A X.env fun e s2 => CompFails (model X.prog X.w) X.A X.xe ce e s2)
  have pt := ht sc Hc sc.heap.objs.size (cellsFrom (sc.heap.objs.size + 1) scope.names (cloFrom X.env.cells scope.names [])) fp (notedBy (model X.prog X.w) X.A X.env fun e s2 => CompFails (model X.prog X.w) X.A X.xe ce e s2)
  have pe := he sc Hc sc.heap.objs.size (cellsFrom (sc.heap.objs.size + 1) scope.names (cloFrom X.env.cells scope.names [])) fp (notedBy (model X.prog X.w) X.A X.env fun e s2 => CompFails (model X.prog X.w) X.A X.xe ce e s2)
  rw [hce] at pg pt pe
  have pe := pe hps
  generalize hxr : (notedBy (model X.prog X.w) X.A X.env fun e s2 => CompFails (model X.prog X.w) X.A X.xe ce e s2) = r at pg pt pe hps
  have bs := toBlkX (r := r) bs
  generalize hsd : ({ sc with heap := pushCells (sc.heap.push { cls := .type "dict", data := .dict #[] }) scope.names } : Shared) = sd at bs ⊢
  have td : tn 0 sd.heap := T.keep _ _ _ tc fun b _ o e => by rw [← hsd]; exact pushCells_keeps _ _ _ _ (Heap.get?_push_of_some _ e)
  have nfp : ∀ b ∈ fp, Hc b = none := fun b hb => (fc b hb).1.1
  rw [← hHc] at w0
  have same : notedBy (model X.prog X.w) X.A ce (fun e s' => compEnds (model X.prog X.w) X.A X.xe none (EP X pins σ Q) (.ref sb.heap.objs.size) ce (.error e) s') = r := by
    rw [← hxr]
    funext e s'
    show wpAny _ _ (noteFrame e ce) _ _ _ = wpAny _ _ (noteFrame e X.env) _ _ _
    have nf : noteFrame e ce = noteFrame e X.env := by
      unfold noteFrame PySem.frameOf
      rw [ceF]
    rw [nf]
    rfl
  have fpo : ∀ {σ' : L2.St} {H' : Hp} {s' : Shared}, Inv (blkX X sc Hc scope ce fp r) [] σ' H' s' → (∀ b ∈ fp, H' b = none) → ∀ b ∈ fp, FpOk (blkX X sc Hc scope ce fp r) [] H' b := fun {σ' H' s'} J' hz b hb =>
    ⟨hz b hb, (J'.ok.exf b hb).1, J'.ok.exfs b hb, .inl hb, fun x c e => (J'.ok.exf b hb).2 x c e, fun p hp => absurd (show p ∈ ([] : List (Addr × Obj)) ++ [] from hp) (by simp)⟩
  have body : codeAny (model X.prog X.w) X.A (.compLoop (.ListComp elt [⟨tg, iter, ifs, 0⟩] scope pos) 0 (.ref it) (.ref sb.heap.objs.size) ce) (compEnds (model X.prog X.w) X.A X.xe none (EP X pins σ Q) (.ref sb.heap.objs.size) ce) sd := by
    refine compLoop_any (fun n s' => ∃ i H', Inv (blkX X sc Hc scope ce fp r) [] (wipe σ (own.map (·.2))) H' s' ∧ tn i s'.heap ∧ (∀ b ∈ fp, H' b = none) ∧ Wm i n H') ?_ m0 ⟨0, Hc, bs, td, nfp, w0⟩
    rw [same]
    rintro n sx ⟨i, Hx, Ix, tx, nx, wx⟩
    rcases turn i n Hx wx with ⟨stop, fin⟩ | ⟨go, Nx, hNx, step⟩
    · refine thnF (T.done (blkX X sc Hc scope ce fp r) rfl rfl rfl hc i [] sx _ Hx (fun _ _ => False) Ix (fpo Ix nx) tx stop) fun z sy ⟨hz, Iy⟩ => ?_
      subst hz
      have Iz : Inv X pins σ Hx sy := Ic.call' (ch := fp) Iy.os Iy.base Iy.hok Iy.bare fun b hb => ⟨(fc b hb).1.2.2.2.1, (fc b hb).1.2.1, (fc b hb).1.2.2.2.2.1, (fc b hb).1.2.2.2.2.2⟩
      have nC : Hx sc.heap.objs.size = none := by
        have z : Hx ce.locals = none := Iy.free
        rwa [ceL] at z
      obtain ⟨m, hn, _⟩ := Iy.loc
      refine ⟨m, hn, fun g hsb => ?_⟩
      rw [ceL] at hsb
      obtain ⟨f0, f1, f2, f3, f4, f5⟩ := Ic.fpOk (Nat.le_refl _) nC
      exact ⟨.ref sb.heap.objs.size, Hx, Iz.turned (t' := sy.toks) (fun b o hb e => (hsb.2 b hb).trans e) f0 f1 f3 f4 f5, rfl, fin⟩
    · refine thnF (T.item (blkX X sc Hc scope ce fp r) rfl rfl rfl hc i [] sx _ Hx (fun _ _ => False) Ix (fpo Ix nx) tx go) fun z sy ⟨u, hz, hy⟩ => ?_
      subst hz
      refine thnF hy fun _ sz ⟨x, Hz, Iz, rz, yz, tz, nz⟩ => ?_
      have Ip := Iz.pinned (fpo Iz nz) (T.obj _ _ tz)
      refine thn (pg.run _ sz _ Hz x u _ Ip rz (step x Hz yz)) fun _ s8 ⟨σ8, H8, I8, hw8, q8⟩ => ?_
      refine thn (pt.run _ s8 σ8 H8 _ I8 q8) fun b s9 ⟨H9, I9, q9⟩ => ?_
      have again : ∀ {s' : Shared} {H' : Hp}, Inv (blkX X sc Hc scope ce fp r) ([] ++ pinsAt fp sz.heap) σ8 H' s' → Nx H' → ∃ m, m < n ∧ ∃ i H', Inv (blkX X sc Hc scope ce fp r) [] (wipe σ (own.map (·.2))) H' s' ∧ tn i s'.heap ∧ (∀ b ∈ fp, H' b = none) ∧ Wm i m H' := fun {s' H'} J' nx' => by
        obtain ⟨k, hk, w'⟩ := hNx H' nx'
        have kept : ∀ b ∈ fp, ∀ o, sz.heap.get? b = some o → s'.heap.get? b = some o ∧ H' b = none := fun b hb o e =>
          have p := J'.pin (b, o) (List.mem_append_right _ (List.mem_append_right _ (mem_pinsAt hb e)))
          ⟨p.1, p.2.1⟩
        refine ⟨k, hk, i + 1, H', (J'.unpinned (pins := [])).weak (by rw [← hw8, wipe_length]) (fun j v e => ?_), T.keep _ _ _ tz fun b hb o e => (kept b hb o e).1, fun b hb => ?_, w'⟩
        · rw [← hw8] at e
          exact (wipe_some e).1
        · obtain ⟨o, e, _⟩ := T.obj _ _ tz b hb
          exact (kept b hb o e).2
      cases b with
      | false =>
        simp only [Bool.false_eq_true, if_false] at q9 ⊢
        exact again I9 q9
      | true =>
        simp only [if_true] at q9 ⊢
        refine thn (pe.run _ s9 σ8 H9 _ I9 q9) fun y s10 ⟨yv, H10, I10, r10, acc, hD, hz10, nx'⟩ => ?_
        exact app_ok (X := blkX X sc Hc scope ce fp r) I10 hD hz10 r10 fun s11 I11 => again I11 nx'
  exact codeAny_compStart_list body (T.self X.A 0 _ _ _ td body)
end
end HH
namespace HH
open PySem PySem.Spec PyProof.Rows L2 PySem.SeqAt
def kGt (xs ys : List NestedKey) (j : Nat) : Bool := ltK (ys.getD j .none) (xs.getD j .none)
theorem lexAt_gt : ∀ (xs ys : List NestedKey), Ob.lexAt (kEq xs ys) (kGt xs ys) (decide (ys.length < xs.length)) 0 (min xs.length ys.length) = ltL ys xs
  | [], [] => by simp [Ob.lexAt_zero, ltL]
  | [], y :: ys => by simp [Ob.lexAt_zero, ltL]
  | x :: xs, [] => by simp [Ob.lexAt_zero, ltL]
  | x :: xs, y :: ys => by
    have ih := lexAt_gt xs ys
    have em : min (x :: xs).length (y :: ys).length = min xs.length ys.length + 1 := by simp only [List.length_cons]; omega
    rw [em, Ob.lexAt_succ, ltL]
    have e0 : kEq (x :: xs) (y :: ys) 0 = NestedKey.beq x y := rfl
    have r0 : kGt (x :: xs) (y :: ys) 0 = ltK y x := rfl
    rw [e0, r0]
    by_cases e : x = y
    · subst e
      rw [NestedKey.beq_self, if_pos rfl, if_pos rfl]
      have ez : decide ((x :: ys).length < (x :: xs).length) = decide (ys.length < xs.length) := by simp
      rw [ez, ← ih]
      exact lexAt_shift _ 0 (fun j _ => rfl) (fun j _ => rfl)
    · have hb : NestedKey.beq x y = false := by
        cases h : NestedKey.beq x y with
        | false => rfl
        | true => exact absurd (NestedKey.eq_of_beq x y h) e
      rw [hb, if_neg (by simp), if_neg (Ne.symm e)]
/-- u > v of nested data -/
theorem rc_gt : ∀ (n : Nat) (x y : NestedKey) (A : Around) (s : Shared) (u v : Value), x.depth ≤ n → DIs s.heap x u → DIs s.heap y v → cmK x y = true → A.units + x.depth < cLine → Ob.RcOp .Gt A s u v (ltK y x)
  | n, .none, y, A, s, u, v, hn, hx, hy, hc, hu => nomatch hx
  | n, .num a, y, A, s, u, v, hn, hx, hy, hc, hu => by
    cases hy with
    | int b t => cases hx; exact Ob.RcOp.gt_int _ _ _ _
    | text b t => simp [cmK] at hc
    | tup p r => simp [cmK] at hc
  | n, .text a, y, A, s, u, v, hn, hx, hy, hc, hu => by
    cases hy with
    | int b t => simp [cmK] at hc
    | text b t => cases hx; exact fun _ _ _ _ h => PySem.P.gt_str h
    | tup p r => simp [cmK] at hc
  | 0, .tup xs, y, A, s, u, v, hn, hx, hy, hc, hu => by simp [NestedKey.depth] at hn
  | n + 1, .tup xs, y, A, s, u, v, hn, hx, hy, hc, hu => by
    cases hy with
    | int b t => simp [cmK] at hc
    | text b t => simp [cmK] at hc
    | @tup b vs' ys p' r' =>
      cases hx with
      | @tup a vs xs p r =>
        simp only [NestedKey.depth] at hn hu
        simp only [cmK] at hc
        have l1 : vs.size = xs.length := by simpa using r.length
        have l2 : vs'.size = ys.length := by simpa using r'.length
        have hu1 : A.in1.units = A.units + 1 := rfl
        have key := Ob.RcOp.tuples_gt (e := kEq xs ys) (r := kGt xs ys) p p' (A := A) (s := s) (by omega) (fun j h1 h2 => ?_) (fun j h1 h2 _ => ?_)
        · rw [l1, l2, lexAt_gt] at key
          simpa only [ltK] using key
        · have q1 := r.get j (by simpa using h1) (by omega)
          have q2 := r'.get j (by simpa using h2) (by omega)
          have m1 := depth_mem (List.getElem_mem (h := show j < xs.length by omega))
          have := eqAt_key xs[j] ys[j] A.in1 s _ _ (q1.nested _ _) (q2.nested _ _) (by omega)
          simp only [kEq, List.getD_eq_getElem?_getD, List.getElem?_eq_getElem (show j < xs.length by omega), List.getElem?_eq_getElem (show j < ys.length by omega), Option.getD_some]
          simpa using this
        · have q1 := r.get j (by simpa using h1) (by omega)
          have q2 := r'.get j (by simpa using h2) (by omega)
          have m1 := depth_mem (List.getElem_mem (h := show j < xs.length by omega))
          have := rc_gt n xs[j] ys[j] A.in1 s _ _ (by omega) q1 q2 (cmL_get hc j _ _) (by omega)
          simp only [kGt, List.getD_eq_getElem?_getD, List.getElem?_eq_getElem (show j < xs.length by omega), List.getElem?_eq_getElem (show j < ys.length by omega), Option.getD_some]
          simpa using this
section
variable {X : Cx}
def rGtK (K : PySem.W.Frag) : R2 := fun x y H Q => ∃ k l, IsK K H k x ∧ IsK K H l y ∧ cmK k l = true ∧ k.depth ≤ 30 ∧ Q (.bl (ltK l k)) H
theorem op_gtK {K : PySem.W.Frag} (hu : X.A.units + 40 < cLine) (hX : X.K = K := by rfl) : OpR X (compareOp .Gt) (rGtK K) := by
  subst hX
  intro pins s σ H x y v u Q I rx ry q
  obtain ⟨k, l, ik, il, cm, dep, q⟩ := q
  have d1 := IsK.dis I _ _ _ ik rx
  have d2 := IsK.dis I _ _ _ il ry
  exact rc_gt _ k l X.A s v u (Nat.le_refl _) d1 d2 cm (by omega) X.prog X.w _ _ ⟨.bl (ltK l k), H, I, rfl, q⟩
end
/-! ### the names of a product that have no number -/
def lacks (m ps : Tab) : List Str := (ps.map (·.1)).filter fun z => (tget m z).isNone
theorem lackOf_head (m ps : Tab) : lackOf m ps = (lacks m ps).head? := by
  unfold lackOf lacks
  rw [List.head?_filter]
theorem lacks_step (m ps : Tab) {i : Nat} (h : i < ps.length) : lacks m (ps.take (i + 1)) = lacks m (ps.take i) ++ if (tget m ps[i].1).isNone = true then [ps[i].1] else [] := by
  unfold lacks
  rw [← List.take_append_getElem h, List.map_append, List.filter_append]
  cases e : tget m ps[i].1 <;> simp [e]
/-- m2 has the numbers of m, some left out -/
def SubT (m2 m : Tab) : Prop := ∀ z n, tget m2 z = some n → tget m z = some n
theorem SubT.worth {m2 m ps : Tab} (s : SubT m2 m) (h : lackOf m2 ps = none) : worthP m2 ps = worthP m ps := by
  induction ps with
  | nil => rfl
  | cons q r ih =>
    have h1 : tget m2 q.1 ≠ none ∧ lackOf m2 r = none := by
      unfold lackOf at h ⊢
      rw [List.map_cons, List.find?_cons] at h
      cases e : tget m2 q.1 with
      | none => rw [e] at h; simp at h
      | some n => rw [e] at h; exact ⟨by simp, by simpa using h⟩
    obtain ⟨n, e⟩ := Option.ne_none_iff_exists'.mp h1.1
    simp only [worthP, e, s _ _ e, ih h1.2]
theorem SubT.worthS {m2 m : Tab} {S : Sm} (s : SubT m2 m) (h : lackS m2 S = none) : HH.worthS m2 S = HH.worthS m S := by
  induction S with
  | nil => rfl
  | cons q r ih =>
    simp only [lackS, Option.or_eq_none_iff] at h
    simp only [HH.worthS, s.worth h.1, ih h.2]
theorem lackOf_all {m ps : Tab} (h : ∀ q ∈ ps, (tget m q.1).isSome = true) : lackOf m ps = none := by
  unfold lackOf
  rw [List.find?_eq_none]
  intro z hz
  obtain ⟨q, hq, rfl⟩ := List.mem_map.mp hz
  have := h q hq
  cases e : tget m q.1 with
  | none => rw [e] at this; cases this
  | some n => simp
theorem lackS_all {m : Tab} {S : Sm} (h : ∀ q ∈ S, ∀ r ∈ q.2, (tget m r.1).isSome = true) : lackS m S = none := by
  induction S with
  | nil => rfl
  | cons q r ih => simp only [lackS, lackOf_all (h q List.mem_cons_self), ih fun x hx => h x (List.mem_cons_of_mem _ hx)]; rfl
theorem tget_drop (m : Tab) (z x : Str) : tget (tdrop m z) x = if x = z then none else tget m x := by
  unfold tget tdrop
  rw [List.find?_filter]
  by_cases h : x = z
  · subst h
    rw [if_pos rfl, List.find?_eq_none.mpr]
    · rfl
    · intro q _ hq
      simp at hq
  · rw [if_neg h]
    congr 1
    apply congrArg (fun p => m.find? p)
    funext q
    by_cases h2 : q.1 = x
    · have : q.1 ≠ z := fun e => h (h2.symm.trans e)
      simp [h2, h]
    · simp [h2]
section
variable {X : Cx} {K : PySem.W.Frag} {H : Hp} {Q : VK}
theorem hu64_of {A : Around} {k : Nat} (hr : Room k A) : A.units + 64 < cLine := by have := hr.un; omega
theorem op_neP {K : PySem.W.Frag} (hu : X.A.units + 64 < cLine) (hX : X.K = K := by rfl) : OpR X (compareOp .NotEq) (rNeD K) := by
  subst hX
  exact op_neD hu
theorem rd_neI {i : Int} (h : Q (.bl false) H) : rNeD K (.int i) (.int i) H Q :=
  ⟨.int i, .int i, .int i, .int i, rfl, rfl, by rw [show PyData.eqv (.int i) (.int i) = true from PySem.SeqAt.eqv_refl _ rfl]; exact h⟩
theorem rd_neT {a b : Addr} {z : Str} (ha : SqT K H a [.str z]) (hb : SqT K H b [.str z]) (hz : PyData.strOk z = true) (h : Q (.bl false) H) : rNeD K (.ref a) (.ref b) H Q := by
  have c : PyData.canLay0 (.tuple [.str z]) = true := by simp [PyData.canLay0, PyData.canLayAll0, hz]
  have s : PySem.SeqAt.shaped (.tuple [.str z]) = true := by
    unfold PySem.SeqAt.shaped
    rw [c]
    simp [PyData.depth, PyData.depthAll]
  exact ⟨_, _, .tup ha (.cons (.str z) .nil), .tup hb (.cons (.str z) .nil), s, s, by rw [PySem.SeqAt.eqv_refl _ c]; exact h⟩
end
end HH
namespace HH
open PySem PySem.Spec PyProof.Rows L2 PySem.SeqAt
/-! ### tuples whose object is known (no dict of its own): what dict(t) asks -/
def ZObj (o : Obj) : Prop := o.cls = .type "tuple" ∧ o.dict = none ∧ o.slots = #[]
def ZT (H : Hp) (a : Addr) (xs : List V) : Prop := ∃ o : Obj, ZObj o ∧ H a = some (.frz o (.tup xs))
theorem ZT.seq {K : PySem.W.Frag} {H : Hp} {a : Addr} {xs : List V} (z : ZT H a xs) : SqT K H a xs := let ⟨o, _, e⟩ := z; .inl (.inr ⟨o, e⟩)
theorem ZT.keep {H H' : Hp} {a : Addr} {xs : List V} (z : ZT H a xs) (s : Same H H') : ZT H' a xs := let ⟨o, c, e⟩ := z; ⟨o, c, s _ _ e⟩
theorem pair_list {R : Addr → Value → L2.Key × Value → Prop} : ∀ (prs : List (L2.Key × Value)) (ps : List Addr), (∀ (j : Nat) (q : L2.Key × Value), prs[j]? = some q → ∃ (b : Addr) (u : Value), ps[j]? = some b ∧ R b u q) →
    ∃ L : List (Value × Value), L.length = prs.length ∧ ∀ (j : Nat) (p : Value × Value), L[j]? = some p → ∃ (q : L2.Key × Value) (b : Addr), prs[j]? = some q ∧ ps[j]? = some b ∧ p.2 = q.2 ∧ R b p.1 q
  | [], _, _ => ⟨[], rfl, fun j p e => by simp at e⟩
  | q :: prs, ps, h => by
    obtain ⟨b, u, e0, r0⟩ := h 0 q rfl
    cases ps with
    | nil => simp at e0
    | cons b' ps =>
      obtain rfl : b' = b := by simpa using e0
      obtain ⟨L, l, g⟩ := pair_list prs ps fun j q' e => h (j + 1) q' e
      refine ⟨(u, q.2) :: L, by simp [l], fun j p e => ?_⟩
      cases j with
      | zero =>
        obtain rfl : (u, q.2) = p := by simpa using e
        exact ⟨q, b', rfl, rfl, rfl, r0⟩
      | succ j => exact g j p e
section
variable {X : Cx} {es : List Expr} {t : TA} {pos : Pos}
def tTupZ (t : TA) : TE := fun σ H Q => t σ H fun xs H1 => xs.length ≤ sizeLine ∧ ∀ (p : Addr) (o : Obj), H1 p = none → ZObj o → Q (.ref p) (upd H1 p (.frz o (.tup xs)))
theorem frz_new {P : Program} {w : World} {H : Hp} {g : Heap} {xs : List V} {us : List Value} (z : xs.length ≤ sizeLine) (r : Vals xs us) :
    ObjOk P w H (g.push { cls := .type "tuple", data := .seq us.toArray }) g.objs.size (.frz { cls := .type "tuple", data := .seq us.toArray } (.tup xs)) :=
  ⟨Heap.get?_push_size _ rfl, z, us, r, ⟨_, Heap.get?_push_size _ rfl, rfl, _, rfl⟩⟩
theorem pe_tupZ {k} (h : PA X es t) : PE X (.Tuple es k pos) (tTupZ t) := by
  refine ⟨fun pins s σ H Q I hq => ?_⟩
  refine wpAny_Tuple_spliced (thn (h.run pos pins s σ H _ I hq) fun us g ⟨xs, Hn, In, r, z, q⟩ => ⟨by rw [← r.length]; exact z, ?_⟩)
  exact ⟨.ref g.heap.objs.size, _, In.laid (t' := g.toks) (fun b u e => Heap.get?_push_of_some _ e) (Nat.le_refl _) (frz_new z r), rfl, q _ _ (In.hok.fresh (Nat.le_refl _)) ⟨rfl, rfl, rfl⟩⟩
def rTupZ (K : PySem.W.Frag) : List V → Hp → VK → Prop := fun xs H Q => ∃ p ys, xs = [.ref p] ∧ SqL K H p ys ∧ ∀ (l : Addr) (o : Obj), H l = none → ZObj o → Q (.ref l) (upd H l (.frz o (.tup ys)))
theorem call_tupZ {K : PySem.W.Frag} (hX : X.K = K := by rfl) : CallR X (.type "tuple") (rTupZ K) := by
  subst hX
  intro pins s σ H xs us Q I r h
  obtain ⟨p, ys, rfl, hq, q⟩ := h
  obtain rfl := Vals.ref1 r
  obtain ⟨its, rv, pl, hz⟩ := I.list hq
  have n1 := rv.length
  refine call_tuple_list pl.isList (fun g kp => ?_) (by rw [List.size_toArray]; omega)
  have In : Inv X pins σ H { s with heap := g } := I.kept (t' := s.toks) kp
  exact ⟨.ref g.objs.size, _, In.laid (t' := s.toks) (fun b u e => Heap.get?_push_of_some _ e) (Nat.le_refl _) (frz_new hz rv), rfl, q _ _ (In.hok.fresh (Nat.le_refl _)) ⟨rfl, rfl, rfl⟩⟩
/-- dict(t), t such a tuple of pairs -/
def rDictZ (K : PySem.W.Frag) : List V → Hp → VK → Prop := fun xs H Q => ∃ (a : Addr) (ps : List Addr) (kvs : List (L2.Key × V)), xs = [.ref a] ∧ ZT H a (ps.map V.ref) ∧ Paired (fun p kv => SqT K H p [kV kv.1, kv.2]) ps kvs ∧
  ∀ p, H p = none → Q (.ref p) (upd H p (.dK (mergeK [] kvs)))
theorem call_dictZ {K : PySem.W.Frag} (hcalm : X.calm = true) (hX : X.K = K := by rfl) : CallR X (.type "dict") (rDictZ K) := by
  subst hX
  intro pins s σ H xs us Q I r q
  obtain ⟨a, ps, kvs, rfl, ⟨o, ⟨oc, od, _⟩, ea⟩, hp, q⟩ := q
  obtain rfl := Vals.ref1 r
  have ho : ObjOk X.prog X.w H s.heap a (.frz o (.tup (ps.map V.ref))) := I.hok a _ ea
  obtain ⟨ga, hz, its, rv, ⟨o2, g2, _, n, dat⟩⟩ := ho
  obtain rfl : o = o2 := Option.some.inj (ga.symm.trans g2)
  obtain rfl := refs_at rv
  rw [List.length_map] at hz
  obtain ⟨prs, rel, hl, hpr⟩ := pairs_of I hp
  obtain ⟨L, lL, gL⟩ := pair_list prs ps hpr
  have n0 : L.length = ps.length := lL.trans hl
  have items : PairItems s.heap (ps.map Value.ref).toArray (fun j => ps.getD j 0) L := by
    refine ⟨by rw [List.size_toArray, List.length_map, n0], fun j k v e => ?_⟩
    obtain ⟨q0, b, _, eb, e2, tp, _⟩ := gL j (k, v) e
    obtain rfl : v = q0.2 := e2
    have ed : ps.getD j 0 = b := by rw [List.getD_eq_getElem?_getD, eb]; rfl
    refine ⟨by simp [eb, ed], .inl ?_⟩
    show s.heap.IsTuple (ps.getD j 0) _
    rw [ed]
    exact tp
  refine PySem.call_dict_pairs (knd := mixKind X.prog X.w) (kvs := prs) (PairArg.tuple a (ps.map Value.ref).toArray (fun j => ps.getD j 0) L) (I.ok.hd hcalm) ⟨⟨o, n, ga, oc, od, dat⟩, items⟩ ⟨by omega, fun j key v e => ?_⟩ (by omega) fun h' tk hd' k => ?_
  · obtain ⟨q0, b, eq, _, e2, _, ki⟩ := gL j (key, v) e
    obtain rfl : v = q0.2 := e2
    exact ⟨q0.1, eq, ki⟩
  · have hm : (s.heap.objs.size == sysModules) = false := beq_eq_false_iff_ne.mpr (Nat.ne_of_gt I.big)
    have hlen : (mergeK [] kvs).length ≤ sizeLine := by
      have := length_mergeK kvs []
      rw [List.length_nil, Nat.zero_add, rel.length, hl] at this
      omega
    exact ⟨.ref s.heap.objs.size, _, I.laid (t' := tk) (fun b u e => k b u (by simp) e) (Nat.le_refl _) (show ObjOk X.prog X.w _ _ _ (.dK (mergeK [] kvs)) from ⟨hlen, hm, merged [] prs, KV.merge rel .nil, hd'⟩), rfl, q _ (I.hok.fresh (Nat.le_refl _))⟩
end
end HH
namespace HH
open PySem PySem.Spec PyProof.Rows L2 PySem.SeqAt
theorem perm_map_inv {α β : Type} {f : α → β} {l l2 : List β} (p : l.Perm l2) : ∀ {L : List α}, l2 = L.map f → ∃ L' : List α, l = L'.map f ∧ L'.Perm L := by
  induction p with
  | nil => intro L e; exact ⟨[], rfl, by rw [List.map_eq_nil_iff.mp e.symm]⟩
  | cons x p ih =>
    intro L e
    cases L with
    | nil => cases e
    | cons a L =>
      rw [List.map_cons, List.cons.injEq] at e
      obtain ⟨rfl, e⟩ := e
      obtain ⟨L', e1, p1⟩ := ih e
      exact ⟨a :: L', by rw [List.map_cons, e1], p1.cons a⟩
  | swap x y l =>
    intro L e
    cases L with
    | nil => cases e
    | cons a L =>
      cases L with
      | nil => cases e
      | cons b L =>
        rw [List.map_cons, List.map_cons, List.cons.injEq, List.cons.injEq] at e
        obtain ⟨rfl, rfl, rfl⟩ := e
        exact ⟨b :: a :: L, rfl, .swap a b L⟩
  | trans p q ih1 ih2 =>
    intro L e
    obtain ⟨L2, e2, p2⟩ := ih2 e
    obtain ⟨L1, e1, p1⟩ := ih1 e2
    exact ⟨L1, e1, p1.trans p2⟩
theorem ent_at {P : Program} {w : World} : ∀ {m : Tab} {vs : List (L2.Key × Value)} {el : List DictEntry}, KV (tabV m) vs → Pairs (mixKind P w) el vs → ∀ (j : Nat) (en : DictEntry), el[j]? = some en →
    ∃ (q : Str × Int) (t u : Tok), m[j]? = some q ∧ en.key = .str q.1 t ∧ en.val = .int q.2 u
  | [], vs, el, k, p, j, en, e => by
    cases k
    cases p
    simp at e
  | q :: m, vs, el, k, p, j, en, e => by
    cases k with
    | cons h k =>
      cases p with
      | cons h1 h2 p =>
        cases j with
        | succ j => exact ent_at k p j en e
        | zero =>
          obtain rfl := Option.some.inj e
          obtain ⟨e1, e2⟩ := h
          rcases keyIs_shape h1 with ⟨i, t, ei, _⟩ | ⟨x, t, ei, ek⟩
          · rw [← e1] at ei; cases ei
          · rw [← e1] at ei
            obtain rfl : q.1 = x := Sum.inr.inj ei
            rw [← h2] at e2
            obtain ⟨u, eu⟩ : ∃ u, _ = Value.int q.2 u := e2
            exact ⟨q, t, u, rfl, ek, eu⟩
theorem dall_of {h : Heap} : ∀ {ks : List NestedKey} {vs : List Value}, ks.length = vs.length → (∀ (j : Nat) (k : NestedKey) (v : Value), ks[j]? = some k → vs[j]? = some v → DIs h k v) → DAll h ks vs
  | [], [], _, _ => .nil
  | [], _ :: _, e, _ => nomatch e
  | _ :: _, [], e, _ => nomatch e
  | k :: ks, v :: vs, e, g => .cons (g 0 k v rfl rfl) (dall_of (by simpa using e) fun j k' v' e1 e2 => g (j + 1) k' v' e1 e2)
theorem isks_pairs {K : PySem.W.Frag} {H : Hp} : ∀ {zs : List (Addr × Str × Int)}, (∀ z ∈ zs, H z.1 = some (.tup [.str z.2.1, .int z.2.2])) → IsKs K H ((zs.map (·.2)).map fun q => .tup [.text q.1, .num q.2]) (zs.map fun z => V.ref z.1)
  | [], _ => rfl
  | z :: zs, g => ⟨_, _, rfl, ⟨z.1, _, rfl, sqt (g z List.mem_cons_self), ⟨_, _, rfl, rfl, _, _, rfl, rfl, rfl⟩⟩, isks_pairs fun y hy => g y (List.mem_cons_of_mem _ hy)⟩
section
variable {X : Cx}
/-- d.items() of a table -/
def rItemsK : V → List V → Hp → VK → Prop := fun x xs H Q => ∃ (a : Addr) (m : Tab), x = .ref a ∧ xs = [] ∧ H a = some (.dK (tabV m)) ∧ ∀ p, H p = none → Q (.ref p) (upd H p (DX.itemsO p a))
theorem mt_itemsK : MtR X "dict.items" rItemsK := by
  intro pins s σ H x xs v us Q I rx rxs h
  obtain ⟨a, m, rfl, rfl, ha, q⟩ := h
  cases rx
  cases rxs
  obtain ⟨_, hd, vs, _, o, es, ep, ho, hx, hdat, _⟩ := dk_of I.hok ha
  refine DT.callItems (es := es) (ep := ep) hd ⟨o, ho, hx, hdat⟩ ?_
  exact ⟨.ref s.heap.objs.size, _, I.laid (t' := s.toks) (fun b u e => Heap.get?_push_of_some _ e) (Nat.le_refl _) (DX.itemsO_ok (Heap.get?_push_size _ rfl)), rfl, q _ (I.hok.fresh (Nat.le_refl _))⟩
abbrev pairK (q : Str × Int) : NestedKey := .tup [.text q.1, .num q.2]
/-- sorted(d.items()) of a table -/
def rSortItK (K : PySem.W.Frag) : List V → Hp → VK → Prop := fun vs H Q => ∃ (p a : Addr) (m : Tab), vs = [.ref p] ∧ H p = some (DX.itemsO p a) ∧ H a = some (.dK (tabV m)) ∧
  ∀ (qs : Tab) (l : Addr) (zs : List V) (H' : Hp), qs.Perm m → (qs.map pairK).Pairwise (fun a b => ltK b a = false) → Same H H' → H l = none → H' l = some (.lst zs) → IsKs K H' (qs.map pairK) zs → Q (.ref l) H'
theorem cr_sortItK {K : PySem.W.Frag} (hc : X.calm = true) (hu : X.A.units + 20 < cLine) (hX : X.K = K := by rfl) : CallR X (.builtin "sorted") (rSortItK K) := by
  subst hX
  intro pins s σ H xs us Q I r h
  obtain ⟨p, a, m, rfl, hp, ha, q⟩ := h
  obtain rfl := Vals.ref1 r
  have view : s.heap.IsItemsView p a := (show ObjOk X.prog X.w H s.heap p (DX.itemsO p a) from I.hok p _ hp).1
  obtain ⟨z, hd, vs, rel, o, es, ep, ho, hx, hdat, hk, hpair, nd⟩ := dk_of I.hok ha
  have n1 : vs.length = m.length := by rw [← Paired.length rel, tabV_len]
  have n2 : es.size = m.length := by
    have := Pairs.length hpair
    rw [Array.length_toList] at this
    omega
  rw [tabV_len] at z
  refine DT.sortedI (es := es) (ep := ep) (I.ok.hd hc) view ⟨o, ho, hx, hdat⟩ (by omega) fun h' tk as hkp hlt hl hG => ?_
  have lam : as.length = m.length := by omega
  have nda : as.Nodup := List.Pairwise.imp (fun h => Nat.ne_of_lt h) hG.rise
  have pr : ∀ (j : Nat) (b : Addr), as[j]? = some b → ∃ (q : Str × Int) (t u : Tok), m[j]? = some q ∧ h'.get? b = some { cls := .type "tuple", data := .seq #[Value.str q.1 t, Value.int q.2 u] } := by
    intro j b hj
    obtain ⟨en, he, hg⟩ := hG.pairs j b hj
    obtain ⟨q0, t, u, e1, e2, e3⟩ := ent_at rel hpair j en (by rw [Array.getElem?_toList]; exact he)
    exact ⟨q0, t, u, e1, by rw [hg, e2, e3]⟩
  have tup : ∀ (g : Heap) (q0 : Str × Int) (t u : Tok) (b : Addr), g.get? b = some { cls := .type "tuple", data := .seq #[Value.str q0.1 t, Value.int q0.2 u] } → DIs g (pairK q0) (.ref b) := fun g q0 t u b e =>
    .tup ⟨_, e, rfl, _, rfl⟩ (.cons (.text _ _) (.cons (.int _ _) .nil))
  have hob : (h'.push { cls := .type "list", data := .seq (as.map Value.ref).toArray }).get? h'.objs.size = some (seqObj "list" (as.map Value.ref).toArray 0) := Heap.get?_push_size _ rfl
  have old : ∀ b o, h'.get? b = some o → (h'.push { cls := .type "list", data := .seq (as.map Value.ref).toArray }).get? b = some o := fun b o e => Heap.get?_push_of_some _ e
  generalize hg2 : h'.push { cls := .type "list", data := .seq (as.map Value.ref).toArray } = g2 at hob old ⊢
  have da : DAll g2 (m.map pairK) (as.map Value.ref) := dall_of (by rw [List.length_map, List.length_map, lam]) fun j k v e1 e2 => by
    rw [List.getElem?_map] at e1 e2
    cases ea : as[j]? with
    | none => rw [ea] at e2; cases e2
    | some b =>
      rw [ea] at e2
      obtain ⟨q0, t, u, em, eg⟩ := pr j b ea
      rw [em] at e1
      obtain rfl := Option.some.inj e1
      obtain rfl := Option.some.inj e2
      exact tup g2 q0 t u b (old _ _ eg)
  have dep : NestedKey.depthAll (m.map pairK) ≤ 8 := depthAll_le fun k hk' => by
    obtain ⟨x, _, rfl⟩ := List.mem_map.mp hk'
    simp [pairK, NestedKey.depth, NestedKey.depthAll]
  refine wpAny_call_entry PyProof.Rows.slot_list_sort ⟨_, hob, rfl⟩ PyProof.Rows.entry_list_sort
    (list_sort_keys (s := { s with heap := g2, toks := tk }) hob (by rw [List.length_map]; omega) da (fun x hx y hy => ?_) (by show X.A.units + 1 + 1 + _ < _; omega) fun out hs hpm => ⟨.none, rfl, ?_⟩) (PyProof.Rows.args_list_sort _)
  · obtain ⟨x0, _, rfl⟩ := List.mem_map.mp hx
    obtain ⟨y0, _, rfl⟩ := List.mem_map.mp hy
    rfl
  · have ez : as.map Value.ref = (as.zip m).map fun z => Value.ref z.1 := by
      rw [show (fun z : Addr × Str × Int => Value.ref z.1) = Value.ref ∘ Prod.fst from rfl, ← List.map_map, List.map_fst_zip (by omega)]
    obtain ⟨zs, eo, pz⟩ := perm_map_inv hpm ez
    have at_ : ∀ z ∈ zs, z.1 ∈ as ∧ ∃ t u : Tok, h'.get? z.1 = some { cls := .type "tuple", data := .seq #[Value.str z.2.1 t, Value.int z.2.2 u] } := fun z hz => by
      obtain ⟨j, hj⟩ := List.mem_iff_getElem?.mp (pz.mem_iff.mp hz)
      obtain ⟨j1, j2⟩ := List.getElem?_zip_eq_some.mp hj
      obtain ⟨q0, t, u, em, eg⟩ := pr j z.1 j1
      obtain rfl : q0 = z.2 := Option.some.inj (em.symm.trans j2)
      exact ⟨List.mem_of_getElem? j1, t, u, eg⟩
    have I1 : Inv X pins σ H { s with heap := h', toks := tk } := I.kept hkp
    have sold : ∀ b o, h'.get? b = some o → (sortedHeap g2 h'.objs.size (as.map Value.ref) out.toArray).get? b = some o := fun b o e => by
      have lt := Heap.lt_size e
      rw [sortedHeap_old (Nat.ne_of_lt lt) (Heap.lt_size (old b o e))]
      exact old b o e
    obtain ⟨n, hn⟩ := sortedHeap_at (vs := as.map Value.ref) (out := out.toArray) hob
    have lz : zs.length = m.length := by
      have := pz.length_eq
      rw [List.length_zip] at this
      omega
    have rv : Vals (zs.map fun z => V.ref z.1) out := by
      rw [eo]
      exact vals_maps (fun z : Addr × Str × Int => V.ref z.1) (fun z => Value.ref z.1) zs fun _ _ => rfl
    have I2 : Inv X pins σ (upd H h'.objs.size (.lst (zs.map fun z => V.ref z.1))) { s with heap := sortedHeap g2 h'.objs.size (as.map Value.ref) out.toArray, toks := tk } :=
      I1.laid (t' := tk) sold (Nat.le_refl _) ⟨by rw [List.length_map]; omega, out, n, rv, hn⟩
    have hl0 : H h'.objs.size = none := I.hok.fresh (Nat.le_of_lt hlt)
    have nz : (zs.map (·.1)).Nodup := by
      have e := pz.map (·.1)
      rw [List.map_fst_zip (by omega)] at e
      exact e.nodup_iff.mpr nda
    obtain ⟨H3, I3, g3, q3⟩ := DX.takeT (P := fun b vs => ∀ z ∈ zs, z.1 = b → vs = [.str z.2.1, .int z.2.2]) I (zs.map (·.1)) _ I2 nz fun b hb => by
      obtain ⟨z0, hz0, rfl⟩ := List.mem_map.mp hb
      obtain ⟨ma, t, u, eg⟩ := at_ z0 hz0
      have lo := hG.above _ ma
      have hi := hG.there ma
      refine ⟨Nat.le_of_lt lo, by rw [upd_ne (Nat.ne_of_lt hi)]; exact I.hok.fresh (Nat.le_of_lt lo), [.str z0.2.1, .int z0.2.2], fun z hz e => ?_, fun H2 => ?_⟩
      · obtain ⟨_, t', u', eg'⟩ := at_ z hz
        rw [e, eg] at eg'
        have e2 := Option.some.inj eg'
        simp only [Obj.mk.injEq, Data.seq.injEq] at e2
        have e3 := congrArg Array.toList e2.2.2.1.1
        simp only [List.cons.injEq, Value.str.injEq, Value.int.injEq] at e3
        rw [e3.1.1, e3.2.1.1]
      · exact ⟨by show 2 ≤ sizeLine; rw [sizeLine_eq]; decide, [Value.str z0.2.1 t, Value.int z0.2.2 u], .cons ⟨t, rfl⟩ (.cons ⟨u, rfl⟩ .nil), _, sold _ _ eg, rfl, _, rfl⟩
    have same : Same H H3 := fun b o e => g3 b o (by rw [upd_ne (ne_of_none e hl0)]; exact e)
    refine ⟨.ref h'.objs.size, H3, I3, rfl, q (zs.map (·.2)) h'.objs.size (zs.map fun z => V.ref z.1) H3 ?_ ?_ same hl0 (g3 _ _ upd_same) (isks_pairs fun z hz => ?_)⟩
    · have e := pz.map (·.2)
      rwa [List.map_snd_zip (by omega)] at e
    · have ek : (zs.map (·.2)).map pairK = out.map (keyOf g2) := by
        rw [eo, List.map_map, List.map_map]
        refine List.map_congr_left fun z hz => ?_
        obtain ⟨_, t, u, eg⟩ := at_ z hz
        exact (keyOf_eq (tup g2 z.2 t u z.1 (old _ _ eg))).symm
      rw [ek]
      exact List.pairwise_map.mpr hs
    · obtain ⟨vs3, p3, e3⟩ := q3 z.1 (List.mem_map_of_mem hz)
      rw [e3, p3 z hz rfl]
/-- xs.extend(t), t such a tuple -/
def rExtendZ : V → List V → Hp → VK → Prop := fun x vs H Q => ∃ l b xs zs, x = .ref l ∧ vs = [.ref b] ∧ H l = some (.lst xs) ∧ ZT H b zs ∧ xs.length + zs.length ≤ sizeLine ∧ Q .non (upd H l (.lst (xs ++ zs)))
theorem mt_extendZ : MtM X "list.extend" rExtendZ := by
  intro pins s σ H x vs v us Q I rx rv h
  obtain ⟨l, b, xs, zs, rfl, rfl, hH, ⟨o, ⟨oc, od, os⟩, eb⟩, hz, q⟩ := h
  cases rx
  obtain ⟨u, rfl, ru⟩ := rv.one
  cases ru
  obtain ⟨_, its, n, r, hl, e⟩ := I.lstM hH
  have ho : ObjOk X.prog X.w H s.heap b (.frz o (.tup zs)) := I.hok b _ eb
  obtain ⟨ga, z2, its2, r2, ⟨o2, g2, _, n2, dat⟩⟩ := ho
  obtain rfl : o = o2 := Option.some.inj (ga.symm.trans g2)
  have e2 : s.heap.get? b = some { cls := .type "tuple", dict := none, data := .seq its2.toArray n2, slots := #[] } := by
    obtain ⟨c, d, dt, sl⟩ := o
    dsimp only at oc od os dat
    subst oc od os dat
    exact ga
  have h1 := r.length
  have h2 := r2.length
  have hsz : its.toArray.size + its2.toArray.size ≤ sizeLine := by rw [List.size_toArray, List.size_toArray]; omega
  have hlong : ¬ (!its.toArray.isEmpty && Builtin.List.listTooLong (its.toArray.size + its2.toArray.size)) = true := by
    rw [notLongL hsz, Bool.and_false]
    exact Bool.false_ne_true
  refine call_meets F.slot_list_extend ⟨_, e, rfl⟩ F.entry_list_extend (F.args_list_extend_2 _ _)
    (AutoSeq1.list_extend_list_tuple_0 l its.toArray n b its2.toArray n2 hlong (by rw [List.size_toArray]; omega) (by omega)) ⟨e, e2, ?_⟩
  refine ⟨.non, _, I.lset (its' := its ++ its2) hH e (by simp) (r.append r2) ?_, rfl, q⟩
  rw [List.length_append]
  omega
/-- the same values, flat or one object -/
theorem same_val {A : Around} {s : Shared} {v : V} {u u' : Value} (r : RelV v u) (r' : RelV v u') (f : flatB v = true ∨ ∃ a, v = .ref a) : SeqAt.EqAt A s u u' true := by
  rcases f with f | ⟨a, rfl⟩
  · exact eqAt_same r r' f
  · obtain rfl : u = Value.ref a := r
    obtain rfl : u' = Value.ref a := r'
    exact SeqAt.EqAt.same _
theorem same_hits {κ : Type} [DecidableEq κ] {A : Around} {s : Shared} {kvs : List (κ × V)} {vb : List (κ × Value)} (rb : KV kvs vb) : ∀ {ks : List (κ × V)} {va : List (κ × Value)}, KV ks va →
    (∀ p ∈ ks, valV kvs p.1 = some p.2 ∧ (flatB p.2 = true ∨ ∃ a, p.2 = .ref a)) → PySem.W.KeqHits A s vb va true
  | [], _, r, _ => by cases r; exact .nil
  | p :: ks, _, r, g => by
    cases r with
    | @cons _ w0 _ qs x t =>
      obtain ⟨k, v⟩ := w0
      obtain ⟨x1, x2⟩ := x
      obtain ⟨g1, g2⟩ := g p List.mem_cons_self
      obtain ⟨y, hy, ry⟩ := RelO.some_of (v := p.2) (o := valueAt vb p.1) (by rw [← g1]; exact rb.val p.1)
      have x1' : p.1 = k := x1
      rw [x1'] at hy
      show PySem.W.KeqHits A s vb ((k, v) :: qs) (true && true)
      exact .hit hy (same_val x2 ry g2) (same_hits rb t fun p' hm => g p' (List.mem_cons_of_mem _ hm))
/-- == and != of two dicts that hold the same -/
def rSameD (b : Bool) : R2 := fun x y H Q => ∃ a c kvs, x = .ref a ∧ y = .ref c ∧ H a = some (.dK kvs) ∧ H c = some (.dK kvs) ∧ (kvs.map (·.1)).Nodup ∧ (∀ p ∈ kvs, flatB p.2 = true ∨ ∃ a, p.2 = .ref a) ∧ Q (.bl b) H
theorem op_eqS (hu : X.A.units < cLine) : OpR X (compareOp .Eq) (rSameD true) := by
  intro pins s σ H x y v u Q I rx ry h
  obtain ⟨a, c, kvs, rfl, rfl, ea, ec, nd, g, q⟩ := h
  obtain rfl : v = Value.ref a := rx
  obtain rfl : u = Value.ref c := ry
  obtain ⟨_, ya, va, ra, da⟩ := (show ObjOk X.prog X.w H s.heap a (.dK kvs) from I.hok a _ ea)
  obtain ⟨_, yc, vc, rc, dc⟩ := (show ObjOk X.prog X.w H s.heap c (.dK kvs) from I.hok c _ ec)
  have hl : va.length = vc.length := ra.length.symm.trans rc.length
  exact PySem.W.keq_eq (knd := mixKind X.prog X.w) (r := true) ya yc da dc hu (fun _ => same_hits rc ra fun p hp => ⟨val_nodup nd p hp, g p hp⟩) (fin_bl I q (by simp [hl]))
theorem op_neS (hu : X.A.units < cLine) : OpR X (compareOp .NotEq) (rSameD false) := by
  intro pins s σ H x y v u Q I rx ry h
  obtain ⟨a, c, kvs, rfl, rfl, ea, ec, nd, g, q⟩ := h
  obtain rfl : v = Value.ref a := rx
  obtain rfl : u = Value.ref c := ry
  obtain ⟨_, ya, va, ra, da⟩ := (show ObjOk X.prog X.w H s.heap a (.dK kvs) from I.hok a _ ea)
  obtain ⟨_, yc, vc, rc, dc⟩ := (show ObjOk X.prog X.w H s.heap c (.dK kvs) from I.hok c _ ec)
  have hl : va.length = vc.length := ra.length.symm.trans rc.length
  exact PySem.W.keq_ne (knd := mixKind X.prog X.w) (r := true) ya yc da dc hu (fun _ => same_hits rc ra fun p hp => ⟨val_nodup nd p hp, g p hp⟩) (fin_bl I q (by simp [hl]))
end
end HH
namespace HH
open PySem PySem.Spec PyProof.Rows L2 PySem.SeqAt
/-- a locked dict of nested keys -/
def NdF (P : Program) (w : World) (K : PySem.W.Frag) (H : Hp) (d : Addr) (o : Obj) (xs : NX) : Prop :=
  H d = some (.frz o (NdO P w d xs)) ∧ ∀ x ∈ xs, IsK K H x.1 (.ref x.2.1) ∧ x.1.depth ≤ 8
/-- its keys, in their order -/
def Itn (P : Program) (w : World) (d : Addr) (o : Obj) (xs : NX) : It :=
  ⟨fun i H => H d = some (.frz o (NdO P w d xs)) ∧ i < xs.length, fun i H x H' => H' = H ∧ ∃ q, xs[i]? = some q ∧ x = .ref q.2.1, fun i H => H d = some (.frz o (NdO P w d xs)) ∧ xs.length ≤ i⟩
section
variable {X : Cx} {pins : List (Addr × Obj)} {σ : L2.St} {H : Hp} {s : Shared} {d : Addr} {o : Obj} {xs : NX}
theorem frzN (I : Inv X pins σ H s) (h : H d = some (.frz o (NdO X.prog X.w d xs))) :
    (d == sysModules) = false ∧ s.heap.get? d = some o ∧ o.ExactDict ∧ ∃ (es : Array DictEntry) (ep : Nat), o.data = .dict es ep ∧ es.size = xs.length ∧ ∀ (i : Nat) (q : NestedKey × Addr × V), xs[i]? = some q → ∃ en : DictEntry, es[i]? = some en ∧ en.key = .ref q.2.1 := by
  obtain ⟨hd, ⟨z, hs, ys, rel, o', es, ep, ho, hx, hdt, he, _⟩, _⟩ := (show ObjOk X.prog X.w H s.heap d (.frz o (NdO X.prog X.w d xs)) from I.hok d _ h)
  rw [hd] at ho
  cases ho
  refine ⟨hs, hd, hx, es, ep, hdt, ?_, fun i q e => ?_⟩
  · have l1 : es.size = ys.length := size_of_entries he
    have l2 := rel.length
    omega
  · obtain ⟨b, hb, e1, e2, _⟩ := paired_get (show Paired _ xs ys from rel) e
    have q' := entry_at he i
    rw [hb] at q'
    refine ⟨_, q', ?_⟩
    rw [e2]
    rfl
theorem nd_ofF (I : Inv X pins σ H s) (e : H d = some (.frz o (NdO X.prog X.w d xs))) (hk : ∀ x ∈ xs, IsK X.K H x.1 (.ref x.2.1) ∧ x.1.depth ≤ 8) :
    xs.length ≤ sizeLine ∧ (d == sysModules) = false ∧ ∃ ys, NdRel xs ys ∧ s.heap.DictOfH (nestedKind X.prog X.w) d ys := by
  obtain ⟨_, ⟨z, y, ys, r, o, es, ep, h1, h2, h3, h4, h5⟩, _⟩ := (show ObjOk X.prog X.w H s.heap d (.frz o (NdO X.prog X.w d xs)) from I.hok d _ e)
  refine ⟨z, y, ys, r, o, es, ep, h1, h2, h3, h4, fun q hq => ?_, h5⟩
  have all : ∀ {l : NX} {m : List (NestedKey × Addr × Value)}, NdRel l m → (∀ x ∈ l, IsK X.K H x.1 (.ref x.2.1) ∧ x.1.depth ≤ 8) → ∀ q ∈ m, (nestedKind X.prog X.w).is s.heap q.1 q.2.1 := by
    intro l m r
    unfold NdRel at r
    induction r with
    | nil => intro _ q hq; exact nomatch hq
    | @cons p q ps qs h t ih =>
      intro hl x hx
      rcases List.mem_cons.mp hx with e | hx
      · subst e
        obtain ⟨a, b⟩ := hl p List.mem_cons_self
        rw [← h.1, ← h.2.1]
        exact a.key I b
      · exact ih (fun y hy => hl y (List.mem_cons_of_mem _ hy)) x hx
  exact all r hk q hq
end
section
variable {P : Program} {w : World} {K : PySem.W.Frag} {tg : Expr} {d : Addr} {o : Obj} {es : Array DictEntry} {ep : Nat}
theorem turn_nkeys {xs : NX} (it : Addr) (hod : o.data = .dict es ep) : Turn P w K tg (Itn P w d o xs) [it] it (fun i h => h.IsKeyIter it d i xs.length ep) where
  mem := by simp
  obj := fun i h st b hb => by
    have e : b = it := by simpa using hb
    subst e
    obtain ⟨oi, e, c, dd⟩ := st
    exact ⟨oi, e, fun v z => by rw [dd] at z; cases z⟩
  keep := fun i h h' st k => st.at fun oi e => k it (by simp) oi e
  item := by
    intro X hP hw hK hc i pins s σ H E I hf st hg
    subst hP hw hK
    obtain ⟨hd, hi⟩ := hg
    obtain ⟨f0, f1, f2, f3, f4, f5⟩ := hf it (by simp)
    obtain ⟨hs, hgd, hx, es', ep', hdt, hsz, ent⟩ := frzN I hd
    obtain ⟨rfl, rfl⟩ := dict_ep hod hdt
    obtain ⟨q, hq⟩ : ∃ p, xs[i]? = some p := ⟨xs[i], List.getElem?_eq_getElem hi⟩
    obtain ⟨en, hen, hkey⟩ := ent i q hq
    refine next_key_item st hgd hdt hsz hen fun h' st' sb => ?_
    have I1 : Inv X pins σ H { s with heap := h' } := I.turned (t' := s.toks) (fun b ob hb e => (sb.2 b hb).trans e) f0 f1 f3 f4 f5
    obtain ⟨oi, e, c, dd⟩ := id st'
    exact ⟨en.key, rfl, go_of (s := { s with heap := h' }) e c dd (by decide) ⟨.ref q.2.1, H, I1, hkey, ⟨rfl, q, hq, rfl⟩, st', fun b hb => (hf b hb).1⟩⟩
  done := by
    intro X hP hw hK hc i pins s σ H E I hf st hg
    subst hP hw hK
    obtain ⟨hd, hi⟩ := hg
    obtain ⟨f0, f1, f2, f3, f4, f5⟩ := hf it (by simp)
    obtain ⟨hs, hgd, hx, es', ep', hdt, hsz, ent⟩ := frzN I hd
    obtain ⟨rfl, rfl⟩ := dict_ep hod hdt
    exact next_key_end (I.ok.hd hc) st hgd hdt hsz hi fun h' eb => ⟨rfl, I.turned (t' := s.toks) (fun b ob hb e => eb b ob hb e) f0 f1 f3 f4 f5⟩
  self := fun A i s Q E st h => by
    refine wpAny_pyIter_slot st.typeIs F.slot_dict_keyiterator_iter (wpAny_call_entry F.slot_dict_keyiterator_iter st.typeIs F.entry_dict_keyiterator_iter ?_ (F.args_dict_keyiterator_iter_1 _))
    show wpAny _ _ (ret (.ref it)) _ _ s
    exact wpAny_pure ⟨_, rfl, "dict_keyiterator", _, st.typeIs, F.slot_dict_keyiterator_next.lookup, h⟩
end
def iNKeys (P : Program) (w : World) (td : TE) : TI := fun σ H R => td σ H fun x H1 => ∃ d o xs, x = .ref d ∧ H1 d = some (.frz o (NdO P w d xs)) ∧ R (Itn P w d o xs) H1
def tNGetF (P : Program) (w : World) (K : PySem.W.Frag) (td ty : TE) : TE := fun σ H Q => td σ H fun x H1 => ty σ H1 fun y H2 => ∃ d o xs k v, x = .ref d ∧ NdF P w K H2 d o xs ∧ KeyAt K H2 k y ∧ valV (kvX xs) k = some v ∧ Q v H2
section
variable {X : Cx} {tg e i : Expr} {td ty : TE} {pos : Pos}
theorem pi_nkeys {P : Program} {w : World} (he : PE X e td) (hX : X.prog = P ∧ X.w = w := by exact ⟨rfl, rfl⟩) : PI X tg e (iNKeys P w td) := by
  obtain ⟨rfl, rfl⟩ := hX
  refine ⟨fun pins s σ H R I h => ?_⟩
  refine thn (he.run pins s σ H _ I h) fun u s1 ⟨x, H1, I1, rx, d, o, xs, ex, hd, q⟩ => ?_
  subst ex
  obtain rfl : u = Value.ref d := rx
  obtain ⟨hs, hgd, hx, es, ep, hdt, hsz, ent⟩ := frzN I1 hd
  refine iter_keys hs hgd hx hdt (pi_one (tk := s1.toks) I1 _ (turn_nkeys _ hdt) ⟨_, Heap.get?_push_size _ rfl, rfl, ?_⟩ q)
  rw [hsz] <;> rfl
theorem pe_ngetF {P : Program} {w : World} {K : PySem.W.Frag} (hu : X.A.units + 20 < cLine) (ho : PE X e td) (hi : PE X i ty) (hs : NoSl i) (hX : X.prog = P ∧ X.w = w ∧ X.K = K := by exact ⟨rfl, rfl, rfl⟩) : PE X (.Subscript e i pos) (tNGetF P w K td ty) := by
  obtain ⟨rfl, rfl, rfl⟩ := hX
  refine ⟨fun pins s σ H Q I h => ?_⟩
  refine subD_of PySem.F.slot_dict_getitem.lookup hs (thn (ho.run pins s σ H _ I h) fun u s1 ⟨x, H1, I1, rx, q1⟩ => thn (hi.run pins s1 σ H1 _ I1 q1) fun iv s2 ⟨y, H2, I2, ry, d, o, xs, k, v, ex, ⟨hd, hk⟩, ⟨b, eb, ik, dep⟩, l, q2⟩ => ?_)
  subst ex eb
  obtain rfl : u = Value.ref d := rx
  cases (show iv = Value.ref b from ry)
  obtain ⟨_, _, ys, rel, dd⟩ := nd_ofF I2 hd hk
  obtain ⟨w', hw, rw'⟩ := RelO.some_of (v := v) (o := (atKey ys k).map (·.2)) (by rw [← l]; exact rel.val k)
  obtain ⟨p, hp, hp2⟩ := Option.map_eq_some_iff.mp hw
  refine ⟨dd.typeIs, wpAny_getItem_heap (room_nd hu) (ik.key I2 dep) dd hp ?_⟩
  rw [hp2]
  exact ⟨v, H2, I2.tok _, rw', q2⟩
end
theorem walk_nkeys {P : Program} {w : World} {d : Addr} {o : Obj} {xs : NX} : Walk (Itn P w d o xs) xs.length (fun H => H d = some (.frz o (NdO P w d xs))) (fun i H x H' => H' = H ∧ ∃ q, xs[i]? = some q ∧ x = .ref q.2.1) :=
  ⟨fun i H hi h => ⟨h, hi⟩, fun H h => ⟨h, Nat.le_refl _⟩, fun i H x H' hi h y => y⟩
section
variable {P : Program} {w : World} {K : PySem.W.Frag} {σ : L2.St} {H : Hp} {Q : VK} {D : Ends} {te tl tk tv td ty : TE} {ta : TA} {tt : TT} {tb t : TS} {g : TG} {wi : TI} {vs : List Nat}
theorem rd_iN {R : It → Hp → Prop} (h : td σ H fun x H1 => ∃ d o xs, x = .ref d ∧ H1 d = some (.frz o (NdO P w d xs)) ∧ R (Itn P w d o xs) H1) : iNKeys P w td σ H R := h
theorem rd_leafN {d : Addr} {o : Obj} {xs : NX} {R : It → Prop} (hd : H d = some (.frz o (NdO P w d xs))) (h : R (Itn P w d o xs)) : ∃ d' o xs, V.ref d = .ref d' ∧ H d' = some (.frz o (NdO P w d' xs)) ∧ R (Itn P w d' o xs) := ⟨d, o, xs, rfl, hd, h⟩
theorem rd_ngetF (h : td σ H fun x H1 => ty σ H1 fun y H2 => ∃ d o xs k v, x = .ref d ∧ NdF P w K H2 d o xs ∧ KeyAt K H2 k y ∧ valV (kvX xs) k = some v ∧ Q v H2) : tNGetF P w K td ty σ H Q := h
/-- the locked dict d -/
theorem rd_lock {d : Addr} {xs : NX} (hd : H d = some (NdO P w d xs)) (h : ∀ od, t ⟨fun σ' H' => H' d = some (.frz od (NdO P w d xs)) ∧ D.nx σ' (upd H' d (NdO P w d xs)), fun v H' => H' d = some (.frz od (NdO P w d xs)) ∧ D.rt v (upd H' d (NdO P w d xs)), fun σ' H' => H' d = some (.frz od (NdO P w d xs)) ∧ D.bk σ' (upd H' d (NdO P w d xs)), fun σ' H' => H' d = some (.frz od (NdO P w d xs)) ∧ D.ct σ' (upd H' d (NdO P w d xs))⟩ σ (upd H d (.frz od (NdO P w d xs)))) : tLock t D σ H :=
  ⟨d, _, hd, True.intro, h⟩
theorem rd_lockE {d : Addr} {xs : NX} (hd : H d = some (NdO P w d xs)) (h : ∀ od, te σ (upd H d (.frz od (NdO P w d xs))) fun v H' => H' d = some (.frz od (NdO P w d xs)) ∧ Q v (upd H' d (NdO P w d xs))) : tLockE te σ H Q :=
  ⟨d, _, hd, True.intro, h⟩
end
end HH
namespace HH
open PySem PySem.Spec PyProof.Rows L2 PySem.SeqAt
/-- any thing of the kinds that occur: oth is a list or a dict -/
inductive Th where
  | non | bl (b : Bool) | int (i : Int) | str (s : Str) | lst | dic | tup (ts : List Th)
mutual
def IsTh (K : PySem.W.Frag) (p : Addr) (H : Hp) : Th → V → Prop
  | .non, v => v = .non
  | .bl b, v => v = .bl b
  | .int i, v => v = .int i
  | .str s, v => v = .str s
  | .lst, v => ∃ a xs, v = .ref a ∧ a ≠ p ∧ H a = some (.lst xs)
  | .dic, v => ∃ a xs, v = .ref a ∧ a ≠ p ∧ H a = some (.dK xs)
  | .tup ts, v => ∃ a vs, v = .ref a ∧ SqT K H a vs ∧ IsThs K p H ts vs
def IsThs (K : PySem.W.Frag) (p : Addr) (H : Hp) : List Th → List V → Prop
  | [], vs => vs = []
  | t :: ts, vs => ∃ v r, vs = v :: r ∧ IsTh K p H t v ∧ IsThs K p H ts r
end
section
variable {K : PySem.W.Frag} {p : Addr} {H H' : Hp}
mutual
theorem IsTh.keep (t : Tup K H H') (f : Fr p H H') : ∀ (x : Th) (v : V), IsTh K p H x v → IsTh K p H' x v
  | .non, _, h => h
  | .bl b, _, h => h
  | .int i, _, h => h
  | .str s, _, h => h
  | .lst, _, ⟨a, xs, e, n, h⟩ => ⟨a, xs, e, n, f _ _ n h⟩
  | .dic, _, ⟨a, xs, e, n, h⟩ => ⟨a, xs, e, n, f _ _ n h⟩
  | .tup ts, _, ⟨a, vs, e, s, r⟩ => ⟨a, vs, e, t _ _ s, IsThs.keep t f ts vs r⟩
theorem IsThs.keep (t : Tup K H H') (f : Fr p H H') : ∀ (x : List Th) (v : List V), IsThs K p H x v → IsThs K p H' x v
  | [], _, h => h
  | k :: ks, _, ⟨x, r, e, a, b⟩ => ⟨x, r, e, IsTh.keep t f k x a, IsThs.keep t f ks r b⟩
end
theorem IsTh.same {x : Th} {v : V} (h : IsTh K p H x v) (s : Same H H') : IsTh K p H' x v := h.keep (same_tup s) (Fr.of s)
theorem IsThs.same {x : List Th} {v : List V} (h : IsThs K p H x v) (s : Same H H') : IsThs K p H' x v := h.keep (same_tup s) (Fr.of s)
mutual
/-- a list is written anew -/
theorem IsTh.wr {D : Addr} {us vs' : List V} (t : Tup K H (upd H D (.lst vs'))) (hD : H D = some (.lst us)) : ∀ (x : Th) (v : V), IsTh K p H x v → IsTh K p (upd H D (.lst vs')) x v
  | .non, _, h => h
  | .bl b, _, h => h
  | .int i, _, h => h
  | .str s, _, h => h
  | .lst, _, ⟨a, xs, e, n, h⟩ => by
    by_cases ea : a = D
    · exact ⟨a, vs', e, n, by rw [ea]; exact upd_same⟩
    · exact ⟨a, xs, e, n, by rw [upd_ne ea]; exact h⟩
  | .dic, _, ⟨a, xs, e, n, h⟩ => ⟨a, xs, e, n, by rw [upd_ne (fun z => by rw [z, hD] at h; cases h)]; exact h⟩
  | .tup ts, _, ⟨a, vs, e, s, r⟩ => ⟨a, vs, e, t _ _ s, IsThs.wr t hD ts vs r⟩
theorem IsThs.wr {D : Addr} {us vs' : List V} (t : Tup K H (upd H D (.lst vs'))) (hD : H D = some (.lst us)) : ∀ (x : List Th) (v : List V), IsThs K p H x v → IsThs K p (upd H D (.lst vs')) x v
  | [], _, h => h
  | k :: ks, _, ⟨x, r, e, a, b⟩ => ⟨x, r, e, IsTh.wr t hD k x a, IsThs.wr t hD ks r b⟩
end
theorem IsThs.length : ∀ {ks : List Th} {vs : List V}, IsThs K p H ks vs → vs.length = ks.length
  | [], _, h => by rw [show _ = [] from h]; rfl
  | k :: ks, _, ⟨x, r, e, a, b⟩ => by rw [e, List.length_cons, List.length_cons, IsThs.length b]
theorem IsThs.get : ∀ {ks : List Th} {vs : List V} {i : Nat} {k : Th}, IsThs K p H ks vs → ks[i]? = some k → ∃ v, vs[i]? = some v ∧ IsTh K p H k v
  | [], _, i, k, h, e => by simp at e
  | k :: ks, _, 0, k', ⟨x, r, e, a, b⟩, e' => by
    subst e
    obtain rfl : k = k' := by simpa using e'
    exact ⟨x, rfl, a⟩
  | k :: ks, _, i + 1, k', ⟨x, r, e, a, b⟩, e' => by
    subst e
    exact IsThs.get (i := i) b (by simpa using e')
theorem IsThs.app : ∀ {ks ls : List Th} {vs us : List V}, IsThs K p H ks vs → IsThs K p H ls us → IsThs K p H (ks ++ ls) (vs ++ us)
  | [], _, _, _, h, g => by rw [show _ = [] from h]; exact g
  | k :: ks, _, _, _, ⟨x, r, e, a, b⟩, g => ⟨x, r ++ _, by rw [e]; rfl, a, IsThs.app b g⟩
theorem IsThs.take : ∀ {ks : List Th} {vs : List V} (n : Nat), IsThs K p H ks vs → IsThs K p H (ks.take n) (vs.take n)
  | [], vs, n, h => by rw [show vs = [] from h]; simp; rfl
  | k :: ks, _, 0, _ => rfl
  | k :: ks, _, n + 1, ⟨x, r, e, a, b⟩ => by rw [e]; exact ⟨x, _, rfl, a, IsThs.take n b⟩
theorem IsThs.drop : ∀ {ks : List Th} {vs : List V} (n : Nat), IsThs K p H ks vs → IsThs K p H (ks.drop n) (vs.drop n)
  | [], vs, n, h => by rw [show vs = [] from h]; simp; rfl
  | k :: ks, _, 0, h => h
  | k :: ks, _, n + 1, ⟨x, r, e, a, b⟩ => by rw [e]; exact IsThs.drop n b
def Th.ty : Th → String
  | .non => "NoneType" | .bl _ => "bool" | .int _ => "int" | .str _ => "str" | .lst => "list" | .dic => "dict" | .tup _ => "tuple"
theorem sqt_ty {a : Addr} {xs : List V} (h : SqT K H a xs) : TyX K H (.ref a) (.type "tuple") := by
  rcases h with (h | ⟨o, h⟩) | ⟨o, its, n, h, c, _⟩
  · exact .base (.tup h)
  · exact .fTuple h
  · exact .kTuple h c
theorem th_ty : ∀ {x : Th} {v : V}, IsTh K p H x v → TyX K H v (.type x.ty)
  | .non, _, h => by rw [show _ = V.non from h]; exact .base .non
  | .bl b, _, h => by rw [show _ = V.bl b from h]; exact .base (.bl b)
  | .int i, _, h => by rw [show _ = V.int i from h]; exact .base (.int i)
  | .str s, _, h => by rw [show _ = V.str s from h]; exact .base (.str s)
  | .lst, _, ⟨a, xs, e, n, h⟩ => by rw [e]; exact .base (.lst h)
  | .dic, _, ⟨a, xs, e, n, h⟩ => by rw [e]; exact .base (.dK h)
  | .tup ts, _, ⟨a, vs, e, s, r⟩ => by rw [e]; exact sqt_ty s
def Th.isTup : Th → Bool | .tup _ => true | _ => false
def Th.isStr : Th → Bool | .str _ => true | _ => false
def Th.isInt : Th → Bool | .int _ => true | .bl _ => true | _ => false
def Th.isBool : Th → Bool | .bl _ => true | _ => false
variable {Q : VK} {v : V} {x : Th}
theorem rd_thTup (h : IsTh K p H x v) (q : Q (.bl x.isTup) H) : rIsi K [v, .ty "tuple"] H Q := by
  refine rd_isi (th_ty h) ?_ q
  cases x <;> (simp only [Th.ty, Th.isTup]; decide +kernel)
theorem rd_thStr (h : IsTh K p H x v) (q : Q (.bl x.isStr) H) : rIsi K [v, .ty "str"] H Q := by
  refine rd_isi (th_ty h) ?_ q
  cases x <;> (simp only [Th.ty, Th.isStr]; decide +kernel)
theorem rd_thInt (h : IsTh K p H x v) (q : Q (.bl x.isInt) H) : rIsi K [v, .ty "int"] H Q := by
  refine rd_isi (th_ty h) ?_ q
  cases x <;> (simp only [Th.ty, Th.isInt]; decide +kernel)
theorem rd_thBool (h : IsTh K p H x v) (q : Q (.bl x.isBool) H) : rIsi K [v, .ty "bool"] H Q := by
  refine rd_isi (th_ty h) ?_ q
  cases x <;> (simp only [Th.ty, Th.isBool]; decide +kernel)
end
theorem rd_neS {H : Hp} {Q : VK} {z w : Str} (h : Q (.bl (!decide (z = w))) H) : rNe (.str z) (.str w) H Q := ⟨rfl, by
  rw [show decide (V.str z = V.str w) = decide (z = w) from decide_eq_decide.mpr ⟨V.str.inj, fun e => by rw [e]⟩]; exact h⟩
theorem rd_neN {H : Hp} {Q : VK} {i j : Int} (h : Q (.bl (!decide (i = j))) H) : rNe (.int i) (.int j) H Q := ⟨rfl, by
  rw [show decide (V.int i = V.int j) = decide (i = j) from decide_eq_decide.mpr ⟨V.int.inj, fun e => by rw [e]⟩]; exact h⟩
theorem rd_neB {H : Hp} {Q : VK} {i j : Bool} (h : Q (.bl (!decide (i = j))) H) : rNe (.bl i) (.bl j) H Q := ⟨rfl, by
  rw [show decide (V.bl i = V.bl j) = decide (i = j) from decide_eq_decide.mpr ⟨V.bl.inj, fun e => by rw [e]⟩]; exact h⟩
theorem rd_chain {σ : L2.St} {H : Hp} {Q : VK} {r r' : R2} {ta tb tc : TE} (h : ta σ H fun x H1 => tb σ H1 fun y H2 => r x y H2 fun z H3 => ∃ k, z = .bl k ∧ (if k = true then tc σ H3 fun w' H4 => r' y w' H4 Q else Q (.bl false) H3)) : tChain r r' ta tb tc σ H Q := h
/-! ### rows and trees -/
mutual
def Th.dep : Th → Nat
  | .tup ts => 1 + Th.deps ts
  | _ => 0
def Th.deps : List Th → Nat
  | [] => 0
  | t :: ts => max t.dep (Th.deps ts)
end
theorem Th.dep_mem {t : Th} : ∀ {ts : List Th}, t ∈ ts → t.dep ≤ Th.deps ts
  | x :: xs, h => by
    rw [Th.deps]
    rcases List.mem_cons.mp h with r | r
    · rw [r]; omega
    · have := Th.dep_mem r; omega
theorem Th.deps_le {n : Nat} : ∀ {ts : List Th}, (∀ t ∈ ts, t.dep ≤ n) → Th.deps ts ≤ n
  | [], _ => by rw [Th.deps]; omega
  | x :: xs, h => by
    rw [Th.deps]
    have a := h x List.mem_cons_self
    have b := Th.deps_le (ts := xs) fun t ht => h t (List.mem_cons_of_mem _ ht)
    omega
structure FRow where
  add : Bool
  nm : Str
  co : Int
  ps : Tab
def wordK (b : Bool) : Str := if b then "add" else "lift"
def rowK (r : FRow) : NestedKey := .tup [.text (wordK r.add), .text r.nm, .num r.co, prodK r.ps]
def rowsK (R : List FRow) : NestedKey := .tup (R.map rowK)
theorem rows_at {K : PySem.W.Frag} {H : Hp} {R : List FRow} {v : V} (h : IsK K H (rowsK R) v) : ∃ a vs, v = .ref a ∧ SqT K H a vs ∧ IsKs K H (R.map rowK) vs ∧ vs.length = R.length := by
  obtain ⟨a, vs, rfl, s, k⟩ := h
  exact ⟨a, vs, rfl, s, k, by rw [IsKs.length k, List.length_map]⟩
theorem row_at {K : PySem.W.Frag} {H : Hp} {r : FRow} {v : V} (h : IsK K H (rowK r) v) : ∃ a t, v = .ref a ∧ SqT K H a [.str (wordK r.add), .str r.nm, .int r.co, .ref t] ∧ IsK K H (prodK r.ps) (.ref t) := by
  obtain ⟨a, vs, rfl, s, ⟨x1, r1, rfl, h1, x2, r2, rfl, h2, x3, r3, rfl, h3, x4, r4, rfl, h4, hr⟩⟩ := h
  obtain rfl : x1 = .str _ := h1
  obtain rfl : x2 = .str _ := h2
  obtain rfl : x3 = .int _ := h3
  obtain rfl : r4 = [] := hr
  obtain ⟨t, _, rfl, _⟩ := id h4
  exact ⟨a, t, rfl, s, h4⟩
theorem prod_th {K : PySem.W.Frag} {H : Hp} {ps : Tab} {v : V} (h : IsK K H (prodK ps) v) : ∃ a vs, v = .ref a ∧ SqT K H a vs ∧ IsKs K H (ps.map fun q => .tup [.text q.1, .num q.2]) vs ∧ vs.length = ps.length := by
  obtain ⟨a, vs, rfl, s, k⟩ := h
  exact ⟨a, vs, rfl, s, k, by rw [IsKs.length k, List.length_map]⟩
theorem pair_th {K : PySem.W.Frag} {H : Hp} {q : Str × Int} {v : V} (h : IsK K H (.tup [.text q.1, .num q.2]) v) : ∃ a, v = .ref a ∧ SqT K H a [.str q.1, .int q.2] := by
  obtain ⟨a, vs, rfl, s, ⟨x1, r1, rfl, h1, x2, r2, rfl, h2, hr⟩⟩ := h
  obtain rfl : x1 = .str _ := h1
  obtain rfl : x2 = .int _ := h2
  obtain rfl : r2 = [] := hr
  exact ⟨a, rfl, s⟩
def Th.strIs (z : Str) : Th → Bool
  | .str s => decide (s = z)
  | _ => false
/-- what a def asks of things: a tuple of so many, the first this word -/
def Th.made (w : Str) (n : Nat) : Th → Bool
  | .tup ts => decide (ts.length = n) && match ts with | t :: _ => t.strIs w | [] => false
  | _ => false
/-- the number of one of so many -/
def Th.num (n : Nat) : Th → Option Nat
  | .int i => if 0 ≤ i ∧ i < n then some i.toNat else none
  | _ => none
mutual
/-- it is a loop tree for the name -/
def jt (R : List FRow) (x : Str) : Th → Bool
  | .tup [.str s] => decide (s = "begin")
  | .tup [.str s, n, .tup ts] => decide (s = "row") && match Th.num R.length n with
    | some k => match R[k]? with
      | some r => decide (r.nm = x) && (decide (ts.length = r.ps.length) && jts R (r.ps.map (·.1)) ts)
      | none => false
    | none => false
  | _ => false
def jts (R : List FRow) (xs : List Str) : List Th → Bool
  | [] => true
  | t :: ts => match xs with
    | [] => true
    | x :: xs => jt R x t && jts R xs ts
end
end HH
namespace HH
open PySem PySem.Spec PyProof.Rows L2 PySem.SeqAt
/-! ### tables keyed by a name and a product -/
abbrev Ft := List ((Str × Tab) × Int)
def encF (q : Str × Tab) : NestedKey := .tup [.text q.1, prodK q.2]
theorem encF_inj {a b : Str × Tab} (h : encF a = encF b) : a = b := by
  unfold encF at h
  injection h with h
  injection h with h1 h2
  injection h2 with h2 _
  injection h1 with h1
  exact Prod.ext h1 (prodK_inj h2)
theorem depth_encF (q : Str × Tab) : (encF q).depth ≤ 8 := by
  have := prodK_depth q.2
  simp only [encF, NestedKey.depth, NestedKey.depthAll]
  omega
def ftV (m : Ft) : List (NestedKey × V) := encV encF m
theorem ftV_len (m : Ft) : (ftV m).length = m.length := List.length_map _
theorem valV_ft (m : Ft) (z : Str × Tab) : valV (ftV m) (encF z) = (tget m z).map V.int := valV_enc encF (fun _ _ h => encF_inj h) m z
theorem putK_ft (m : Ft) (z : Str × Tab) (n : Int) : putK (ftV m) (encF z) (V.int n) = ftV (tput m z n) := putK_enc encF (fun _ _ h => encF_inj h) m z n
theorem key_ft {K : PySem.W.Frag} {H : Hp} {nm : Str} {ps : Tab} {t u : Addr} (hu : H u = some (.tup [.str nm, .ref t])) (h : IsK K H (prodK ps) (.ref t)) : KeyAt K H (encF (nm, ps)) (.ref u) :=
  ⟨u, rfl, ⟨u, _, rfl, sqt hu, _, _, rfl, rfl, _, _, rfl, h, rfl⟩, depth_encF _⟩
/-- the i-th key -/
theorem nx_at {xs : NX} {m : Ft} (e : kvX xs = ftV m) {i : Nat} {q : NestedKey × Addr × V} (h : xs[i]? = some q) : ∃ z, m[i]? = some z ∧ q.1 = encF z.1 := by
  have h1 : (kvX xs)[i]? = some (q.1, q.2.2) := by unfold kvX; rw [List.getElem?_map, h]; rfl
  rw [e] at h1
  unfold ftV encV at h1
  rw [List.getElem?_map] at h1
  cases hm : m[i]? with
  | none => rw [hm] at h1; cases h1
  | some z =>
    rw [hm] at h1
    have := Option.some.inj h1
    exact ⟨z, rfl, (congrArg Prod.fst this).symm⟩
theorem nx_len {xs : NX} {m : Ft} (e : kvX xs = ftV m) : xs.length = m.length := by
  have := congrArg List.length e
  rw [ftV_len] at this
  rw [← this]; unfold kvX; rw [List.length_map]
theorem encF_at {K : PySem.W.Frag} {H : Hp} {z : Str × Tab} {v : V} (h : IsK K H (encF z) v) : ∃ a t, v = .ref a ∧ SqT K H a [.str z.1, .ref t] ∧ IsK K H (prodK z.2) (.ref t) := by
  obtain ⟨a, vs, rfl, s, ⟨x1, r1, rfl, h1, x2, r2, rfl, h2, hr⟩⟩ := h
  obtain rfl : x1 = .str _ := h1
  obtain rfl : r2 = [] := hr
  obtain ⟨t, _, rfl, _⟩ := id h2
  exact ⟨a, t, rfl, s, h2⟩
/-- the rows of a table -/
def rowsOf (b : Bool) (m : Ft) : List FRow := m.map fun q => ⟨b, q.1.1, (tget m q.1).getD 0, q.1.2⟩
theorem rowsOf_len (b : Bool) (m : Ft) : (rowsOf b m).length = m.length := List.length_map _
theorem cm_row (a b : FRow) : cmK (rowK a) (rowK b) = true := by
  have := cmK_prod a.ps b.ps
  simp only [rowK, cmK, cmL, this, Bool.and_true, Bool.true_and]
theorem depth_row (r : FRow) : (rowK r).depth ≤ 4 := by
  have := prodK_depth r.ps
  simp only [rowK, NestedKey.depth, NestedKey.depthAll]
  omega
theorem rows_back {ks : List NestedKey} {R : List FRow} (p : ks.Perm (R.map rowK)) : ∃ R' : List FRow, ks = R'.map rowK ∧ R'.Perm R := perm_map_inv p rfl
/-! ### what the judges say -/
theorem made_inv {z : Str} {n : Nat} {t : Th} (h : Th.made z n t = true) : ∃ ts, t = .tup (.str z :: ts) ∧ ts.length + 1 = n := by
  cases t with
  | tup ts =>
    simp only [Th.made, Bool.and_eq_true, decide_eq_true_eq] at h
    obtain ⟨h1, h2⟩ := h
    cases ts with
    | nil => simp at h2
    | cons t0 ts =>
      cases t0 with
      | str s0 =>
        obtain rfl : s0 = z := of_decide_eq_true h2
        exact ⟨ts, rfl, h1⟩
      | _ => simp [Th.strIs] at h2
  | _ => simp [Th.made] at h
theorem made_row {t : Th} (h : Th.made "row" 3 t = true) : ∃ n tr, t = .tup [.str "row", n, tr] := by
  obtain ⟨ts, rfl, e⟩ := made_inv h
  match ts, e with
  | [n, tr], _ => exact ⟨n, tr, rfl⟩
theorem jt_begin {R : List FRow} {x : Str} {t : Th} (h : Th.made "begin" 1 t = true) : jt R x t = true := by
  obtain ⟨ts, rfl, e⟩ := made_inv h
  obtain rfl : ts = [] := List.eq_nil_of_length_eq_zero (by omega)
  simp [jt]
theorem jt_row {R : List FRow} {x : Str} {n : Th} {ts : List Th} : jt R x (.tup [.str "row", n, .tup ts]) = match Th.num R.length n with
    | some k => match R[k]? with
      | some r => decide (r.nm = x) && (decide (ts.length = r.ps.length) && jts R (r.ps.map (·.1)) ts)
      | none => false
    | none => false := by
  first
    | (rw [jt, decide_eq_true rfl, Bool.true_and]; done)
    | (rw [jt, decide_eq_true rfl, Bool.true_and]
       generalize Th.num R.length n = o
       cases o with
       | none => rfl
       | some k =>
         dsimp only
         generalize R[k]? = o2
         cases o2 <;> rfl)
/-- what the judge lets -/
theorem jt_inv {R : List FRow} {x : Str} {t : Th} (h : jt R x t = true) : t = .tup [.str "begin"] ∨ ∃ (i : Int) (ts : List Th) (k : Nat) (r : FRow), t = .tup [.str "row", .int i, .tup ts] ∧ Th.num R.length (.int i) = some k ∧ R[k]? = some r ∧ r.nm = x ∧ ts.length = r.ps.length ∧ jts R (r.ps.map (·.1)) ts = true := by
  unfold jt at h
  split at h
  · obtain rfl := of_decide_eq_true h
    exact .inl rfl
  · next s n ts =>
    simp only [Bool.and_eq_true, decide_eq_true_eq] at h
    obtain ⟨rfl, h⟩ := h
    cases n with
    | int i =>
      refine .inr ?_
      cases e : Th.num R.length (.int i) with
      | none => rw [e] at h; cases h
      | some k =>
        rw [e] at h
        cases e2 : R[k]? with
        | none => simp only [e2] at h; cases h
        | some r =>
          simp only [e2, Bool.and_eq_true, decide_eq_true_eq] at h
          exact ⟨i, ts, k, r, rfl, e, e2, h.1, h.2.1, h.2.2⟩
    | _ => simp [Th.num] at h
  · cases h
theorem jts_iff {R : List FRow} : ∀ {xs : List Str} {ts : List Th}, xs.length = ts.length → (jts R xs ts = true ↔ ∀ (i : Nat) (x : Str) (t : Th), xs[i]? = some x → ts[i]? = some t → jt R x t = true)
  | xs, [], e => by simp [jts]
  | [], _ :: _, e => by simp at e
  | x :: xs, t :: ts, e => by
    rw [jts, Bool.and_eq_true, jts_iff (xs := xs) (ts := ts) (by simpa using e)]
    constructor
    · rintro ⟨h1, h2⟩ i x' t' hx ht
      cases i with
      | zero =>
        obtain rfl : x = x' := by simpa using hx
        obtain rfl : t = t' := by simpa using ht
        exact h1
      | succ i => exact h2 i x' t' (by simpa using hx) (by simpa using ht)
    · intro h
      exact ⟨h 0 x t rfl rfl, fun i x' t' hx ht => h (i + 1) x' t' (by simpa using hx) (by simpa using ht)⟩
/-- what is no tuple of just these -/
theorem jt_no {R : List FRow} {x : Str} {t : Th} (h1 : Th.made "begin" 1 t = false) (h2 : Th.made "row" 3 t = false) : jt R x t = false := by
  cases e : jt R x t with
  | false => rfl
  | true =>
    rcases jt_inv e with rfl | ⟨i, ts, k, r, rfl, _⟩
    · simp [Th.made, Th.strIs] at h1
    · simp [Th.made, Th.strIs] at h2
theorem jt_num {R : List FRow} {x : Str} {n tr : Th} (h : (Th.num R.length n).isSome = false) : jt R x (.tup [.str "row", n, tr]) = false := by
  cases e : jt R x (.tup [.str "row", n, tr]) with
  | false => rfl
  | true =>
    rcases jt_inv e with z | ⟨i, ts, k, r, z, e1, _⟩
    · cases z
    · injection z with z
      injection z with _ z
      injection z with z _
      rw [z, e1] at h
      cases h
def Th.items : Th → List Th
  | .tup ts => ts
  | _ => []
theorem num_nat {m k : Nat} (h : k < m) : Th.num m (.int (k : Int)) = some k := by
  simp only [Th.num]
  rw [if_pos ⟨by omega, by omega⟩]
  simp
theorem jt_row2 {R : List FRow} {x : Str} {k : Nat} {tr : Th} (h : k < R.length) : jt R x (.tup [.str "row", .int (k : Int), tr]) = (decide (R[k].nm = x) && (tr.isTup && (decide (tr.items.length = R[k].ps.length) && jts R (R[k].ps.map (·.1)) tr.items))) := by
  cases tr with
  | tup ts =>
    rw [jt_row, num_nat h]
    first
      | (simp only [List.getElem?_eq_getElem h, Th.isTup, Th.items, Bool.true_and]; done)
      | (simp only [List.getElem?_eq_getElem h, Th.isTup, Th.items, Bool.true_and]; rfl)
  | _ =>
    simp only [Th.isTup, Bool.false_and, Bool.and_false]
    refine Bool.eq_false_iff.mpr fun e => ?_
    rcases jt_inv e with z | ⟨i, ts, k, r, z, _⟩
    · cases z
    · injection z with z
      injection z with _ z
      injection z with _ z
      injection z with z _
      cases z
theorem num_inv {m : Nat} {n : Th} (h : (Th.num m n).isSome = true) : ∃ k : Nat, n = .int (k : Int) ∧ k < m ∧ Th.num m n = some k := by
  cases n with
  | int i =>
    simp only [Th.num] at h ⊢
    by_cases c : 0 ≤ i ∧ i < (m : Int)
    · exact ⟨i.toNat, by rw [Int.toNat_of_nonneg c.1], by omega, by rw [if_pos c]⟩
    · rw [if_neg c] at h; cases h
  | _ => simp [Th.num] at h
end HH
namespace HH
open PySem PySem.Spec PyProof.Rows L2 PySem.SeqAt
theorem same_seq {K : PySem.W.Frag} {H H' : Hp} {a : Addr} {xs : List V} (e : Same H H') (h : SqL K H a xs) : SqL K H' a xs := by
  rcases h with (h | ⟨o, h⟩) | h
  · exact .inl (.inl (e _ _ h))
  · exact .inl (.inr ⟨o, e _ _ h⟩)
  · exact .inr h
theorem rd_lenA {P : Program} {w : World} {K : PySem.W.Frag} {H : Hp} {Q : VK} {p : Addr} {xs : List V} (hp : SqL K H p xs ∨ SqT K H p xs) (h : Q (.int xs.length) H) : rLenU P w K [.ref p] H Q := hp.elim (fun z => rd_lenL z h) (fun z => rd_lenT z h)
theorem seqIx_nat {k : Int} {n : Nat} (h0 : 0 ≤ k) (h : k.toNat < n) : seqIndex? k n = some k.toNat := by
  unfold seqIndex?
  simp only [show ¬ k < 0 from by omega, if_false]
  rw [if_pos (by simp; omega)]
theorem map_erase (ls : List Str) (k : Nat) : (ls.map V.str).eraseIdx k = (ls.eraseIdx k).map V.str := by
  induction ls generalizing k with
  | nil => rfl
  | cons a ls ih =>
    cases k with
    | zero => rfl
    | succ k => rw [List.map_cons, List.eraseIdx_cons_succ, List.eraseIdx_cons_succ, List.map_cons, ih]
theorem erase_perm {α : Type} : ∀ {ls : List α} {k : Nat} (h : k < ls.length), ([ls[k]] ++ ls.eraseIdx k).Perm ls
  | _ :: _, 0, _ => List.Perm.refl _
  | a :: ls, k + 1, h => by
    have ih := erase_perm (ls := ls) (k := k) (by simpa using h)
    exact (List.Perm.swap a (ls[k]'(by simpa using h)) _).trans (ih.cons a)
theorem rd_iZ {K : PySem.W.Frag} {σ : L2.St} {H : Hp} {ta : TA} {R : It → Hp → Prop} (h : ta σ H fun vs H1 => ∃ a b xs ys, vs = [.ref a, .ref b] ∧ ((SqL K H1 a xs ∧ SqL K H1 b ys ∧ R (Itz K a b) H1) ∨ (SqT K H1 a xs ∧ SqT K H1 b ys ∧ R (RZ.ItzT K a b) H1))) : RZ.iZipA K ta σ H R := h
section
variable {P : Program} {w : World} {σ : L2.St} {tt : TT} {te : TE} {g : TG} {vs : List Nat}
/-- a comprehension over the keys of a locked dict -/
theorem lc_nkW {d : Addr} {o : Obj} {xs : NX} {H1 : Hp} {D : Addr} {Qd : Hp → Prop} (σ' : L2.St) (hw : wipe σ vs = σ') (Pv : Nat → Hp → Prop) (h0 : Pv 0 (upd H1 D (.lst []))) (hl : ∀ i H, i ≤ xs.length → Pv i H → H d = some (.frz o (NdO P w d xs)))
    (hs : ∀ i (q : NestedKey × Addr × V) H, i < xs.length → xs[i]? = some q → Pv i H → g (.ref q.2.1) σ' H fun σ2 H2 => wipe σ2 vs = σ' ∧ tt σ2 H2 fun b H3 =>
      if b = true then te σ2 H3 fun y H4 => ∃ acc, H4 D = some (.lst acc) ∧ acc.length < sizeLine ∧ Pv (i + 1) (upd H4 D (.lst (acc ++ [y]))) else Pv (i + 1) H3) (hd : ∀ H, Pv xs.length H → Qd H) :
    ∃ W : Nat → Nat → Hp → Prop, (∃ m, W 0 m (upd H1 D (.lst []))) ∧ ∀ i m H, W i m H →
      ((Itn P w d o xs).stop i H ∧ Qd H) ∨ ((Itn P w d o xs).go i H ∧ ∃ Nx : Hp → Prop, (∀ H', Nx H' → ∃ m', m' < m ∧ W (i + 1) m' H') ∧ ∀ x H', (Itn P w d o xs).yld i H x H' → g x (wipe σ vs) H' fun σ2 H2 => wipe σ2 vs = wipe σ vs ∧ tt σ2 H2 fun b H3 =>
        if b = true then te σ2 H3 fun y H4 => ∃ acc, H4 D = some (.lst acc) ∧ acc.length < sizeLine ∧ Nx (upd H4 D (.lst (acc ++ [y]))) else Nx H3) := by
  subst hw
  refine lc_it walk_nkeys Pv h0 hl (fun i x H H' hi p y => ?_) hd
  obtain ⟨rfl, q, hq, rfl⟩ := y
  exact hs i q _ hi hq p
end
section
variable {σ : L2.St} {tt : TT} {te : TE} {g : TG} {vs : List Nat}
theorem lc_rangeW {lo : Int} {n : Nat} {H1 : Hp} {D : Addr} {Qd : Hp → Prop} (σ' : L2.St) (hw : wipe σ vs = σ') (Pv : Nat → Hp → Prop) (h0 : Pv 0 (upd H1 D (.lst [])))
    (hs : ∀ i H, i < n → Pv i H → g (.int (lo + i)) σ' H fun σ2 H2 => wipe σ2 vs = σ' ∧ tt σ2 H2 fun b H3 =>
      if b = true then te σ2 H3 fun y H4 => ∃ acc, H4 D = some (.lst acc) ∧ acc.length < sizeLine ∧ Pv (i + 1) (upd H4 D (.lst (acc ++ [y]))) else Pv (i + 1) H3) (hd : ∀ H, Pv n H → Qd H) :
    ∃ W : Nat → Nat → Hp → Prop, (∃ m, W 0 m (upd H1 D (.lst []))) ∧ ∀ i m H, W i m H →
      ((Itr lo n).stop i H ∧ Qd H) ∨ ((Itr lo n).go i H ∧ ∃ Nx : Hp → Prop, (∀ H', Nx H' → ∃ m', m' < m ∧ W (i + 1) m' H') ∧ ∀ x H', (Itr lo n).yld i H x H' → g x (wipe σ vs) H' fun σ2 H2 => wipe σ2 vs = wipe σ vs ∧ tt σ2 H2 fun b H3 =>
        if b = true then te σ2 H3 fun y H4 => ∃ acc, H4 D = some (.lst acc) ∧ acc.length < sizeLine ∧ Nx (upd H4 D (.lst (acc ++ [y]))) else Nx H3) := by
  subst hw
  exact lc_range Pv h0 hs hd
end
theorem jt_beg {R : List FRow} {x : Str} : jt R x (.tup [.str "begin"]) = true := by simp [jt]
theorem op_catAK {X : Cx} {K : PySem.W.Frag} (hX : X.K = K := by rfl) : OpR X (binaryOp .Add) (rCatA K) := by subst hX; exact op_catA
section
variable {K : PySem.W.Frag} {H : Hp} {Q : VK}
theorem rd_catA {a b : Addr} {xs ys : List V} (ha : SqT K H a xs) (hb : SqT K H b ys) (hz : xs.length + ys.length ≤ 1000000) (h : ∀ (r : Addr) (H' : Hp), SqT K H' r (xs ++ ys) → Same H H' → Q (.ref r) H') : rCatA K (.ref a) (.ref b) H Q := by
  refine ⟨a, b, xs, ys, rfl, rfl, ha, hb, sz_le hz, fun e => h b H (by rw [e]; exact hb) (Same.refl _), fun _ e => h a H (by rw [e, List.append_nil]; exact ha) (Same.refl _), fun _ _ r nr => h r _ (sqt upd_same) (same_new nr)⟩
theorem rd_slTA {a : Addr} {xs : List V} {lo hi : Option Int} (ha : SqT K H a xs) (h : ∀ (r : Addr) (H' : Hp), SqT K H' r (cutV xs lo hi) → Same H H' → Q (.ref r) H') : rSlA K (.ref a) lo hi H Q := by
  refine ⟨a, xs, rfl, ha, fun e => h a H ?_ (Same.refl _), fun _ r nr => h r _ (sqt upd_same) (same_new nr)⟩
  unfold cutV
  rw [e.1, e.2, Nat.sub_zero, List.drop_zero, List.take_length]
  exact ha
end
theorem cut_ths {K : PySem.W.Frag} {p : Addr} {H : Hp} {ts : List Th} {us : List V} (h : IsThs K p H ts us) (lo hi : Option Int) : ∃ ts', IsThs K p H ts' (cutV us lo hi) ∧ ts'.length ≤ ts.length ∧ ∀ t ∈ ts', t ∈ ts := by
  unfold cutV
  exact ⟨_, IsThs.take _ (IsThs.drop _ h), by rw [List.length_take, List.length_drop]; omega, fun t ht => List.mem_of_mem_drop (List.mem_of_mem_take ht)⟩
end HH
namespace HH
open PySem PySem.Spec PyProof.Rows L2 PySem.SeqAt
/-! ### the order of texts, strictly -/
def SLt (a b : Str) : Prop := a.cps.toList < b.cps.toList
theorem SLt.irrefl (a : Str) : ¬ SLt a a := List.lt_irrefl a.cps.toList
theorem SLt.trans {a b c : Str} (h : SLt a b) (g : SLt b c) : SLt a c := List.lt_trans h g
theorem str_eq {a b : Str} (h : a.cps.toList = b.cps.toList) : a = b := by
  cases a; cases b
  simp only [Str.mk.injEq]
  exact Array.toList_inj.mp h
theorem SLt.tri (a b : Str) : SLt a b ∨ a = b ∨ SLt b a := by
  by_cases h : SLt a b
  · exact .inl h
  · by_cases h2 : SLt b a
    · exact .inr (.inr h2)
    · exact .inr (.inl (str_eq (List.le_antisymm (List.not_lt.mp h2) (List.not_lt.mp h))))
theorem strict_of {l : List Str} (h : l.Pairwise fun a b => ¬ SLt b a) (nd : l.Nodup) : l.Pairwise SLt := by
  refine List.Pairwise.imp ?_ (List.Pairwise.and h nd)
  rintro a b ⟨h1, h2⟩
  rcases SLt.tri a b with r | r | r
  · exact r
  · exact absurd r h2
  · exact absurd r h1
theorem rising_pw : ∀ {l : List Str} {p : Str}, risingS p l = true → (p :: l).Pairwise fun a b => ¬ SLt b a
  | [], p, _ => List.pairwise_singleton _ _
  | x :: r, p, h => by
    have h' : (!ltCps x.cps.toList p.cps.toList && risingS x r) = true := h
    rw [Bool.and_eq_true, ltCps_eq] at h'
    have h1 : ¬ SLt x p := by simpa [SLt] using h'.1
    have ih := rising_pw h'.2
    refine List.pairwise_cons.mpr ⟨fun y hy => ?_, ih⟩
    rcases List.mem_cons.mp hy with e | e
    · rw [e]; exact h1
    · have h2 := (List.pairwise_cons.mp ih).1 y e
      intro g
      rcases SLt.tri x p with r | r | r
      · exact h1 r
      · rw [r] at h2; exact h2 g
      · exact h2 (g.trans r)
theorem sorted_pw {l : List Str} (h : sortedS l = true) : l.Pairwise fun a b => ¬ SLt b a := by
  cases l with
  | nil => exact List.Pairwise.nil
  | cons x r => exact rising_pw h
theorem strict_nodup {l : List Str} (h : l.Pairwise SLt) : l.Nodup := h.imp fun r e => by rw [e] at r; exact SLt.irrefl _ r
theorem strict_uniq : ∀ {l m : List Str}, l.Pairwise SLt → m.Pairwise SLt → (∀ z, z ∈ l ↔ z ∈ m) → l = m
  | [], [], _, _, _ => rfl
  | [], b :: m, _, _, h => absurd ((h b).mpr List.mem_cons_self) (by simp)
  | a :: l, [], _, _, h => absurd ((h a).mp List.mem_cons_self) (by simp)
  | a :: l, b :: m, p, q, h => by
    obtain ⟨p1, p2⟩ := List.pairwise_cons.mp p
    obtain ⟨q1, q2⟩ := List.pairwise_cons.mp q
    have e : a = b := by
      rcases List.mem_cons.mp ((h a).mp List.mem_cons_self) with r | r
      · exact r
      · rcases List.mem_cons.mp ((h b).mpr List.mem_cons_self) with s | s
        · exact s.symm
        · exact absurd ((q1 a r).trans (p1 b s)) (SLt.irrefl _)
    subst e
    rw [strict_uniq p2 q2 fun z => ⟨fun hz => ?_, fun hz => ?_⟩]
    · rcases List.mem_cons.mp ((h z).mp (List.mem_cons_of_mem _ hz)) with r | r
      · rw [r] at hz; exact absurd (p1 a hz) (SLt.irrefl _)
      · exact r
    · rcases List.mem_cons.mp ((h z).mpr (List.mem_cons_of_mem _ hz)) with r | r
      · rw [r] at hz; exact absurd (q1 a hz) (SLt.irrefl _)
      · exact r
/-! ### products by the power of each letter -/
structure PT (zs : List Str) (ps : Tab) : Prop where
  st : (ps.map (·.1)).Pairwise SLt
  ge : ∀ q ∈ ps, q.1 ∈ zs ∧ 1 ≤ q.2
theorem PT.nd {zs : List Str} {ps : Tab} (h : PT zs ps) : (ps.map (·.1)).Nodup := strict_nodup h.st
theorem PT.len {zs : List Str} {ps : Tab} (h : PT zs ps) : ps.length ≤ zs.length := by
  have := List.Nodup.length_le_of_subset h.nd (fun y hy => by
    obtain ⟨q, hq, rfl⟩ := List.mem_map.mp hy
    exact (h.ge q hq).1)
  rwa [List.length_map] at this
/-- the power of a letter -/
def sw (ps : Tab) (y : Str) : Int := (ps.map fun q => if q.1 = y then q.2 else 0).sum
theorem sw_nil (y : Str) : sw [] y = 0 := rfl
theorem sw_cons (q : Str × Int) (ps : Tab) (y : Str) : sw (q :: ps) y = (if q.1 = y then q.2 else 0) + sw ps y := by simp [sw]
theorem sw_app (ps qs : Tab) (y : Str) : sw (ps ++ qs) y = sw ps y + sw qs y := by
  induction ps with
  | nil => simp [sw_nil]
  | cons q ps ih => rw [List.cons_append, sw_cons, sw_cons, ih]; omega
theorem sw_perm {ps qs : Tab} (h : ps.Perm qs) (y : Str) : sw ps y = sw qs y := perm_sum (h.map _)
theorem sw_out {ps : Tab} {y : Str} (h : y ∉ ps.map (·.1)) : sw ps y = 0 := by
  induction ps with
  | nil => rfl
  | cons q ps ih =>
    rw [List.map_cons, List.mem_cons, not_or] at h
    rw [sw_cons, if_neg (fun e => h.1 e.symm), ih h.2]; rfl
theorem sw_get {ps : Tab} (nd : (ps.map (·.1)).Nodup) (y : Str) : sw ps y = (tget ps y).getD 0 := by
  induction ps with
  | nil => rfl
  | cons q ps ih =>
    rw [List.map_cons, List.nodup_cons] at nd
    rw [sw_cons]
    by_cases e : q.1 = y
    · rw [if_pos e, tget_cons_pos e, sw_out (by rw [← e]; exact nd.1)]; simp
    · rw [if_neg e, tget_cons_neg e, ih nd.2]; simp
theorem sw_upd {m : Tab} (nd : (m.map (·.1)).Nodup) {z : Str} (h : z ∈ m.map (·.1)) (n : Int) (y : Str) : sw (m.map fun q => if q.1 = z then (q.1, n) else q) y = sw m y + if y = z then n - sw m z else 0 := by
  induction m with
  | nil => simp at h
  | cons q m ih =>
    rw [List.map_cons, List.nodup_cons] at nd
    rw [List.map_cons, sw_cons, sw_cons, sw_cons]
    by_cases e : q.1 = z
    · have hz : z ∉ m.map (·.1) := by rw [← e]; exact nd.1
      have em : (m.map fun q => if q.1 = z then (q.1, n) else q) = m := by
        refine (List.map_congr_left fun p hp => ?_).trans (List.map_id _)
        rw [if_neg]
        · rfl
        · intro e2; exact hz (by rw [← e2]; exact List.mem_map_of_mem hp)
      rw [em, if_pos e]
      have e3 := sw_out hz
      by_cases c : y = z
      · subst c
        simp only [e, if_true, e3]
        omega
      · have c2 : ¬ z = y := fun w => c w.symm
        simp only [e, c, c2, if_false]
        omega
    · have hz : z ∈ m.map (·.1) := by
        rcases List.mem_cons.mp (show z ∈ q.1 :: m.map (·.1) from h) with r | r
        · exact absurd r.symm e
        · exact r
      simp only [e, if_false]
      rw [ih nd.2 hz]
      by_cases c : y = z
      · rw [if_pos c, if_pos c]; omega
      · rw [if_neg c, if_neg c]; omega
/-- a letter's power grows -/
theorem sw_acc {m : Tab} (nd : (m.map (·.1)).Nodup) (z : Str) (n : Int) (y : Str) : sw (tput m z ((tget m z).getD 0 + n)) y = sw m y + if y = z then n else 0 := by
  rw [← sw_get nd z]
  unfold tput
  by_cases h : z ∈ m.map (·.1)
  · rw [if_pos h, sw_upd nd h]
    by_cases c : y = z
    · rw [if_pos c, if_pos c]; omega
    · rw [if_neg c, if_neg c]
  · rw [if_neg h, sw_app, sw_cons, sw_nil, sw_out h]
    by_cases c : y = z
    · rw [if_pos c, if_pos c.symm]; omega
    · rw [if_neg c, if_neg (fun w => c w.symm)]; omega
theorem PT.mem {zs : List Str} {ps : Tab} (h : PT zs ps) (y : Str) : y ∈ ps.map (·.1) ↔ 1 ≤ sw ps y := by
  rw [sw_get h.nd]
  constructor
  · intro hy
    obtain ⟨n, hn⟩ := Option.isSome_iff_exists.mp (tget_some.mpr hy)
    rw [hn]
    exact (h.ge _ (tget_mem hn)).2
  · intro h1
    cases e : tget ps y with
    | none => rw [e] at h1; simp at h1
    | some n => exact tget_some.mp (by rw [e]; rfl)
/-- one product has these powers -/
theorem PT.uniq {zs : List Str} {ps qs : Tab} (h : PT zs ps) (g : PT zs qs) (e : ∀ y, sw ps y = sw qs y) : ps = qs := by
  have k : ps.map (·.1) = qs.map (·.1) := strict_uniq h.st g.st fun y => by rw [h.mem, g.mem, e]
  have self : ∀ {t : Tab}, (t.map (·.1)).Nodup → t = (t.map (·.1)).map fun y => (y, sw t y) := by
    intro t nd
    rw [List.map_map]
    refine ((List.map_congr_left fun q hq => ?_).trans (List.map_id t)).symm
    show (q.1, sw t q.1) = q
    rw [sw_get nd, mem_tget nd (show (q.1, q.2) ∈ t from hq)]
    rfl
  rw [self h.nd, self g.nd, k]
  exact List.map_congr_left fun y _ => by rw [e]
theorem PT.sub {zs ws : List Str} {ps : Tab} (h : PT zs ps) (s : ∀ z ∈ zs, z ∈ ws) : PT ws ps := ⟨h.st, fun q hq => ⟨s _ (h.ge q hq).1, (h.ge q hq).2⟩⟩
theorem sw_nn {zs : List Str} {ps : Tab} (h : ∀ q ∈ ps, q.1 ∈ zs ∧ 1 ≤ q.2) (y : Str) : 0 ≤ sw ps y := by
  induction ps with
  | nil => exact Int.le_refl _
  | cons q ps ih =>
    rw [sw_cons]
    have h1 := (h q List.mem_cons_self).2
    have h2 := ih fun x hx => h x (List.mem_cons_of_mem _ hx)
    split <;> omega
/-- a table of powers while it grows -/
structure MT (zs : List Str) (m : Tab) : Prop where
  nd : (m.map (·.1)).Nodup
  ge : ∀ q ∈ m, q.1 ∈ zs ∧ 1 ≤ q.2
theorem MT.nil {zs : List Str} : MT zs [] := ⟨List.nodup_nil, by simp⟩
theorem PT.mt {zs : List Str} {ps : Tab} (h : PT zs ps) : MT zs ps := ⟨h.nd, h.ge⟩
theorem MT.len {zs : List Str} {m : Tab} (h : MT zs m) : m.length ≤ zs.length := by
  have := List.Nodup.length_le_of_subset h.nd (fun y hy => by
    obtain ⟨q, hq, rfl⟩ := List.mem_map.mp hy
    exact (h.ge q hq).1)
  rwa [List.length_map] at this
theorem MT.acc {zs : List Str} {m : Tab} (h : MT zs m) {z : Str} {n : Int} (hz : z ∈ zs) (hn : 1 ≤ n) : MT zs (tput m z ((tget m z).getD 0 + n)) := by
  refine ⟨tput_nodup h.nd, fun q hq => ?_⟩
  rcases mem_tput hq with r | r
  · exact h.ge q r
  · rw [r]
    refine ⟨hz, ?_⟩
    have : 0 ≤ (tget m z).getD 0 := by rw [← sw_get h.nd]; exact sw_nn h.ge z
    simp only
    omega
/-- the table, sorted by items -/
theorem MT.sorted {zs : List Str} {m qs : Tab} (h : MT zs m) (pm : qs.Perm m) (pw : (qs.map pairK).Pairwise fun a b => ltK b a = false) : PT zs qs := by
  have nd : (qs.map (·.1)).Nodup := (pm.map _).nodup_iff.mpr h.nd
  refine ⟨?_, fun q hq => h.ge q (pm.mem_iff.mp hq)⟩
  have h1 : qs.Pairwise fun a b => ltK (pairK b) (pairK a) = false := List.pairwise_map.mp pw
  have h2 : qs.Pairwise fun a b => a.1 ≠ b.1 := List.pairwise_map.mp nd
  refine List.pairwise_map.mpr (List.Pairwise.imp ?_ (List.Pairwise.and h1 h2))
  rintro a b ⟨g1, g2⟩
  have g3 : ¬ SLt b.1 a.1 := by
    intro z
    simp only [pairK, ltK, ltL] at g1
    rw [if_neg (fun e => g2 (by injection e with e; exact e.symm))] at g1
    exact of_decide_eq_false g1 z
  rcases SLt.tri a.1 b.1 with r | r | r
  · exact r
  · exact absurd r g2
  · exact absurd r g3
/-- the table, its keys sorted -/
theorem MT.keyed {zs : List Str} {m : Tab} (h : MT zs m) {ys : List Str} (pm : ys.Perm (m.map (·.1))) (so : sortedS ys = true) : PT zs (ys.map fun y => (y, (tget m y).getD 0)) ∧ (ys.map fun y => (y, (tget m y).getD 0)).Perm m := by
  have pp := tab_perm h.nd pm
  refine ⟨⟨?_, fun q hq => h.ge q (pp.mem_iff.mp hq)⟩, pp⟩
  rw [List.map_map]
  have e : (ys.map ((fun x => x.1) ∘ fun y => (y, (tget m y).getD 0))) = ys := List.map_id' _
  rw [e]
  exact strict_of (sorted_pw so) (pm.nodup_iff.mpr h.nd)
end HH
namespace HH
open PySem PySem.Spec PyProof.Rows L2 PySem.SeqAt
/-! ### trees' products -/
mutual
def tp (R : List FRow) (x : Str) : Th → Str → Int
  | .tup [.str _, .int i, .tup ts], y => match R[i.toNat]? with
    | some r => tps R r.ps ts y + (if r.add = true ∧ y = "#" then 1 else 0)
    | none => 0
  | _, y => if y = x then 1 else 0
def tps (R : List FRow) (ps : Tab) : List Th → Str → Int
  | [], _ => 0
  | t :: ts, y => match ps with
    | [] => 0
    | q :: ps => q.2 * tp R q.1 t y + tps R ps ts y
end
theorem tp_beg {R : List FRow} {x y : Str} : tp R x (.tup [.str "begin"]) y = if y = x then 1 else 0 := by simp [tp]
theorem tp_row {R : List FRow} {x y : Str} {k : Nat} {r : FRow} {ts : List Th} (h : R[k]? = some r) : tp R x (.tup [.str "row", .int (k : Int), .tup ts]) y = tps R r.ps ts y + (if r.add = true ∧ y = "#" then 1 else 0) := by
  simp only [tp, Int.toNat_natCast, h]
theorem tps_snoc {R : List FRow} {y : Str} {q : Str × Int} {t : Th} : ∀ {ps : Tab} {ts : List Th}, ps.length = ts.length → tps R (ps ++ [q]) (ts ++ [t]) y = tps R ps ts y + q.2 * tp R q.1 t y
  | [], [], _ => by simp [tps]
  | [], _ :: _, e => by simp at e
  | _ :: _, [], e => by simp at e
  | p :: ps, s :: ts, e => by
    have ih := tps_snoc (R := R) (y := y) (q := q) (t := t) (ps := ps) (ts := ts) (by simpa using e)
    simp only [List.cons_append, tps, ih]
    omega
theorem tps_take {R : List FRow} {y : Str} {ps : Tab} {ts : List Th} {i : Nat} (e : ps.length = ts.length) (h : i < ps.length) (h2 : i < ts.length) : tps R (ps.take (i + 1)) (ts.take (i + 1)) y = tps R (ps.take i) (ts.take i) y + ps[i].2 * tp R ps[i].1 ts[i] y := by
  rw [List.take_add_one, List.take_add_one, List.getElem?_eq_getElem h, List.getElem?_eq_getElem h2]
  exact tps_snoc (by rw [List.length_take, List.length_take]; omega)
/-- the sum over the names so far -/
def gsum (P : Tab) (g : Nat → Str → Int) : Nat → Str → Int
  | 0, _ => 0
  | n + 1, y => gsum P g n y + ((P[n]?).map (·.2)).getD 0 * g n y
theorem gsum_tps {R : List FRow} {P : Tab} {ts : List Th} {g : Nat → Str → Int} (e : P.length = ts.length) (h : ∀ (j : Nat) (hj : j < P.length) (hj2 : j < ts.length) (y : Str), g j y = tp R P[j].1 ts[j] y) (y : Str) :
    ∀ n, n ≤ P.length → gsum P g n y = tps R (P.take n) (ts.take n) y
  | 0, _ => by simp [gsum, tps]
  | n + 1, hn => by
    have h1 : n < P.length := hn
    have h2 : n < ts.length := by omega
    rw [tps_take e h1 h2, gsum, gsum_tps e h y n (by omega), List.getElem?_eq_getElem h1, h n h1 h2 y]
    rfl
/-! ### a product whose tuple's object is known -/
def IsZ (K : PySem.W.Frag) (H : Hp) (ps : Tab) (a : Addr) : Prop := ∃ as : List Addr, ZT H a (as.map V.ref) ∧ IsKs K H (ps.map pairK) (as.map V.ref)
theorem IsZ.isK {K : PySem.W.Frag} {H : Hp} {ps : Tab} {a : Addr} (h : IsZ K H ps a) : IsK K H (prodK ps) (.ref a) := let ⟨as, z, k⟩ := h; ⟨a, _, rfl, z.seq, k⟩
theorem refs_of {K : PySem.W.Frag} {H : Hp} : ∀ {ps : Tab} {vs : List V}, IsKs K H (ps.map pairK) vs → ∃ as : List Addr, vs = as.map V.ref
  | [], vs, h => ⟨[], h⟩
  | q :: ps, _, ⟨v, r, e, hv, hr⟩ => by
    obtain ⟨a, rfl, _⟩ := pair_at hv
    obtain ⟨as, rfl⟩ := refs_of hr
    exact ⟨a :: as, e⟩
theorem paired_of {K : PySem.W.Frag} {H : Hp} : ∀ {ps : Tab} {as : List Addr}, IsKs K H (ps.map pairK) (as.map V.ref) → Paired (fun p (kv : Key × V) => SqT K H p [kV kv.1, kv.2]) as (tabV ps)
  | [], as, h => by
    have e : as = [] := List.map_eq_nil_iff.mp (show as.map V.ref = [] from h)
    rw [e]; exact .nil
  | q :: ps, [], ⟨v, r, e, _, _⟩ => nomatch e
  | q :: ps, a :: as, ⟨v, r, e, hv, hr⟩ => by
    rw [List.map_cons, List.cons.injEq] at e
    obtain ⟨rfl, rfl⟩ := e
    obtain ⟨a', ea, s⟩ := pair_at hv
    obtain rfl := V.ref.inj ea
    exact .cons s (paired_of hr)
theorem merge_tab : ∀ {ps m : Tab}, ((m ++ ps).map (·.1)).Nodup → mergeK (tabV m) (tabV ps) = tabV (m ++ ps)
  | [], m, _ => by rw [List.append_nil]; rfl
  | q :: ps, m, nd => by
    show mergeK (putK (tabV m) (Sum.inr q.1) (V.int q.2)) (tabV ps) = _
    have hq : q.1 ∉ m.map (·.1) := by
      rw [List.map_append, List.map_cons] at nd
      intro h
      exact (List.nodup_append.mp nd).2.2 _ h _ List.mem_cons_self rfl
    rw [putK_tab, show tput m q.1 q.2 = m ++ [q] by unfold tput; rw [if_neg hq], merge_tab (m := m ++ [q]) (by rw [List.append_assoc]; exact nd), List.append_assoc]
    rfl
theorem rd_bm0 {σ : L2.St} {H : Hp} {Q : VK} {K : PySem.W.Frag} {T : String} {r : V → List V → Hp → VK → Prop} {te : TE} (h : te σ H fun x H1 => tyV K T x H1 ∧ r x [] H1 Q) : tBM0 K T r te σ H Q := h
theorem rd_items {H : Hp} {Q : VK} {K : PySem.W.Frag} {a : Addr} {m : Tab} (ha : H a = some (.dK (tabV m))) (h : ∀ p, H p = none → Q (.ref p) (upd H p (DX.itemsO p a))) : tyV K "dict" (.ref a) H ∧ rItemsK (.ref a) [] H Q :=
  ⟨.inr (.inr (.inl ⟨rfl, .inl ⟨_, ha⟩⟩)), a, m, rfl, rfl, ha, h⟩
section
variable {σ : L2.St} {H : Hp} {Q : VK} {tt : TT} {tk tv : TE} {g : TG} {wi : TI} {vs : List Nat}
theorem rd_dc (h : wi σ H fun J H1 => ∀ D, H1 D = none → ∃ W : Nat → Nat → Hp → Prop, (∃ m, W 0 m (upd H1 D (.dK []))) ∧ ∀ i m H, W i m H →
  (J.stop i H ∧ Q (.ref D) H) ∨ (J.go i H ∧ ∃ Nx : Hp → Prop, (∀ H', Nx H' → ∃ m', m' < m ∧ W (i + 1) m' H') ∧ ∀ x H', J.yld i H x H' → g x (wipe σ vs) H' fun σ2 H2 => wipe σ2 vs = wipe σ vs ∧ tt σ2 H2 fun b H3 =>
    if b = true then tk σ2 H3 fun y H4 => tv σ2 H4 fun z H5 => ∃ kvs k, y = kV k ∧ H5 D = some (.dK kvs) ∧ kvs.length < sizeLine ∧ Nx (upd H5 D (.dK (putK kvs k z))) else Nx H3)) : tDc wi g tt tk tv vs σ H Q := h
/-- a dict comprehension over zip of two tuples of one length -/
theorem dc_zipT {K : PySem.W.Frag} {a b : Addr} {xs ys : List V} {H1 : Hp} {D : Addr} {Qd : Hp → Prop} (hl : xs.length = ys.length) (σ' : L2.St) (hw : wipe σ vs = σ') (Pv : Nat → Hp → Prop) (h0 : Pv 0 (upd H1 D (.dK []))) (hq : ∀ i H, Pv i H → SqT K H a xs ∧ SqT K H b ys)
    (hs : ∀ i x y T H, xs[i]? = some x → ys[i]? = some y → Pv i H → H T = none → g (.ref T) σ' (upd H T (.tup [x, y])) fun σ2 H2 => wipe σ2 vs = σ' ∧ tt σ2 H2 fun b H3 =>
      if b = true then tk σ2 H3 fun y H4 => tv σ2 H4 fun z H5 => ∃ kvs k, y = kV k ∧ H5 D = some (.dK kvs) ∧ kvs.length < sizeLine ∧ Pv (i + 1) (upd H5 D (.dK (putK kvs k z))) else Pv (i + 1) H3) (hd : ∀ H, Pv xs.length H → Qd H) :
    ∃ W : Nat → Nat → Hp → Prop, (∃ m, W 0 m (upd H1 D (.dK []))) ∧ ∀ i m H, W i m H →
      ((RZ.ItzT K a b).stop i H ∧ Qd H) ∨ ((RZ.ItzT K a b).go i H ∧ ∃ Nx : Hp → Prop, (∀ H', Nx H' → ∃ m', m' < m ∧ W (i + 1) m' H') ∧ ∀ x H', (RZ.ItzT K a b).yld i H x H' → g x (wipe σ vs) H' fun σ2 H2 => wipe σ2 vs = wipe σ vs ∧ tt σ2 H2 fun b H3 =>
        if b = true then tk σ2 H3 fun y H4 => tv σ2 H4 fun z H5 => ∃ kvs k, y = kV k ∧ H5 D = some (.dK kvs) ∧ kvs.length < sizeLine ∧ Nx (upd H5 D (.dK (putK kvs k z))) else Nx H3) := by
  subst hw
  refine ⟨fun i m H => m = xs.length - i ∧ i ≤ xs.length ∧ Pv i H, ⟨xs.length, by simp, Nat.zero_le _, h0⟩, ?_⟩
  rintro i m H ⟨rfl, hi, p⟩
  obtain ⟨qx, qy⟩ := hq i H p
  by_cases hlt : i < xs.length
  · have hlt2 : i < ys.length := by omega
    have hx : xs[i]? = some xs[i] := List.getElem?_eq_getElem hlt
    have hy : ys[i]? = some ys[i] := List.getElem?_eq_getElem hlt2
    refine .inr ⟨⟨xs, ys, _, _, qx, qy, hx, hy⟩, Pv (i + 1), fun H' p' => ⟨xs.length - (i + 1), by omega, rfl, hlt, p'⟩, fun v H' y => ?_⟩
    obtain ⟨T, x', y', rfl, hT, rfl, f1, f2⟩ := y
    exact hs i x' y' T H (f1 xs qx) (f2 ys qy) p hT
  · have e : i = xs.length := by omega
    subst e
    exact .inl ⟨⟨xs, ys, qx, qy, Or.inl (Nat.le_refl _)⟩, hd H p⟩
theorem rd_ifE {tc : TT} {ta tb : TE} (h : tc σ H fun b H1 => if b = true then ta σ H1 Q else tb σ H1 Q) : tIf tc ta tb σ H Q := h
end
/-- the same letter by letter -/
theorem sw_map {ps : Tab} {n : Int} (y : Str) : sw (ps.map fun q => (q.1, q.2 * n)) y = n * sw ps y := by
  induction ps with
  | nil => simp [sw]
  | cons q ps ih =>
    rw [List.map_cons, sw_cons, sw_cons, ih]
    by_cases c : q.1 = y
    · simp only [c, if_true]
      rw [Int.mul_add, Int.mul_comm]
    · simp only [c, if_false]
      rw [Int.zero_add, Int.zero_add]
end HH
namespace HH
open PySem PySem.Spec PyProof.Rows L2 PySem.SeqAt
mutual
/-- no tuple in it is long -/
def wide : NestedKey → Bool
  | .tup ks => decide (ks.length ≤ 1000) && wides ks
  | .none => false
  | _ => true
def wides : List NestedKey → Bool
  | [] => true
  | k :: ks => wide k && wides ks
end
theorem wides_mem : ∀ {ks : List NestedKey} {k : NestedKey}, wides ks = true → k ∈ ks → wide k = true
  | x :: ks, k, h, hk => by
    rw [wides, Bool.and_eq_true] at h
    rcases List.mem_cons.mp hk with r | r
    · rw [r]; exact h.1
    · exact wides_mem h.2 r
theorem wide_prod {ps : Tab} (h : ps.length ≤ 1000) : wide (prodK ps) = true := by
  rw [prodK, wide, Bool.and_eq_true, List.length_map]
  refine ⟨decide_eq_true h, ?_⟩
  clear h
  induction ps with
  | nil => simp [wides]
  | cons q ps ih => simp [wides, wide, ih]
end HH
namespace HH
open PySem PySem.Spec PyProof.Rows L2 PySem.SeqAt
theorem sw_trueD {kx vx : Expr} {gs : List Comprehension} {scope : Scope} {pos py : Pos} {y : Str} {l : Nat} {env : Env} (hk : env.scope.kind = .function) (hy : env.scope.names.lookup y = some .local) (hl : (py.line == pos.line) = true)
    (ha : (scope.names.any fun (n, k) => n == y && (k == .local || k == .cell)) = false) : swapsWith (.DictComp kx vx gs scope pos) (some (.Name y py)) l env = pure true := by
  have ky : env.kindOf y = some .local := hy
  have hb : env.blockKind = .function := by unfold Env.blockKind; rw [hk]; rfl
  unfold swapsWith
  simp only [hb, ky, ha, Expr.pos, hl]
  rfl
section
variable {X : Cx}
/-- y = {k: v for ..}, a statement of its own -/
theorem ps_setDc {i : Nat} {y : Str} {py : Pos} {kx vx tg iter : Expr} {ifs : List Expr} {scope : Scope} {own : List (Str × Nat)} {pos spos : Pos} {wi : TI} {g : TG} {tt : TT} {tk tv : TE} (hc : X.calm = true) (hN : X.N.Nodup) (hy : X.N[i]? = some y) (hyl : X.env.scope.names.lookup y = some .local)
    (hsw : swapsWith (.DictComp kx vx [⟨tg, iter, ifs, 0⟩] scope pos) (some (.Name y py)) spos.line X.env = pure true) (hi : PI X tg iter wi) (ok : BlkOk X.N X.env.scope scope own)
    (hg : ∀ (s : Shared) (H : Hp) (C : Addr) (cl : List (Str × Addr)) (fp : List Addr), PG (X.blk s H scope (compEnvC scope cl C X.env) fp) tg g) (ht : ∀ (s : Shared) (H : Hp) (C : Addr) (cl : List (Str × Addr)) (fp : List Addr), PTs (X.blk s H scope (compEnvC scope cl C X.env) fp) ifs tt)
    (hk : ∀ (s : Shared) (H : Hp) (C : Addr) (cl : List (Str × Addr)) (fp : List Addr), PE (X.blk s H scope (compEnvC scope cl C X.env) fp) kx tk)
    (he : ∀ (s : Shared) (H : Hp) (C : Addr) (cl : List (Str × Addr)) (fp : List Addr), PE (X.blk s H scope (compEnvC scope cl C X.env) fp) vx tv) (hs : ∀ x, foldedSetIterable iter X.env x = pure x := by intro _; rfl) :
    PS X (.Assign [.Name y py] (.DictComp kx vx [⟨tg, iter, ifs, 0⟩] scope pos) spos) (tAsg (tDc wi g tt tk tv (own.map (·.2))) (gName i)) := by
  refine ⟨fun pins s σ H D I h => ?_⟩
  rw [exec_Assign_Name_used _ _ _ _ hsw]
  refine wpAny_bind (wpAny_standAt (wpAny_bind ?_))
  show wpAny _ X.A (do let _ ← comprehension (.DictComp kx vx [⟨tg, iter, ifs, 0⟩] scope pos) scope X.env (firstIterPos [⟨tg, iter, ifs, 0⟩] pos) newDict false (eval iter X.env) (some (assign (.Name y py) X.env))) _ _ s
  have h : tDc wi g tt tk tv (own.map (·.2)) σ H (fun x H1 => gName i x σ H1 D.nx) := h
  refine wpAny_bind (thn (dc_core (Qf := fun _ s' => SP X pins D .next s') hc hN I hi ok hg ht hk he hs h fun L C s' m H' I' q hn f => ?_) fun _ s' hq => wpAny_pure (wpAny_pure hq))
  show wpAny _ _ (assign (.Name y py) X.env (.ref L)) _ _ _
  refine wpAny_assign_Name (store_ok2 (v := V.ref L) I' hN hy (.inl hyl) rfl (fun s2 I2 ⟨a, sb, ha⟩ => ?_) (.inr hyl))
  obtain ⟨f0, f1, f2, f3, f4, f5⟩ := f
  have haC : C ≠ a := by
    rcases ha with z | z
    · rw [z]; exact f1
    · exact fun e => f4 y a z e.symm
  refine ⟨m, hn.sameBut sb haC, fun h3 sb3 => ?_⟩
  exact ⟨_, H', I2.turned (t' := s2.toks) (fun b o hb e => (sb3.2 b hb).trans e) f0 f1 f3 f4 f5, q⟩
end
end HH
namespace HH
open PySem PySem.Spec PyProof.Rows L2 PySem.SeqAt
/-! ### what is handed on -/
def Edge (R : List FRow) (x g : Str) : Prop := ∃ r ∈ R, r.nm = x ∧ g ∈ r.ps.map (·.1)
def TC (R : List FRow) : Str → Str → Prop := Relation.TransGen (Edge R)
theorem TC.trans {R : List FRow} {a b c : Str} (h : TC R a b) (g : TC R b c) : TC R a c := by
  induction g with
  | single e => exact .tail h e
  | tail _ e ih => exact .tail ih e
theorem TC.head {R : List FRow} {a b c : Str} (h : Edge R a b) (g : TC R b c) : TC R a c := TC.trans (.single h) g
/-- the names of the rows are these -/
def RowsN (xs : List Str) (R : List FRow) : Prop := ∀ r ∈ R, r.nm ∈ xs ∧ ∀ q ∈ r.ps, q.1 ∈ xs
theorem Edge.mem {xs : List Str} {R : List FRow} (h : RowsN xs R) {a b : Str} (e : Edge R a b) : a ∈ xs ∧ b ∈ xs := by
  obtain ⟨r, hr, rfl, hg⟩ := e
  obtain ⟨q, hq, rfl⟩ := List.mem_map.mp hg
  exact ⟨(h r hr).1, (h r hr).2 q hq⟩
theorem TC.mem {xs : List Str} {R : List FRow} (h : RowsN xs R) {a b : Str} (e : TC R a b) : b ∈ xs := by
  cases e with
  | single e => exact (e.mem h).2
  | tail _ e => exact (e.mem h).2
/-! ### parts, in their order -/
open Classical in
noncomputable def partOf (r : Str → Str → Prop) (xs : List Str) (x : Str) : List Str := xs.filter fun o => decide (o = x ∨ (r x o ∧ r o x))
open Classical in
theorem mem_part {r : Str → Str → Prop} {xs : List Str} {x o : Str} : o ∈ partOf r xs x ↔ o ∈ xs ∧ (o = x ∨ (r x o ∧ r o x)) := by
  unfold partOf
  rw [List.mem_filter, decide_eq_true_eq]
noncomputable def leftAcc (r : Str → Str → Prop) (xs : List Str) : List Str → List (List Str) → List (List Str)
  | [], acc => acc
  | x :: l, acc => if partOf r xs x ∈ acc then leftAcc r xs l acc else leftAcc r xs l (acc ++ [partOf r xs x])
/-- the parts, one for each of the first i names that has a new one -/
noncomputable def leftL (r : Str → Str → Prop) (xs : List Str) (i : Nat) : List (List Str) := leftAcc r xs (xs.take i) []
theorem leftAcc_app (r : Str → Str → Prop) (xs : List Str) : ∀ (l m : List Str) (acc : List (List Str)), leftAcc r xs (l ++ m) acc = leftAcc r xs m (leftAcc r xs l acc)
  | [], m, acc => rfl
  | x :: l, m, acc => by
    rw [List.cons_append, leftAcc, leftAcc]
    split
    · exact leftAcc_app r xs l m acc
    · exact leftAcc_app r xs l m _
theorem leftL_succ {r : Str → Str → Prop} {xs : List Str} {i : Nat} (h : i < xs.length) : leftL r xs (i + 1) = if partOf r xs xs[i] ∈ leftL r xs i then leftL r xs i else leftL r xs i ++ [partOf r xs xs[i]] := by
  unfold leftL
  rw [List.take_add_one, List.getElem?_eq_getElem h, Option.toList_some, leftAcc_app]
  rfl
theorem leftL_facts {r : Str → Str → Prop} {xs : List Str} : ∀ i, i ≤ xs.length → (leftL r xs i).Nodup ∧ (leftL r xs i).length ≤ i ∧ (∀ p ∈ leftL r xs i, ∃ x ∈ xs, p = partOf r xs x) ∧ ∀ (j : Nat) (h : j < xs.length), j < i → partOf r xs xs[j] ∈ leftL r xs i
  | 0, _ => ⟨List.nodup_nil, Nat.le_refl _, by simp [leftL, leftAcc], fun j h hj => absurd hj (Nat.not_lt_zero _)⟩
  | i + 1, hi => by
    obtain ⟨h1, h2, h3, h4⟩ := leftL_facts (r := r) (xs := xs) i (by omega)
    rw [leftL_succ hi]
    by_cases c : partOf r xs xs[i] ∈ leftL r xs i
    · rw [if_pos c]
      refine ⟨h1, Nat.le_succ_of_le h2, h3, fun j h hj => ?_⟩
      rcases Nat.lt_succ_iff_lt_or_eq.mp hj with z | z
      · exact h4 j h z
      · subst z; exact c
    · rw [if_neg c]
      refine ⟨List.nodup_append.mpr ⟨h1, List.nodup_cons.mpr ⟨List.not_mem_nil, List.nodup_nil⟩, fun a ha b hb e => ?_⟩, by rw [List.length_append]; exact Nat.succ_le_succ h2, fun p hp => ?_, fun j h hj => ?_⟩
      · rw [List.mem_singleton.mp hb] at e
        rw [e] at ha; exact c ha
      · rcases List.mem_append.mp hp with z | z
        · exact h3 p z
        · rw [List.mem_singleton.mp z]; exact ⟨_, List.getElem_mem hi, rfl⟩
      · rcases Nat.lt_succ_iff_lt_or_eq.mp hj with z | z
        · exact List.mem_append_left _ (h4 j h z)
        · subst z; exact List.mem_append_right _ List.mem_cons_self
/-- all parts of these names -/
structure AllParts (r : Str → Str → Prop) (xs : List Str) (W : List (List Str)) : Prop where
  tr : ∀ a b c, r a b → r b c → r a c
  inn : ∀ a b, r a b → b ∈ xs
  nd : W.Nodup
  le : W.length ≤ xs.length
  is : ∀ p ∈ W, ∃ x ∈ xs, p = partOf r xs x
  all : ∀ x ∈ xs, partOf r xs x ∈ W
theorem allParts {r : Str → Str → Prop} {xs : List Str} (tr : ∀ a b c, r a b → r b c → r a c) (inn : ∀ a b, r a b → b ∈ xs) : AllParts r xs (leftL r xs xs.length) := by
  obtain ⟨h1, h2, h3, h4⟩ := leftL_facts (r := r) (xs := xs) xs.length (Nat.le_refl _)
  refine ⟨tr, inn, h1, h2, h3, fun x hx => ?_⟩
  obtain ⟨j, hj, rfl⟩ := List.getElem_of_mem hx
  exact h4 j hj hj
def hd (p : List Str) : Str := p.headD ""
theorem hd_mem {p : List Str} (h : p ≠ []) : hd p ∈ p := by
  cases p with
  | nil => exact absurd rfl h
  | cons a l => exact List.mem_cons_self
theorem part_ne {r : Str → Str → Prop} {xs : List Str} {x : Str} (h : x ∈ xs) : partOf r xs x ≠ [] := fun e => by
  have : x ∈ partOf r xs x := mem_part.mpr ⟨h, .inl rfl⟩
  rw [e] at this; cases this
open Classical in
noncomputable def rdy (r : Str → Str → Prop) (placed : List Str) (p : List Str) : Bool := decide (∀ g, r (hd p) g → g ∈ placed ∨ g ∈ p)
open Classical in
theorem rdy_iff {r : Str → Str → Prop} {placed : List Str} {p : List Str} : rdy r placed p = true ↔ ∀ g, r (hd p) g → g ∈ placed ∨ g ∈ p := by
  unfold rdy
  rw [decide_eq_true_eq]
/-- what is chosen among parts -/
def encP (p : List Str) : PyData := .tuple (p.map PyData.str)
def minP (q : List Str) (qs : List (List Str)) : List Str := qs.foldl (fun a y => if PySem.W.dataLt (encP y) (encP a) then y else a) q
theorem minD_enc (q : List Str) (qs : List (List Str)) : PySem.W.minD (encP q) (qs.map encP) = encP (minP q qs) := by
  unfold PySem.W.minD minP
  induction qs generalizing q with
  | nil => rfl
  | cons y qs ih =>
    rw [List.map_cons, List.foldl_cons, List.foldl_cons]
    by_cases c : PySem.W.dataLt (encP y) (encP q) = true
    · rw [if_pos c, if_pos c]; exact ih y
    · rw [if_neg c, if_neg c]; exact ih q
theorem minP_mem (q : List Str) (qs : List (List Str)) : minP q qs ∈ q :: qs := by
  unfold minP
  induction qs generalizing q with
  | nil => exact List.mem_cons_self
  | cons y qs ih =>
    rw [List.foldl_cons]
    by_cases c : PySem.W.dataLt (encP y) (encP q) = true
    · rw [if_pos c]; exact List.mem_cons_of_mem _ (ih y)
    · rw [if_neg c]
      rcases List.mem_cons.mp (ih q) with z | z
      · rw [z]; exact List.mem_cons_self
      · exact List.mem_cons_of_mem _ (List.mem_cons_of_mem _ z)
def least : List (List Str) → List Str
  | [] => []
  | q :: qs => minP q qs
theorem least_mem {ps : List (List Str)} (h : ps ≠ []) : least ps ∈ ps := by
  cases ps with
  | nil => exact absurd rfl h
  | cons q qs => exact minP_mem q qs
/-- the parts one behind the other, those that wait and what stands already -/
noncomputable def ordL (r : Str → Str → Prop) : Nat → List (List Str) → List Str → List (List Str)
  | 0, _, _ => []
  | n + 1, w, pl => least (w.filter (rdy r pl)) :: ordL r n (w.erase (least (w.filter (rdy r pl)))) (pl ++ least (w.filter (rdy r pl)))
/-- what waits and what stands fit -/
structure OI (W waiting : List (List Str)) (placed : List Str) : Prop where
  sub : ∀ p ∈ waiting, p ∈ W
  nd : waiting.Nodup
  cov : ∀ p ∈ W, p ∈ waiting ∨ ∀ z ∈ p, z ∈ placed
theorem filter_lt {α : Type} {p q : α → Bool} : ∀ {l : List α}, (∀ x, p x = true → q x = true) → (∃ x ∈ l, q x = true ∧ p x = false) → (l.filter p).length < (l.filter q).length
  | [], _, ⟨_, h, _⟩ => nomatch h
  | a :: l, hs, ⟨x, hx, h1, h2⟩ => by
    have le : (l.filter p).length ≤ (l.filter q).length := by
      clear hx
      induction l with
      | nil => exact Nat.le_refl _
      | cons b l ih =>
        rw [List.filter_cons, List.filter_cons]
        by_cases c : p b = true
        · rw [if_pos c, if_pos (hs b c)]; exact Nat.succ_le_succ ih
        · rw [if_neg c]
          split
          · exact Nat.le_succ_of_le ih
          · exact ih
    rw [List.filter_cons, List.filter_cons]
    rcases List.mem_cons.mp hx with e | e
    · subst e
      rw [if_pos h1, if_neg (by rw [h2]; exact Bool.false_ne_true)]
      exact Nat.lt_succ_of_le le
    · have ih := filter_lt (l := l) hs ⟨x, e, h1, h2⟩
      by_cases c : p a = true
      · rw [if_pos c, if_pos (hs a c)]; exact Nat.succ_lt_succ ih
      · rw [if_neg c]
        split
        · exact Nat.lt_succ_of_lt ih
        · exact ih
open Classical in
/-- some part that waits is ready -/
theorem ready_ne {r : Str → Str → Prop} {xs : List Str} {W waiting : List (List Str)} {placed : List Str} (A : AllParts r xs W) (O : OI W waiting placed) (ne : waiting ≠ []) : waiting.filter (rdy r placed) ≠ [] := by
  intro none
  have no : ∀ p ∈ waiting, ∃ g, r (hd p) g ∧ g ∉ placed ∧ g ∉ p := fun p hp => by
    have h1 : rdy r placed p = false := by
      cases e : rdy r placed p with
      | false => rfl
      | true =>
        have : p ∈ waiting.filter (rdy r placed) := List.mem_filter.mpr ⟨hp, e⟩
        rw [none] at this; cases this
    refine Classical.byContradiction fun h => ?_
    have : rdy r placed p = true := rdy_iff.mpr fun g hg => Classical.byContradiction fun h2 => by
      rw [not_or] at h2
      exact h ⟨g, hg, h2.1, h2.2⟩
    rw [h1] at this; cases this
  have key : ∀ n, ∀ p ∈ waiting, (xs.filter fun h => decide (h = hd p ∨ r (hd p) h)).length ≤ n → False := by
    intro n
    induction n with
    | zero =>
      intro p hp hn
      obtain ⟨x, hx, rfl⟩ := A.is p (O.sub p hp)
      have m := hd_mem (part_ne (r := r) hx)
      have : hd (partOf r xs x) ∈ xs.filter fun h => decide (h = hd (partOf r xs x) ∨ r (hd (partOf r xs x)) h) := List.mem_filter.mpr ⟨(mem_part.mp m).1, decide_eq_true (.inl rfl)⟩
      have := List.length_pos_of_mem this
      omega
    | succ n ih =>
      intro p hp hn
      obtain ⟨g, hg, g1, g2⟩ := no p hp
      have gx := A.inn _ _ hg
      have hp' : partOf r xs g ∈ waiting := by
        rcases O.cov _ (A.all g gx) with z | z
        · exact z
        · exact absurd (z g (mem_part.mpr ⟨gx, .inl rfl⟩)) g1
      refine ih _ hp' ?_
      obtain ⟨x, hx, rfl⟩ := A.is p (O.sub p hp)
      have m := mem_part.mp (hd_mem (part_ne (r := r) hx))
      have m' := mem_part.mp (hd_mem (part_ne (r := r) gx))
      generalize hd (partOf r xs x) = a at *
      generalize hd (partOf r xs g) = b at *
      have ab : r a b := by
        rcases m'.2 with z | z
        · rw [z]; exact hg
        · exact A.tr _ _ _ hg z.1
      have nba : ¬ r g a := fun h => by
        refine g2 (mem_part.mpr ⟨gx, ?_⟩)
        rcases m.2 with z | z
        · rw [z] at hg h; exact .inr ⟨hg, h⟩
        · exact .inr ⟨A.tr _ _ _ z.1 hg, A.tr _ _ _ h z.2⟩
      have nga : g ≠ a := fun e => g2 (by rw [e]; exact mem_part.mpr ⟨m.1, m.2⟩)
      have := filter_lt (l := xs) (p := fun h => decide (h = b ∨ r b h)) (q := fun h => decide (h = a ∨ r a h)) (fun h hh => by
        have hh := of_decide_eq_true hh
        refine decide_eq_true (.inr ?_)
        rcases hh with z | z
        · rw [z]; exact ab
        · exact A.tr _ _ _ ab z) ⟨a, m.1, decide_eq_true (.inl rfl), decide_eq_false fun h => by
          rcases h with z | z
          · rcases m'.2 with y | y
            · exact nga (y.symm.trans z.symm)
            · rw [← z] at y; exact nba y.1
          · rcases m'.2 with y | y
            · rw [y] at z; exact nba z
            · exact nba (A.tr _ _ _ y.1 z)⟩
      omega
  cases waiting with
  | nil => exact ne rfl
  | cons p l => exact key _ p List.mem_cons_self (Nat.le_refl _)
theorem OI.next {W waiting : List (List Str)} {placed : List Str} (O : OI W waiting placed) {p : List Str} (h : p ∈ waiting) : OI W (waiting.erase p) (placed ++ p) := by
  refine ⟨fun q hq => O.sub q (List.mem_of_mem_erase hq), O.nd.erase p, fun q hq => ?_⟩
  by_cases e : q = p
  · subst e
    exact .inr fun z hz => List.mem_append_right _ hz
  · rcases O.cov q hq with z | z
    · exact .inl ((List.mem_erase_of_ne e).mpr z)
    · exact .inr fun y hy => List.mem_append_left _ (z y hy)
end HH
namespace HH
open PySem PySem.Spec PyProof.Rows L2 PySem.SeqAt
/-! ### lists of tuples of texts -/
abbrev PL := List (Addr × List Str)
def PLs (K : PySem.W.Frag) (H : Hp) (L : PL) : Prop := ∀ q ∈ L, SqT K H q.1 (q.2.map V.str) ∧ ∀ z ∈ q.2, Low z
abbrev refsP (L : PL) : List V := L.map fun q => V.ref q.1
theorem PLs.keep {K : PySem.W.Frag} {H H' : Hp} {L : PL} (h : PLs K H L) (t : Tup K H H') : PLs K H' L := fun q hq => ⟨t _ _ (h q hq).1, (h q hq).2⟩
theorem dpAll_strs {K : PySem.W.Frag} {H : Hp} : ∀ (p : List Str), DpAll K H (p.map V.str) (p.map PyData.str)
  | [] => .nil
  | z :: p => .cons (.str z) (dpAll_strs p)
theorem dp_part {K : PySem.W.Frag} {H : Hp} {a : Addr} {p : List Str} (h : SqT K H a (p.map V.str)) : Dp K H (.ref a) (encP p) := .tup h (dpAll_strs p)
theorem dp_parts {K : PySem.W.Frag} {H : Hp} : ∀ {L : PL}, PLs K H L → DpAll K H (refsP L) ((L.map (·.2)).map encP)
  | [], _ => .nil
  | q :: L, h => .cons (dp_part (h q List.mem_cons_self).1) (dp_parts fun x hx => h x (List.mem_cons_of_mem _ hx))
theorem low_ok {z : Str} (h : Low z) : PyData.strOk z = true := by
  unfold PyData.strOk
  rw [Array.all_eq_true_iff_forall_mem]
  intro c hc
  have := h c (by simpa using hc)
  exact decide_eq_true (by omega)
theorem lay_strs : ∀ {p : List Str}, (∀ z ∈ p, Low z) → PyData.canLayAll0 (p.map PyData.str) = true
  | [], _ => by simp [PyData.canLayAll0]
  | z :: p, h => by
    rw [List.map_cons, PyData.canLayAll0, lay_strs fun y hy => h y (List.mem_cons_of_mem _ hy)]
    simp [PyData.canLay0, low_ok (h z List.mem_cons_self)]
theorem lay_part {p : List Str} (h : ∀ z ∈ p, Low z) : PyData.canLay0 (encP p) = true := by
  simp only [encP, PyData.canLay0, lay_strs h]
theorem lay_parts : ∀ {ps : List (List Str)}, (∀ p ∈ ps, ∀ z ∈ p, Low z) → PyData.canLayAll0 (ps.map encP) = true
  | [], _ => by simp [PyData.canLayAll0]
  | p :: ps, h => by
    rw [List.map_cons, PyData.canLayAll0, lay_parts fun y hy => h y (List.mem_cons_of_mem _ hy), lay_part (h p List.mem_cons_self)]
    rfl
theorem dep_strs : ∀ (p : List Str), PyData.depthAll (p.map PyData.str) ≤ 1
  | [] => by simp [PyData.depthAll]
  | z :: p => by
    have := dep_strs p
    simp only [List.map_cons, PyData.depthAll, PyData.depth]
    omega
theorem dep_part (p : List Str) : (encP p).depth ≤ 2 := by
  have := dep_strs p
  simp only [encP, PyData.depth]
  omega
theorem dep_parts : ∀ (ps : List (List Str)), PyData.depthAll (ps.map encP) ≤ 2
  | [] => by simp [PyData.depthAll]
  | p :: ps => by
    have h1 := dep_part p
    have h2 := dep_parts ps
    simp only [List.map_cons, PyData.depthAll]
    omega
theorem eqv_strs : ∀ (p q : List Str), PyData.eqvAll (p.map PyData.str) (q.map PyData.str) = decide (p = q)
  | [], [] => by simp [PyData.eqvAll]
  | [], _ :: _ => by simp [PyData.eqvAll]
  | _ :: _, [] => by simp [PyData.eqvAll]
  | a :: p, b :: q => by
    rw [List.map_cons, List.map_cons, PyData.eqvAll, eqv_strs p q, PyData.eqv]
    by_cases h : a = b
    · subst h; simp
    · simp [h]
theorem eqv_part (p q : List Str) : PyData.eqv (encP p) (encP q) = decide (p = q) := by
  simp only [encP, PyData.eqv, eqv_strs]
theorem any_part {p : List Str} : ∀ {ps : List (List Str)}, ((ps.map encP).any fun z => PyData.eqv z (encP p)) = decide (p ∈ ps)
  | [] => by simp
  | q :: ps => by
    rw [List.map_cons, List.any_cons, any_part, eqv_part]
    by_cases h : q = p
    · simp [h]
    · have h2 : ¬ p = q := fun e => h e.symm
      simp [h, h2]
section
variable {X : Cx} {K : PySem.W.Frag} {H : Hp} {Q : VK}
theorem op_notInDK (hu : X.A.units + 65 < cLine) (hX : X.K = K := by rfl) : OpR X (compareOp .NotIn) (rNotInD K) := by subst hX; exact op_notInD hu
theorem hu65_of {A : Around} {k : Nat} (hr : Room k A) : A.units + 65 < cLine := by have := hr.un; omega
theorem shape_list {ps : List (List Str)} (h : ∀ p ∈ ps, ∀ z ∈ p, Low z) : PySem.SeqAt.shaped (.list (ps.map encP)) = true := by
  unfold PySem.SeqAt.shaped
  rw [Bool.and_eq_true]
  refine ⟨by simp only [PyData.canLay0, lay_parts h], decide_eq_true ?_⟩
  have := dep_parts ps
  simp only [PyData.depth]
  omega
theorem shape_part {p : List Str} (h : ∀ z ∈ p, Low z) : PySem.SeqAt.shaped (encP p) = true := by
  unfold PySem.SeqAt.shaped
  rw [Bool.and_eq_true]
  exact ⟨lay_part h, decide_eq_true (by have := dep_part p; omega)⟩
/-- a part not in a list of parts -/
theorem rd_ninP {a l : Addr} {p : List Str} {L : PL} (ha : SqT K H a (p.map V.str)) (lp : ∀ z ∈ p, Low z) (hl : SqL K H l (refsP L)) (hL : PLs K H L) (h : Q (.bl (!decide (p ∈ L.map (·.2)))) H) : rNotInD K (.ref a) (.ref l) H Q :=
  ⟨encP p, (L.map (·.2)).map encP, dp_part ha, .lst hl (dp_parts hL), shape_part lp, shape_list fun q hq => by obtain ⟨x, hx, rfl⟩ := List.mem_map.mp hq; exact (hL x hx).2, by rw [any_part]; exact h⟩
/-! ### min of a list of parts -/
theorem alike_strs : ∀ (p q : List Str), PySem.W.alikeAll (p.map PyData.str) (q.map PyData.str) = true
  | [], _ => by simp [PySem.W.alikeAll]
  | _ :: _, [] => by simp [PySem.W.alikeAll]
  | a :: p, b :: q => by simp only [List.map_cons, PySem.W.alikeAll, PySem.W.alike, alike_strs p q, Bool.and_self]
theorem alike_parts {ps : List (List Str)} : PySem.W.AlikeAll (ps.map encP) := by
  refine ⟨fun x hx y hy => ?_, fun x hx => ?_⟩
  · obtain ⟨p, _, rfl⟩ := List.mem_map.mp hx
    obtain ⟨q, _, rfl⟩ := List.mem_map.mp hy
    simp only [encP, PySem.W.alike, alike_strs]
  · obtain ⟨p, _, rfl⟩ := List.mem_map.mp hx
    simp [encP]
theorem reads_strs {h : Heap} : ∀ {p q : List Str} {vs : List Value} {as bs : List Addr}, ReadsAll h vs (p.map PyData.str) as → ReadsAll h vs (q.map PyData.str) bs → p = q
  | [], [], _, _, _, _, _ => rfl
  | [], _ :: _, _, _, _, r, s => by cases r; cases s
  | _ :: _, [], _, _, _, r, s => by cases s; cases r
  | a :: p, b :: q, _, _, _, r, s => by
    cases r with
    | cons r1 r2 =>
      cases s with
      | cons s1 s2 =>
        have e : a = b := by
          cases r1
          cases s1
          rfl
        rw [e, reads_strs r2 s2]
theorem reads_part {h : Heap} {u : Value} {p q : List Str} {as bs : List Addr} (r : Reads h u (encP p) as) (s : Reads h u (encP q) bs) : p = q := by
  unfold encP at r s
  cases r with
  | tuple h1 h2 h3 h4 =>
    cases s with
    | tuple g1 g2 g3 g4 =>
      rw [h1] at g1
      cases g1
      rw [h3] at g3
      cases g3
      exact reads_strs h4 g4
def rMinP (K : PySem.W.Frag) : List V → Hp → VK → Prop := fun vs H Q => ∃ (l : Addr) (L : PL), vs = [.ref l] ∧ SqL K H l (refsP L) ∧ PLs K H L ∧ L ≠ [] ∧ ∀ q ∈ L, q.2 = least (L.map (·.2)) → Q (.ref q.1) H
theorem cr_minP (hu : X.A.units + 20 < cLine) (hc : X.calm = true) (hX : X.K = K := by rfl) : CallR X (.builtin "min") (rMinP K) := by
  subst hX
  intro pins s σ H vs us Q I r h
  obtain ⟨l, L, rfl, hl, hL, ne, q⟩ := h
  obtain rfl := Vals.ref1 r
  obtain ⟨its, rv, pl, hz⟩ := I.list hl
  obtain ⟨as, ra⟩ := Dp.readsAll I _ _ its (dp_parts hL) rv
  cases L with
  | nil => exact absurd rfl ne
  | cons q0 L =>
    refine PySem.W.min_list_data (vs := its.toArray) (as := as) (I.ok.hd hc) pl.isList (by simpa using ra) (alike_parts (ps := (q0 :: L).map (·.2))) ?_ fun i v h' tk bs hv hr kp => ?_
    · have := dep_parts ((q0 :: L).map (·.2))
      show X.A.units + 1 + PyData.depthAll (((q0 :: L).map (·.2)).map encP) < cLine
      omega
    · rw [minD_enc] at hr
      have hv' : its[i]? = some v := by simpa using hv
      have hi : i < (q0 :: L).length := by
        have h1 := (List.getElem?_eq_some_iff.mp hv').1
        have h2 := rv.length
        rw [List.length_map] at h2
        omega
      cases eq : (q0 :: L)[i]? with
      | none => rw [List.getElem?_eq_getElem hi] at eq; cases eq
      | some q1 =>
        obtain ⟨u, hu', ru⟩ := rv.get (i := i) (x := V.ref q1.1) (by rw [List.getElem?_map, eq]; rfl)
        obtain rfl : v = u := Option.some.inj (hv'.symm.trans hu')
        obtain rfl : v = Value.ref q1.1 := ru
        have m1 := List.mem_of_getElem? eq
        have I1 : Inv X pins σ H { s with heap := h', toks := tk } := I.kept kp
        obtain ⟨cs, r1⟩ := Dp.reads I1 _ _ (.ref q1.1) (dp_part (hL q1 m1).1) rfl
        exact ⟨.ref q1.1, H, I1, rfl, q q1 m1 (reads_part r1 hr)⟩
/-! ### xs.remove(part) -/
theorem map_eraseG {α β : Type} (f : α → β) : ∀ (l : List α) (k : Nat), (l.map f).eraseIdx k = (l.eraseIdx k).map f
  | [], _ => rfl
  | _ :: _, 0 => rfl
  | a :: l, k + 1 => by
    rw [List.map_cons, List.eraseIdx_cons_succ, List.eraseIdx_cons_succ, List.map_cons, map_eraseG f l k]
theorem plain_parts {ps : List (List Str)} (h : ∀ p ∈ ps, ∀ z ∈ p, Low z) : PyData.plainAll (ps.map encP) = true := by
  have := PyData.plain_of_canLay0 (.list (ps.map encP)) (by simp only [PyData.canLay0, lay_parts h])
  simpa [PyData.plain] using this
def rRemP (K : PySem.W.Frag) : V → List V → Hp → VK → Prop := fun x vs H Q => ∃ (l a : Addr) (L : PL) (p : List Str) (j : Nat), x = .ref l ∧ vs = [.ref a] ∧ H l = some (.lst (refsP L)) ∧ PLs K H L ∧ SqT K H a (p.map V.str) ∧ (∀ z ∈ p, Low z) ∧ (L.map (·.2)).findIdx? (fun y => decide (y = p)) = some j ∧ Q .non (upd H l (.lst (refsP (L.eraseIdx j))))
theorem place_part {p : List Str} : ∀ (ps : List (List Str)), dataPlace (ps.map encP) (encP p) = ps.findIdx? fun y => decide (y = p) := by
  intro ps
  unfold dataPlace
  induction ps with
  | nil => rfl
  | cons q ps ih => rw [List.map_cons, List.findIdx?_cons, List.findIdx?_cons, eqv_part, ih]
theorem mt_remP (hu : X.A.units + 20 < cLine) (hX : X.K = K := by rfl) : MtM X "list.remove" (rRemP K) := by
  subst hX
  intro pins s σ H x vs v us Q I rx rv h
  obtain ⟨l, a, L, p, j, rfl, rfl, hH, hL, ha, lp, hj, q⟩ := h
  cases rx
  obtain ⟨u, rfl, ru⟩ := rv.one
  obtain rfl : u = Value.ref a := ru
  obtain ⟨z, its, n, r, hl, e⟩ := I.lstM hH
  obtain ⟨as, ra⟩ := Dp.readsAll I _ _ its (dp_parts hL) r
  obtain ⟨bs, rb⟩ := Dp.reads I _ _ (.ref a) (dp_part ha) rfl
  have hll : ∀ p ∈ L.map (·.2), ∀ z ∈ p, Low z := fun y hy => by obtain ⟨x, hx, rfl⟩ := List.mem_map.mp hy; exact (hL x hx).2
  refine remove_list_data (j := j) (vs := its.toArray) ⟨_, e, rfl, _, rfl⟩ (by simpa using ra) rb (plain_parts hll) (PyData.plain_of_canLay0 _ (lay_part lp)) ?_ (by rw [place_part]; exact hj) (by rw [List.size_toArray]; omega) ?_
  · have := dep_part p
    omega
  · refine ⟨.non, _, I.lset (its' := its.eraseIdx j) hH e ?_ (by have := r.eraseIdx j; rw [map_eraseG] at this; exact this) ?_, rfl, q⟩
    · show its.toArray.eraseIdxIfInBounds j = (its.eraseIdx j).toArray
      rw [List.eraseIdxIfInBounds_toArray]
    · rw [List.length_map]
      have h1 := len_erase L j
      have h2 := List.length_map (f := fun q : Addr × List Str => V.ref q.1) (as := L)
      have h3 : (refsP L).length = L.length := h2
      omega
end
end HH
namespace HH
open PySem PySem.Spec PyProof.Rows L2 PySem.SeqAt
/-! ### over a list or a tuple, whichever it is -/
theorem pi_tupK {X : Cx} {tg e : Expr} {tl : TE} {K : PySem.W.Frag} (he : PE X e tl) (hX : X.K = K := by rfl) : PI X tg e (iTup K tl) := by subst hX; exact pi_tup he
theorem pi_listK {X : Cx} {tg e : Expr} {tl : TE} {K : PySem.W.Frag} (he : PE X e tl) (hX : X.K = K := by rfl) : PI X tg e (iList K tl) := by subst hX; exact pi_list he
def iOr (a b : TI) : TI := fun σ H R => a σ H R ∨ b σ H R
theorem pi_or {X : Cx} {tg e : Expr} {a b : TI} (h1 : PI X tg e a) (h2 : PI X tg e b) : PI X tg e (iOr a b) := ⟨fun pins s σ H R I h => h.elim (h1.run pins s σ H R I) (h2.run pins s σ H R I)⟩
theorem rd_iO {K : PySem.W.Frag} {σ : L2.St} {H : Hp} {n : Nat} {a : Addr} {xs : List V} {R : It → Hp → Prop} (e : σ[n]? = some (some (V.ref a))) (h : SqL K H a xs ∨ SqT K H a xs)
    (k : ∀ (J : It) (G : Hp → Prop), (∀ H', Same H H' → G H') → Walk J xs.length G (YAt xs) → R J H) : iOr (iList K (tVar n)) (iTup K (tVar n)) σ H R := by
  rcases h with h | h
  · exact .inl ⟨_, e, a, rfl, ⟨xs, h⟩, k _ _ (fun H' s => same_seq s h) walk_list⟩
  · exact .inr ⟨_, e, a, rfl, ⟨xs, h⟩, k _ _ (fun H' s => same_tup s _ _ h) walk_tup⟩
/-! ### a dict of lists of texts -/
structure DL (H : Hp) (d : Addr) (xs : List Str) (ad : Str → Addr) (L : Str → List Str) : Prop where
  d : H d = some (.dK (xs.map fun x => (Sum.inr x, V.ref (ad x))))
  l : ∀ x ∈ xs, H (ad x) = some (.lst ((L x).map V.str))
  inj : ∀ x ∈ xs, ∀ y ∈ xs, ad x = ad y → x = y
theorem valV_dl {ad : Str → Addr} {x : Str} : ∀ {xs : List Str}, x ∈ xs → valV (xs.map fun y => ((Sum.inr y : Key), V.ref (ad y))) (Sum.inr x) = some (.ref (ad x))
  | y :: xs, h => by
    rw [List.map_cons]
    by_cases e : y = x
    · rw [valV_pos (by rw [e]), e]
    · rw [valV_neg (fun z => e (Sum.inr.inj z))]
      rcases List.mem_cons.mp h with z | z
      · exact absurd z.symm e
      · exact valV_dl z
theorem putK_dl {ad : Str → Addr} {l : Addr} {x : Str} {ys : List Str} (h : x ∉ ys) : putK (ys.map fun y => ((Sum.inr y : Key), V.ref (ad y))) (Sum.inr x) (V.ref l) = (ys ++ [x]).map fun y => ((Sum.inr y : Key), V.ref (if y = x then l else ad y)) := by
  have e1 : (ys.map fun y => ((Sum.inr y : Key), V.ref (if y = x then l else ad y))) = ys.map fun y => ((Sum.inr y : Key), V.ref (ad y)) := List.map_congr_left fun y hy => by
    rw [if_neg (fun e => h (by rw [← e]; exact hy))]
  unfold putK
  rw [if_neg, List.map_append, e1, List.map_cons, List.map_nil, if_pos rfl]
  intro c
  obtain ⟨q, hq, e⟩ := List.any_eq_true.mp c
  obtain ⟨y, hy, rfl⟩ := List.mem_map.mp hq
  have := Sum.inr.inj (of_decide_eq_true e)
  exact h (by rw [← this]; exact hy)
theorem DL.get {H : Hp} {d : Addr} {xs : List Str} {ad : Str → Addr} {L : Str → List Str} (h : DL H d xs ad L) {x : Str} (hx : x ∈ xs) : DGet H d (.str x) (some (.ref (ad x))) := by
  have := DGet.k (k := Sum.inr x) h.d
  rw [valV_dl hx] at this
  exact this
theorem DL.keep {H H' : Hp} {d : Addr} {xs : List Str} {ad : Str → Addr} {L : Str → List Str} (h : DL H d xs ad L) (s : Same H H') : DL H' d xs ad L := ⟨s _ _ h.d, fun x hx => s _ _ (h.l x hx), h.inj⟩
/-- another thing is written -/
theorem DL.oth {H : Hp} {d l : Addr} {xs : List Str} {ad : Str → Addr} {L : Str → List Str} {o : HO} (h : DL H d xs ad L) (n1 : l ≠ d) (n2 : ∀ x ∈ xs, l ≠ ad x) : DL (upd H l o) d xs ad L :=
  ⟨by rw [upd_ne n1.symm]; exact h.d, fun x hx => by rw [upd_ne (n2 x hx).symm]; exact h.l x hx, h.inj⟩
theorem DL.ne {H : Hp} {d : Addr} {xs : List Str} {ad : Str → Addr} {L : Str → List Str} (h : DL H d xs ad L) {x : Str} (hx : x ∈ xs) : ad x ≠ d := fun e => by
  have h1 := h.l x hx
  rw [e, h.d] at h1
  cases h1
/-- an item more -/
def addL (L : Str → List Str) (x g : Str) : Str → List Str := fun y => if y = x then L x ++ [g] else L y
theorem DL.app {H : Hp} {d : Addr} {xs : List Str} {ad : Str → Addr} {L : Str → List Str} (h : DL H d xs ad L) {x : Str} (hx : x ∈ xs) (g : Str) : DL (upd H (ad x) (.lst ((L x).map V.str ++ [V.str g]))) d xs ad (addL L x g) := by
  refine ⟨by rw [upd_ne (h.ne hx).symm]; exact h.d, fun y hy => ?_, h.inj⟩
  unfold addL
  by_cases e : y = x
  · subst e; rw [upd_same, if_pos rfl, List.map_append]; rfl
  · rw [upd_ne (fun z => e (h.inj y hy x hx z)), if_neg e]; exact h.l y hy
/-- the pairs that are to be looked at -/
abbrev PR := List (Addr × Str × Str)
def PRs (K : PySem.W.Frag) (H : Hp) (T : PR) : Prop := ∀ q ∈ T, SqT K H q.1 [.str q.2.1, .str q.2.2]
theorem PRs.keep {K : PySem.W.Frag} {H H' : Hp} {T : PR} (h : PRs K H T) (t : Tup K H H') : PRs K H' T := fun q hq => t _ _ (h q hq)
abbrev refsR (T : PR) : List V := T.map fun q => V.ref q.1
/-! ### the closure, step by step -/
structure CL (R : List FRow) (xs : List Str) (L : Str → List Str) (T : List (Str × Str)) : Prop where
  td : ∀ q ∈ T, q.1 ∈ xs ∧ q.2 ∈ xs ∧ TC R q.1 q.2
  so : ∀ x ∈ xs, ∀ g ∈ L x, g ∈ xs ∧ TC R x g
  nd : ∀ x ∈ xs, (L x).Nodup
  ed : ∀ x g, Edge R x g → g ∈ L x ∨ (x, g) ∈ T
  cl : ∀ x ∈ xs, ∀ y ∈ xs, ∀ z, y ∈ L x → z ∈ L y → z ∈ L x ∨ (x, z) ∈ T
theorem CL.skip {R : List FRow} {xs : List Str} {L : Str → List Str} {T : List (Str × Str)} {x g : Str} (h : CL R xs L (T ++ [(x, g)])) (c : g ∈ L x) : CL R xs L T := by
  have un : ∀ {a b : Str}, (a, b) ∈ T ++ [(x, g)] → b ∈ L a ∨ (a, b) ∈ T := fun {a b} m => by
    rcases List.mem_append.mp m with z | z
    · exact .inr z
    · have := List.mem_singleton.mp z
      injection this with e1 e2
      rw [e1, e2]; exact .inl c
  exact ⟨fun q hq => h.td q (List.mem_append_left _ hq), h.so, h.nd, fun a b e => (h.ed a b e).elim .inl un, fun a ha b hb c' h1 h2 => (h.cl a ha b hb c' h1 h2).elim .inl un⟩
theorem CL.step {R : List FRow} {xs : List Str} {L : Str → List Str} {T : List (Str × Str)} {x g : Str} (h : CL R xs L (T ++ [(x, g)])) (c : g ∉ L x) {A B : List (Str × Str)}
    (hA : A = (addL L x g g).map fun f => (x, f)) (hB : B = (xs.filter fun f => decide (x ∈ addL L x g f)).map fun f => (f, g)) : CL R xs (addL L x g) (T ++ A ++ B) := by
  obtain ⟨xm, gm, tc⟩ := h.td (x, g) (List.mem_append_right _ List.mem_cons_self)
  have old : ∀ {a b : Str}, b ∈ L a → b ∈ addL L x g a := fun {a b} m => by
    unfold addL
    by_cases e : a = x
    · rw [if_pos e]; rw [e] at m; exact List.mem_append_left _ m
    · rw [if_neg e]; exact m
  have new : g ∈ addL L x g x := by unfold addL; rw [if_pos rfl]; exact List.mem_append_right _ List.mem_cons_self
  have inv : ∀ {a b : Str}, b ∈ addL L x g a → b ∈ L a ∨ (a = x ∧ b = g) := fun {a b} m => by
    unfold addL at m
    by_cases e : a = x
    · rw [if_pos e] at m
      rcases List.mem_append.mp m with z | z
      · rw [e]; exact .inl z
      · exact .inr ⟨e, List.mem_singleton.mp z⟩
    · rw [if_neg e] at m; exact .inl m
  have so' : ∀ a ∈ xs, ∀ b ∈ addL L x g a, b ∈ xs ∧ TC R a b := fun a ha b hb => by
    rcases inv hb with z | ⟨e1, e2⟩
    · exact h.so a ha b z
    · rw [e1, e2]; exact ⟨gm, tc⟩
  have un : ∀ {a b : Str}, (a, b) ∈ T ++ [(x, g)] → b ∈ addL L x g a ∨ (a, b) ∈ T ++ A ++ B := fun {a b} m => by
    rcases List.mem_append.mp m with z | z
    · exact .inr (List.mem_append_left _ (List.mem_append_left _ z))
    · have := List.mem_singleton.mp z
      injection this with e1 e2
      rw [e1, e2]; exact .inl new
  refine ⟨fun q hq => ?_, so', fun a ha => ?_, fun a b e => (h.ed a b e).elim (fun z => .inl (old z)) un, fun a ha b hb c' h1 h2 => ?_⟩
  · rcases List.mem_append.mp hq with z | z
    · rcases List.mem_append.mp z with z | z
      · exact h.td q (List.mem_append_left _ z)
      · rw [hA] at z
        obtain ⟨f, hf, rfl⟩ := List.mem_map.mp z
        obtain ⟨f1, f2⟩ := so' g gm f hf
        exact ⟨xm, f1, tc.trans f2⟩
    · rw [hB] at z
      obtain ⟨f, hf, rfl⟩ := List.mem_map.mp z
      obtain ⟨f1, f2⟩ := List.mem_filter.mp hf
      exact ⟨f1, gm, (so' f f1 x (of_decide_eq_true f2)).2.trans tc⟩
  · unfold addL
    by_cases e : a = x
    · rw [if_pos e]
      refine List.nodup_append.mpr ⟨h.nd x xm, List.nodup_cons.mpr ⟨List.not_mem_nil, List.nodup_nil⟩, fun u hu v hv e2 => ?_⟩
      rw [List.mem_singleton.mp hv] at e2
      rw [e2] at hu; exact c hu
    · rw [if_neg e]; exact h.nd a ha
  · rcases inv h1 with z1 | ⟨e1, e2⟩
    · rcases inv h2 with z2 | ⟨e3, e4⟩
      · exact (h.cl a ha b hb c' z1 z2).elim (fun z => .inl (old z)) un
      · refine .inr (List.mem_append_right _ ?_)
        rw [hB, e4]
        exact List.mem_map.mpr ⟨a, List.mem_filter.mpr ⟨ha, decide_eq_true (by rw [e3] at h1; exact h1)⟩, rfl⟩
    · refine .inr (List.mem_append_left _ (List.mem_append_right _ ?_))
      rw [hA, e1]
      exact List.mem_map.mpr ⟨c', by rw [e2] at h2; exact h2, rfl⟩
theorem CL.done {R : List FRow} {xs : List Str} {L : Str → List Str} (h : CL R xs L []) (rn : RowsN xs R) {x g : Str} (hx : x ∈ xs) : g ∈ L x ↔ TC R x g := by
  refine ⟨fun m => (h.so x hx g m).2, fun t => ?_⟩
  induction t with
  | single e => exact (h.ed _ _ e).elim id (fun z => nomatch z)
  | @tail b c t e ih =>
    have hb := TC.mem rn t
    have := (h.ed b c e).elim id (fun z => nomatch z)
    exact (h.cl x hx b hb c ih this).elim id (fun z => nomatch z)
/-- how many stand -/
def tot (xs : List Str) (L : Str → List Str) : Nat := (xs.map fun x => (L x).length).sum
theorem tot_le {xs : List Str} {L : Str → List Str} {n : Nat} (h : ∀ x ∈ xs, (L x).length ≤ n) : tot xs L ≤ xs.length * n := by
  unfold tot
  induction xs with
  | nil => simp
  | cons x xs ih =>
    rw [List.map_cons, List.sum_cons, List.length_cons, Nat.succ_mul]
    have h1 := h x List.mem_cons_self
    have h2 := ih fun y hy => h y (List.mem_cons_of_mem _ hy)
    omega
theorem tot_add {L : Str → List Str} {x g : Str} : ∀ {xs : List Str}, xs.Nodup → x ∈ xs → tot xs (addL L x g) = tot xs L + 1
  | y :: xs, nd, hx => by
    obtain ⟨n1, n2⟩ := List.nodup_cons.mp nd
    unfold tot
    rw [List.map_cons, List.sum_cons, List.map_cons, List.sum_cons]
    by_cases e : y = x
    · have e1 : (xs.map fun z => (addL L x g z).length) = xs.map fun z => (L z).length := List.map_congr_left fun z hz => by
        unfold addL
        rw [if_neg (fun w => n1 (by rw [e, ← w]; exact hz))]
      rw [e1]
      unfold addL
      rw [if_pos e, List.length_append, e]
      simp
      omega
    · have hx' : x ∈ xs := by
        rcases List.mem_cons.mp hx with z | z
        · exact absurd z.symm e
        · exact z
      have ih := tot_add (L := L) (x := x) (g := g) n2 hx'
      unfold tot at ih
      rw [ih]
      unfold addL
      rw [if_neg e]
      omega
theorem CL.len {R : List FRow} {xs : List Str} {L : Str → List Str} {T : List (Str × Str)} (h : CL R xs L T) {x : Str} (hx : x ∈ xs) : (L x).length ≤ xs.length :=
  List.Nodup.length_le_of_subset (h.nd x hx) fun g hg => (h.so x hx g hg).1
end HH
namespace HH
open PySem PySem.Spec PyProof.Rows L2 PySem.SeqAt
section
variable {K : PySem.W.Frag} {σ : L2.St} {tt tt1 : TT} {te tk tv : TE} {g g1 : TG} {wi1 : TI} {vs vs1 : List Nat}
theorem dc_itW {J : It} {n : Nat} {G : Hp → Prop} {Y : Nat → Hp → V → Hp → Prop} (w : Walk J n G Y) {H1 : Hp} {D : Addr} {Qd : Hp → Prop} (σ' : L2.St) (hw : wipe σ vs = σ') (Pv : Nat → Hp → Prop) (h0 : Pv 0 (upd H1 D (.dK []))) (hG : ∀ i H, i ≤ n → Pv i H → G H)
    (hs : ∀ i x H H', i < n → Pv i H → Y i H x H' → g x σ' H' fun σ2 H2 => wipe σ2 vs = σ' ∧ tt σ2 H2 fun b H3 =>
      if b = true then tk σ2 H3 fun y H4 => tv σ2 H4 fun z H5 => ∃ kvs k, y = kV k ∧ H5 D = some (.dK kvs) ∧ kvs.length < sizeLine ∧ Pv (i + 1) (upd H5 D (.dK (putK kvs k z))) else Pv (i + 1) H3) (hd : ∀ H, Pv n H → Qd H) :
    ∃ W : Nat → Nat → Hp → Prop, (∃ m, W 0 m (upd H1 D (.dK []))) ∧ ∀ i m H, W i m H →
      (J.stop i H ∧ Qd H) ∨ (J.go i H ∧ ∃ Nx : Hp → Prop, (∀ H', Nx H' → ∃ m', m' < m ∧ W (i + 1) m' H') ∧ ∀ x H', J.yld i H x H' → g x (wipe σ vs) H' fun σ2 H2 => wipe σ2 vs = wipe σ vs ∧ tt σ2 H2 fun b H3 =>
        if b = true then tk σ2 H3 fun y H4 => tv σ2 H4 fun z H5 => ∃ kvs k, y = kV k ∧ H5 D = some (.dK kvs) ∧ kvs.length < sizeLine ∧ Nx (upd H5 D (.dK (putK kvs k z))) else Nx H3) := by
  subst hw
  refine ⟨fun i m H => m = n - i ∧ i ≤ n ∧ Pv i H, ⟨n, by simp, Nat.zero_le _, h0⟩, ?_⟩
  rintro i m H ⟨rfl, hi, p⟩
  have q := hG i H hi p
  by_cases hlt : i < n
  · exact .inr ⟨w.goes i H hlt q, Pv (i + 1), fun H' p' => ⟨n - (i + 1), by omega, rfl, hlt, p'⟩, fun x H' y => hs i x H H' hlt p (w.yields i H x H' hlt q y)⟩
  · have e : i = n := by omega
    subst e
    exact .inl ⟨w.stops H q, hd H p⟩
theorem lc_itW {J : It} {n : Nat} {G : Hp → Prop} {Y : Nat → Hp → V → Hp → Prop} (w : Walk J n G Y) {H1 : Hp} {D : Addr} {Qd : Hp → Prop} (σ' : L2.St) (hw : wipe σ vs = σ') (Pv : Nat → Hp → Prop) (h0 : Pv 0 (upd H1 D (.lst []))) (hG : ∀ i H, i ≤ n → Pv i H → G H)
    (hs : ∀ i x H H', i < n → Pv i H → Y i H x H' → g x σ' H' fun σ2 H2 => wipe σ2 vs = σ' ∧ tt σ2 H2 fun b H3 =>
      if b = true then te σ2 H3 fun y H4 => ∃ acc, H4 D = some (.lst acc) ∧ acc.length < sizeLine ∧ Pv (i + 1) (upd H4 D (.lst (acc ++ [y]))) else Pv (i + 1) H3) (hd : ∀ H, Pv n H → Qd H) :
    ∃ W : Nat → Nat → Hp → Prop, (∃ m, W 0 m (upd H1 D (.lst []))) ∧ ∀ i m H, W i m H →
      (J.stop i H ∧ Qd H) ∨ (J.go i H ∧ ∃ Nx : Hp → Prop, (∀ H', Nx H' → ∃ m', m' < m ∧ W (i + 1) m' H') ∧ ∀ x H', J.yld i H x H' → g x (wipe σ vs) H' fun σ2 H2 => wipe σ2 vs = wipe σ vs ∧ tt σ2 H2 fun b H3 =>
        if b = true then te σ2 H3 fun y H4 => ∃ acc, H4 D = some (.lst acc) ∧ acc.length < sizeLine ∧ Nx (upd H4 D (.lst (acc ++ [y]))) else Nx H3) := by
  subst hw
  exact lc_it w Pv h0 hG hs hd
theorem rd_lc2 {σ : L2.St} {H : Hp} {Q : VK} {wi : TI} {g : TG} {tt : TT} {wi1 : TI} {g1 : TG} {tt1 : TT} {te : TE} {vs vs1 : List Nat} (h : wi σ H fun J H1 => ∀ D, H1 D = none → ∃ W : Nat → Nat → Hp → Prop, (∃ m, W 0 m (upd H1 D (.lst []))) ∧ ∀ i m H, W i m H →
  (J.stop i H ∧ Q (.ref D) H) ∨ (J.go i H ∧ ∃ Nx : Hp → Prop, (∀ H', Nx H' → ∃ m', m' < m ∧ W (i + 1) m' H') ∧ ∀ x H', J.yld i H x H' → g x (wipe σ vs) H' fun σ2 H2 => wipe σ2 vs = wipe σ vs ∧ tt σ2 H2 fun b H3 =>
    if b = true then wi1 σ2 H3 fun J1 H4 => ∃ W1 : Nat → Nat → Hp → Prop, (∃ m, W1 0 m H4) ∧ ∀ j k H, W1 j k H →
      (J1.stop j H ∧ Nx H) ∨ (J1.go j H ∧ ∃ Nx1 : Hp → Prop, (∀ H', Nx1 H' → ∃ k', k' < k ∧ W1 (j + 1) k' H') ∧ ∀ x H', J1.yld j H x H' → g1 x (wipe σ2 vs1) H' fun σ3 H5 => wipe σ3 vs1 = wipe σ2 vs1 ∧ tt1 σ3 H5 fun b H6 =>
        if b = true then te σ3 H6 fun y H7 => ∃ acc, H7 D = some (.lst acc) ∧ acc.length < sizeLine ∧ Nx1 (upd H7 D (.lst (acc ++ [y]))) else Nx1 H6)
    else Nx H3)) : tLc2 wi g tt wi1 g1 tt1 te vs vs1 σ H Q := h
/-- the inner for of two, over a tuple -/
theorem in_tup {b : Addr} {ys : List V} {D : Addr} {Nx : Hp → Prop} {σ2 : L2.St} {H4 : Hp} (σ'' : L2.St) (hw1 : wipe σ2 vs1 = σ'') (Pv : Nat → Hp → Prop) (h0 : Pv 0 H4) (hl : ∀ j H, Pv j H → SqT K H b ys)
    (hs : ∀ j y H, ys[j]? = some y → Pv j H → g1 y σ'' H fun σ3 H5 => wipe σ3 vs1 = σ'' ∧ tt1 σ3 H5 fun b H6 =>
      if b = true then te σ3 H6 fun y H7 => ∃ acc, H7 D = some (.lst acc) ∧ acc.length < sizeLine ∧ Pv (j + 1) (upd H7 D (.lst (acc ++ [y]))) else Pv (j + 1) H6) (hd : ∀ H, Pv ys.length H → Nx H) :
    ∃ W1 : Nat → Nat → Hp → Prop, (∃ m, W1 0 m H4) ∧ ∀ j k H, W1 j k H →
      ((Itt K b).stop j H ∧ Nx H) ∨ ((Itt K b).go j H ∧ ∃ Nx1 : Hp → Prop, (∀ H', Nx1 H' → ∃ k', k' < k ∧ W1 (j + 1) k' H') ∧ ∀ x H', (Itt K b).yld j H x H' → g1 x (wipe σ2 vs1) H' fun σ3 H5 => wipe σ3 vs1 = wipe σ2 vs1 ∧ tt1 σ3 H5 fun b H6 =>
        if b = true then te σ3 H6 fun y H7 => ∃ acc, H7 D = some (.lst acc) ∧ acc.length < sizeLine ∧ Nx1 (upd H7 D (.lst (acc ++ [y]))) else Nx1 H6) := by
  subst hw1
  refine ⟨fun i m H => m = ys.length - i ∧ i ≤ ys.length ∧ Pv i H, ⟨ys.length, by simp, Nat.zero_le _, h0⟩, ?_⟩
  rintro i m H ⟨rfl, hi, p⟩
  have q := hl i H p
  by_cases hlt : i < ys.length
  · refine .inr ⟨⟨ys, ys[i], q, by simp [hlt]⟩, Pv (i + 1), fun H' p' => ⟨ys.length - (i + 1), by omega, rfl, hlt, p'⟩, fun x H' y => ?_⟩
    obtain ⟨e, y⟩ := y
    subst e
    exact hs i x _ (y ys q) p
  · have e : i = ys.length := by omega
    subst e
    exact .inl ⟨⟨ys, q, Nat.le_refl _⟩, hd H p⟩
/-- the outer for of two, over a tuple -/
theorem lc2_tupW {a : Addr} {xs : List V} {H1 : Hp} {D : Addr} {Qd : Hp → Prop} (σ' : L2.St) (hw : wipe σ vs = σ') (Pv : Nat → Hp → Prop) (h0 : Pv 0 (upd H1 D (.lst []))) (hl : ∀ i H, i ≤ xs.length → Pv i H → SqT K H a xs)
    (hs : ∀ i x H, xs[i]? = some x → Pv i H → g x σ' H fun σ2 H2 => wipe σ2 vs = σ' ∧ tt σ2 H2 fun b H3 =>
      if b = true then wi1 σ2 H3 fun J1 H4 => ∃ W1 : Nat → Nat → Hp → Prop, (∃ m, W1 0 m H4) ∧ ∀ j k H, W1 j k H →
        (J1.stop j H ∧ Pv (i + 1) H) ∨ (J1.go j H ∧ ∃ Nx1 : Hp → Prop, (∀ H', Nx1 H' → ∃ k', k' < k ∧ W1 (j + 1) k' H') ∧ ∀ x H', J1.yld j H x H' → g1 x (wipe σ2 vs1) H' fun σ3 H5 => wipe σ3 vs1 = wipe σ2 vs1 ∧ tt1 σ3 H5 fun b H6 =>
          if b = true then te σ3 H6 fun y H7 => ∃ acc, H7 D = some (.lst acc) ∧ acc.length < sizeLine ∧ Nx1 (upd H7 D (.lst (acc ++ [y]))) else Nx1 H6)
      else Pv (i + 1) H3) (hd : ∀ H, Pv xs.length H → Qd H) :
    ∃ W : Nat → Nat → Hp → Prop, (∃ m, W 0 m (upd H1 D (.lst []))) ∧ ∀ i m H, W i m H →
      ((Itt K a).stop i H ∧ Qd H) ∨ ((Itt K a).go i H ∧ ∃ Nx : Hp → Prop, (∀ H', Nx H' → ∃ m', m' < m ∧ W (i + 1) m' H') ∧ ∀ x H', (Itt K a).yld i H x H' → g x (wipe σ vs) H' fun σ2 H2 => wipe σ2 vs = wipe σ vs ∧ tt σ2 H2 fun b H3 =>
        if b = true then wi1 σ2 H3 fun J1 H4 => ∃ W1 : Nat → Nat → Hp → Prop, (∃ m, W1 0 m H4) ∧ ∀ j k H, W1 j k H →
          (J1.stop j H ∧ Nx H) ∨ (J1.go j H ∧ ∃ Nx1 : Hp → Prop, (∀ H', Nx1 H' → ∃ k', k' < k ∧ W1 (j + 1) k' H') ∧ ∀ x H', J1.yld j H x H' → g1 x (wipe σ2 vs1) H' fun σ3 H5 => wipe σ3 vs1 = wipe σ2 vs1 ∧ tt1 σ3 H5 fun b H6 =>
            if b = true then te σ3 H6 fun y H7 => ∃ acc, H7 D = some (.lst acc) ∧ acc.length < sizeLine ∧ Nx1 (upd H7 D (.lst (acc ++ [y]))) else Nx1 H6)
        else Nx H3) := by
  subst hw
  refine ⟨fun i m H => m = xs.length - i ∧ i ≤ xs.length ∧ Pv i H, ⟨xs.length, by simp, Nat.zero_le _, h0⟩, ?_⟩
  rintro i m H ⟨rfl, hi, p⟩
  have q := hl i H hi p
  by_cases hlt : i < xs.length
  · refine .inr ⟨⟨xs, xs[i], q, by simp [hlt]⟩, Pv (i + 1), fun H' p' => ⟨xs.length - (i + 1), by omega, rfl, hlt, p'⟩, fun x H' y => ?_⟩
    obtain ⟨e, y⟩ := y
    subst e
    exact hs i x _ (y xs q) p
  · have e : i = xs.length := by omega
    subst e
    exact .inl ⟨⟨xs, q, Nat.le_refl _⟩, hd H p⟩
end
/-- the pairs at the beginning -/
def prs0 (R : List FRow) : List (Str × Str) := R.flatMap fun r => r.ps.map fun q => (r.nm, q.1)
theorem prs0_snoc (R : List FRow) {i : Nat} (h : i < R.length) : prs0 (R.take (i + 1)) = prs0 (R.take i) ++ R[i].ps.map fun q => (R[i].nm, q.1) := by
  unfold prs0
  rw [List.take_add_one, List.getElem?_eq_getElem h, Option.toList_some, List.flatMap_append]
  simp
theorem mem_prs0 {R : List FRow} {x g : Str} : (x, g) ∈ prs0 R ↔ Edge R x g := by
  unfold prs0 Edge
  rw [List.mem_flatMap]
  constructor
  · rintro ⟨r, hr, h⟩
    obtain ⟨q, hq, e⟩ := List.mem_map.mp h
    injection e with e1 e2
    exact ⟨r, hr, e1, by rw [← e2]; exact List.mem_map_of_mem hq⟩
  · rintro ⟨r, hr, rfl, h⟩
    obtain ⟨q, hq, rfl⟩ := List.mem_map.mp h
    exact ⟨r, hr, List.mem_map.mpr ⟨q, hq, rfl⟩⟩
theorem CL.begin {R : List FRow} {xs : List Str} (rn : RowsN xs R) : CL R xs (fun _ => []) (prs0 R) :=
  ⟨fun q hq => by have e := mem_prs0.mp hq; exact ⟨(e.mem rn).1, (e.mem rn).2, .single e⟩, (fun x hx g h => nomatch h), fun x hx => List.nodup_nil, fun x g e => .inr (mem_prs0.mpr e), (fun x hx y hy z h => nomatch h)⟩
theorem len_prs0 {R : List FRow} (h : R.length ≤ 20) (h2 : ∀ r ∈ R, r.ps.length ≤ 20) : ∀ i, (prs0 (R.take i)).length ≤ 20 * i
  | 0 => by simp [prs0]
  | i + 1 => by
    have ih := len_prs0 h h2 i
    by_cases hi : i < R.length
    · rw [prs0_snoc R hi, List.length_append, List.length_map]
      have := h2 _ (List.getElem_mem hi)
      omega
    · rw [List.take_of_length_le (by omega), ← List.take_of_length_le (l := R) (i := i) (by omega)]
      omega
theorem DL.zero {H : Hp} {d : Addr} (h : H d = some (.dK [])) (ad : Str → Addr) (L : Str → List Str) : DL H d [] ad L := ⟨h, by simp, by simp⟩
end HH
namespace HH
open PySem PySem.Spec PyProof.Rows L2 PySem.SeqAt
theorem ZT.wr {H : Hp} {a l : Addr} {xs ys : List V} {o : HO} (z : ZT H a xs) (h : H l = some (.lst ys)) : ZT (upd H l o) a xs := by
  obtain ⟨ob, c, e⟩ := z
  exact ⟨ob, c, by rw [upd_ne (fun w => by rw [w, h] at e; cases e)]; exact e⟩
def PZ (H : Hp) (L : PL) : Prop := ∀ q ∈ L, ZT H q.1 (q.2.map V.str) ∧ ∀ z ∈ q.2, Low z
theorem PZ.pls {K : PySem.W.Frag} {H : Hp} {L : PL} (h : PZ H L) : PLs K H L := fun q hq => ⟨(h q hq).1.seq, (h q hq).2⟩
theorem PZ.keep {H H' : Hp} {L : PL} (h : PZ H L) (s : Same H H') : PZ H' L := fun q hq => ⟨(h q hq).1.keep s, (h q hq).2⟩
theorem PZ.wr {H : Hp} {l : Addr} {ys : List V} {o : HO} {L : PL} (h : PZ H L) (hl : H l = some (.lst ys)) : PZ (upd H l o) L := fun q hq => ⟨(h q hq).1.wr hl, (h q hq).2⟩
theorem PZ.snoc {H : Hp} {L : PL} {q : Addr × List Str} (h : PZ H L) (z : ZT H q.1 (q.2.map V.str)) (l : ∀ y ∈ q.2, Low y) : PZ H (L ++ [q]) := fun x hx => by
  rcases List.mem_append.mp hx with e | e
  · exact h x e
  · rw [List.mem_singleton.mp e]; exact ⟨z, l⟩
theorem rd_inA {P : Program} {w : World} {K : PySem.W.Frag} {H : Hp} {Q : VK} {z : Str} {p : Addr} {xs : List Str} (hp : SqL K H p (xs.map V.str) ∨ SqT K H p (xs.map V.str)) (h : Q (.bl (decide (z ∈ xs))) H) : rInU P w K false (.str z) (.ref p) H Q :=
  .inl (.inl ⟨p, _, rfl, hp, rfl, flat_strs xs, by rw [inV_strs]; exact h⟩)
theorem erase_idx {α : Type} [DecidableEq α] {p : α} : ∀ {l : List α} {j : Nat}, (l.findIdx? fun y => decide (y = p)) = some j → l.eraseIdx j = l.erase p
  | [], j, h => by simp at h
  | a :: l, j, h => by
    rw [List.findIdx?_cons] at h
    by_cases e : a = p
    · rw [if_pos (decide_eq_true e)] at h
      obtain rfl := Option.some.inj h
      rw [e, List.erase_cons_head]; rfl
    · rw [if_neg (by simpa using e)] at h
      obtain ⟨k, hk, rfl⟩ := Option.map_eq_some_iff.mp h
      rw [List.eraseIdx_cons_succ, erase_idx hk, List.erase_cons_tail (by simpa using e)]
theorem find_some {α : Type} [DecidableEq α] {p : α} : ∀ {l : List α}, p ∈ l → ∃ j, (l.findIdx? fun y => decide (y = p)) = some j
  | a :: l, h => by
    rw [List.findIdx?_cons]
    by_cases e : a = p
    · exact ⟨0, by rw [if_pos (decide_eq_true e)]⟩
    · rw [if_neg (by simpa using e)]
      rcases List.mem_cons.mp h with z | z
      · exact absurd z.symm e
      · obtain ⟨j, hj⟩ := find_some z
        exact ⟨j + 1, by rw [hj]; rfl⟩
theorem map_filter2 {r : List Str → Bool} : ∀ (L : PL), (L.filter fun q => r q.2).map (·.2) = (L.map (·.2)).filter r
  | [] => rfl
  | q :: L => by
    rw [List.map_cons, List.filter_cons, List.filter_cons]
    by_cases c : r q.2 = true
    · rw [if_pos c, if_pos c, List.map_cons, map_filter2 L]
    · rw [if_neg c, if_neg c, map_filter2 L]
end HH
namespace HH
open PySem PySem.Spec PyProof.Rows L2 PySem.SeqAt
/-! ### the parts, as the lists tell them -/
def inPart (L : Str → List Str) (x o : Str) : Bool := decide (o = x) || (decide (o ∈ L x) && decide (x ∈ L o))
open Classical in
theorem part_B {r : Str → Str → Prop} {L : Str → List Str} {xs : List Str} (h : ∀ x ∈ xs, ∀ g, g ∈ L x ↔ r x g) {x : Str} (hx : x ∈ xs) : xs.filter (inPart L x) = partOf r xs x := by
  unfold partOf
  refine List.filter_congr fun o ho => ?_
  have e : (inPart L x o = true) ↔ (o = x ∨ (r x o ∧ r o x)) := by
    unfold inPart
    rw [Bool.or_eq_true, Bool.and_eq_true, decide_eq_true_eq, decide_eq_true_eq, decide_eq_true_eq, h x hx, h o ho]
  by_cases c : o = x ∨ (r x o ∧ r o x)
  · rw [e.mpr c]; exact (decide_eq_true (p := o = x ∨ (r x o ∧ r o x)) c).symm
  · rw [Bool.eq_false_iff.mpr (fun z => c (e.mp z))]; exact (decide_eq_false (p := o = x ∨ (r x o ∧ r o x)) c).symm
def rdB (L : Str → List Str) (pl p : List Str) : Bool := (L (hd p)).all fun g => decide (g ∈ pl) || decide (g ∈ p)
theorem rd_B {r : Str → Str → Prop} {L : Str → List Str} {xs : List Str} (h : ∀ x ∈ xs, ∀ g, g ∈ L x ↔ r x g) {pl p : List Str} (hp : hd p ∈ xs) : rdB L pl p = rdy r pl p := by
  have e : rdB L pl p = true ↔ rdy r pl p = true := by
    rw [rdy_iff]
    unfold rdB
    rw [List.all_eq_true]
    refine forall_congr' fun g => ?_
    rw [h _ hp, Bool.or_eq_true, decide_eq_true_eq, decide_eq_true_eq]
  cases c : rdB L pl p with
  | true => exact (e.mp c).symm
  | false =>
    cases c2 : rdy r pl p with
    | false => rfl
    | true => rw [e.mpr c2] at c; cases c
theorem filter_take {α : Type} (p : α → Bool) {l : List α} {i : Nat} (h : i < l.length) : (l.take (i + 1)).filter p = (l.take i).filter p ++ if p l[i] = true then [l[i]] else [] := by
  rw [List.take_add_one, List.getElem?_eq_getElem h, Option.toList_some, List.filter_append]
  congr 1
  rw [List.filter_cons]
  rfl
theorem rd_iOB {K : PySem.W.Frag} {σ : L2.St} {H0 H : Hp} {n : Nat} {a : Addr} {xs : List V} {R : It → Hp → Prop} (e : σ[n]? = some (some (V.ref a))) (s : Same H0 H) (h : SqL K H0 a xs ∨ SqT K H0 a xs)
    (k : ∀ (J : It) (G : Hp → Prop), (∀ H', Same H0 H' → G H') → Walk J xs.length G (YAt xs) → R J H) : iOr (iList K (tVar n)) (iTup K (tVar n)) σ H R := by
  rcases h with h | h
  · exact .inl ⟨_, e, a, rfl, ⟨xs, same_seq s h⟩, k _ _ (fun H' s => same_seq s h) walk_list⟩
  · exact .inr ⟨_, e, a, rfl, ⟨xs, same_tup s _ _ h⟩, k _ _ (fun H' s => same_tup s _ _ h) walk_tup⟩
theorem erase_idxB {α : Type} [BEq α] [LawfulBEq α] [DecidableEq α] {p : α} : ∀ {l : List α} {j : Nat}, (l.findIdx? fun y => decide (y = p)) = some j → l.eraseIdx j = l.erase p
  | [], j, h => by simp at h
  | a :: l, j, h => by
    rw [List.findIdx?_cons] at h
    by_cases e : a = p
    · rw [if_pos (decide_eq_true e)] at h
      obtain rfl := Option.some.inj h
      rw [e, List.erase_cons_head]; rfl
    · rw [if_neg (by simpa using e)] at h
      obtain ⟨k, hk, rfl⟩ := Option.map_eq_some_iff.mp h
      rw [List.eraseIdx_cons_succ, erase_idxB hk, List.erase_cons_tail (by simpa using e)]
theorem at_hd {p : List Str} (h : p ≠ []) : atI (p.map V.str) 0 = some (V.str (hd p)) := by
  cases p with
  | nil => exact absurd rfl h
  | cons a l => simp [atI, ixN, hd]
theorem rd_ninA {P : Program} {w : World} {K : PySem.W.Frag} {H : Hp} {Q : VK} {z : Str} {p : Addr} {xs : List Str} (hp : SqL K H p (xs.map V.str) ∨ SqT K H p (xs.map V.str)) (h : Q (.bl (!decide (z ∈ xs))) H) : rInU P w K true (.str z) (.ref p) H Q :=
  .inl (.inl ⟨p, _, rfl, hp, rfl, flat_strs xs, by rw [inV_strs]; exact h⟩)
theorem part_hd {r : Str → Str → Prop} {xs : List Str} {x : Str} (h : x ∈ xs) : hd (partOf r xs x) ∈ xs := (mem_part.mp (hd_mem (part_ne h))).1
theorem part_low {r : Str → Str → Prop} {xs : List Str} {x : Str} (h : ∀ y ∈ xs, Low y) : ∀ y ∈ partOf r xs x, Low y := fun y hy => h y (mem_part.mp hy).1
theorem part_len {r : Str → Str → Prop} {xs : List Str} {x : Str} : (partOf r xs x).length ≤ xs.length := List.length_filter_le _ _
end HH
namespace HH
open PySem PySem.Spec PyProof.Rows L2 PySem.SeqAt
/-! ### the closure, turn by turn -/
def PTh (R : List FRow) : Nat → Str → Str → Prop
  | 0 => Edge R
  | t + 1 => fun x g => PTh R t x g ∨ ∃ h, PTh R t x h ∧ Edge R h g
theorem PTh.zero {R : List FRow} : ∀ {t : Nat} {x g : Str}, Edge R x g → PTh R t x g
  | 0, _, _, e => e
  | t + 1, _, _, e => .inl (PTh.zero e)
theorem PTh.tc {R : List FRow} : ∀ {t : Nat} {x g : Str}, PTh R t x g → TC R x g
  | 0, _, _, e => .single e
  | t + 1, _, _, .inl e => PTh.tc e
  | t + 1, _, _, .inr ⟨_, e, f⟩ => .tail (PTh.tc e) f
open Classical in
theorem tc_pt {R : List FRow} {xs : List Str} (rn : RowsN xs R) {x g : Str} (h : TC R x g) : PTh R xs.length x g := by
  have key : ∀ t, (∀ g, TC R x g → PTh R t x g) ∨ t + 1 ≤ (xs.filter fun g => decide (PTh R t x g)).length := by
    intro t
    induction t with
    | zero =>
      by_cases c : ∃ g, Edge R x g
      · obtain ⟨g, e⟩ := c
        refine .inr (List.length_pos_of_mem (a := g) (List.mem_filter.mpr ⟨(e.mem rn).2, decide_eq_true e⟩))
      · refine .inl fun g t => False.elim ?_
        induction t with
        | single e => exact c ⟨_, e⟩
        | tail _ _ ih => exact ih
    | succ t ih =>
      rcases ih with ih | ih
      · exact .inl fun g h => .inl (ih g h)
      · by_cases c : ∀ g, PTh R (t + 1) x g → PTh R t x g
        · refine .inl fun g h => .inl ?_
          induction h with
          | single e => exact PTh.zero e
          | tail _ e ih2 => exact c _ (.inr ⟨_, ih2, e⟩)
        · obtain ⟨g, hg⟩ := Classical.not_forall.mp c
          have hg1 : PTh R (t + 1) x g := Classical.byContradiction fun z => hg fun w => absurd w z
          have hg2 : ¬ PTh R t x g := fun z => hg fun _ => z
          have := filter_lt (l := xs) (p := fun g => decide (PTh R t x g)) (q := fun g => decide (PTh R (t + 1) x g)) (fun y hy => decide_eq_true (.inl (of_decide_eq_true hy))) ⟨g, TC.mem rn (PTh.tc hg1), decide_eq_true hg1, decide_eq_false hg2⟩
          exact .inr (by omega)
  rcases key xs.length with k | k
  · exact k g h
  · have := List.length_filter_le (fun g => decide (PTh R xs.length x g)) xs
    omega
/-- what stands is right, and of each thing once -/
structure So (R : List FRow) (xs : List Str) (L : Str → List Str) : Prop where
  so : ∀ x ∈ xs, ∀ g ∈ L x, TC R x g
  nd : ∀ x ∈ xs, (L x).Nodup
def Mo (xs : List Str) (L L' : Str → List Str) : Prop := ∀ x ∈ xs, ∀ g ∈ L x, g ∈ L' x
theorem Mo.refl (xs : List Str) (L : Str → List Str) : Mo xs L L := fun _ _ _ h => h
theorem Mo.trans {xs : List Str} {L L' L'' : Str → List Str} (a : Mo xs L L') (b : Mo xs L' L'') : Mo xs L L'' := fun x hx g h => b x hx g (a x hx g h)
theorem Mo.add {xs : List Str} {L : Str → List Str} {x g : Str} : Mo xs L (addL L x g) := fun y _ h m => by
  unfold addL
  by_cases e : y = x
  · rw [if_pos e]; rw [e] at m; exact List.mem_append_left _ m
  · rw [if_neg e]; exact m
theorem mem_addL {L : Str → List Str} {x g : Str} : g ∈ addL L x g x := by unfold addL; rw [if_pos rfl]; exact List.mem_append_right _ List.mem_cons_self
theorem So.add {R : List FRow} {xs : List Str} {L : Str → List Str} {x g : Str} (s : So R xs L) (c : g ∉ L x) (t : TC R x g) : So R xs (addL L x g) := by
  refine ⟨fun y hy h m => ?_, fun y hy => ?_⟩
  · unfold addL at m
    by_cases e : y = x
    · subst e
      rw [if_pos rfl] at m
      rcases List.mem_append.mp m with z | z
      · exact s.so y hy h z
      · rw [List.mem_singleton.mp z]; exact t
    · rw [if_neg e] at m; exact s.so y hy h m
  · unfold addL
    by_cases e : y = x
    · subst e
      rw [if_pos rfl]
      refine List.nodup_append.mpr ⟨s.nd y hy, List.nodup_cons.mpr ⟨List.not_mem_nil, List.nodup_nil⟩, fun u hu v hv e2 => ?_⟩
      rw [List.mem_singleton.mp hv] at e2
      rw [e2] at hu; exact c hu
    · rw [if_neg e]; exact s.nd y hy
theorem So.len {R : List FRow} {xs : List Str} {L : Str → List Str} (s : So R xs L) (rn : RowsN xs R) {x : Str} (hx : x ∈ xs) : (L x).length ≤ xs.length :=
  List.Nodup.length_le_of_subset (s.nd x hx) fun g hg => TC.mem rn (s.so x hx g hg)
end HH
namespace HH
open PySem PySem.Spec PyProof.Rows L2 PySem.SeqAt
theorem DL.put {H : Hp} {d : Addr} {ys : List Str} {ad : Str → Addr} {L : Str → List Str} (D : DL H d ys ad L) {x : Str} {l : Addr} (hx : x ∉ ys) (nl : H l = none) :
    DL (upd (upd H l (.lst [])) d (.dK (putK (ys.map fun y => ((Sum.inr y : Key), V.ref (ad y))) (Sum.inr x) (V.ref l)))) d (ys ++ [x]) (fun y => if y = x then l else ad y) (fun y => if y = x then [] else L y) := by
  have dl : d ≠ l := ne_of_none D.d nl
  have cs : ∀ {u : Str}, u ∈ ys ++ [x] → u ≠ x → u ∈ ys := fun {u} m c => by
    rcases List.mem_append.mp m with z | z
    · exact z
    · exact absurd (List.mem_singleton.mp z) c
  refine ⟨by rw [upd_same, putK_dl hx], fun y hy => ?_, fun y hy z hz e => ?_⟩
  · skip
    by_cases c : y = x
    · rw [if_pos c, if_pos c, upd_ne dl.symm, upd_same]; rfl
    · rw [if_neg c, if_neg c, upd_ne (D.ne (cs hy c)), upd_ne (ne_of_none (D.l y (cs hy c)) nl)]
      exact D.l y (cs hy c)
  · skip
    by_cases cy : y = x
    · by_cases cz : z = x
      · rw [cy, cz]
      · rw [if_pos cy, if_neg cz] at e
        have := D.l z (cs hz cz)
        rw [← e, nl] at this
        cases this
    · by_cases cz : z = x
      · rw [if_neg cy, if_pos cz] at e
        have := D.l y (cs hy cy)
        rw [e, nl] at this
        cases this
      · rw [if_neg cy, if_neg cz] at e
        exact D.inj y (cs hy cy) z (cs hz cz) e
theorem take_succ {α : Type} {l : List α} {i : Nat} (h : i < l.length) : l.take (i + 1) = l.take i ++ [l[i]] := by
  rw [List.take_add_one, List.getElem?_eq_getElem h]; rfl
theorem nd_take {α : Type} {l : List α} {i : Nat} (nd : l.Nodup) (h : i < l.length) : l[i] ∉ l.take i := fun m => by
  obtain ⟨j, hj, e⟩ := List.getElem_of_mem m
  rw [List.length_take] at hj
  rw [List.getElem_take] at e
  exact (List.pairwise_iff_getElem.mp nd) j i (by omega) h (by omega) e
theorem prs0_other {R : List FRow} {k : Nat} (h : k < R.length) {x g : Str} (c : R[k].nm ≠ x) : (x, g) ∈ prs0 (R.take (k + 1)) ↔ (x, g) ∈ prs0 (R.take k) := by
  rw [prs0_snoc R h, List.mem_append]
  refine ⟨fun z => ?_, .inl⟩
  rcases z with z | z
  · exact z
  · obtain ⟨q, _, e⟩ := List.mem_map.mp z
    injection e with e1 _
    exact absurd e1 c
end HH
namespace HH
open PySem PySem.Spec PyProof.Rows L2 PySem.SeqAt
def inMore (L : Str → List Str) (x o : Str) : Bool := !decide (o = x) && (decide (o ∈ L x) && decide (x ∈ L o))
theorem part_sorted {r : Str → Str → Prop} {L : Str → List Str} {xs ys : List Str} (h : ∀ x ∈ xs, ∀ g, g ∈ L x ↔ r x g) (so : xs.Pairwise SLt) {x : Str} (hx : x ∈ xs) (pm : ys.Perm (x :: xs.filter (inMore L x))) (hs : sortedS ys = true) : ys = partOf r xs x := by
  rw [← part_B h hx]
  have nd : (x :: xs.filter (inMore L x)).Nodup := List.nodup_cons.mpr ⟨fun m => by
    have := (List.mem_filter.mp m).2
    unfold inMore at this
    simp at this, (strict_nodup so).filter _⟩
  refine strict_uniq (strict_of (sorted_pw hs) (pm.nodup_iff.mpr nd)) (so.filter _) fun z => ?_
  rw [pm.mem_iff, List.mem_cons, List.mem_filter, List.mem_filter]
  unfold inMore inPart
  constructor
  · rintro (e | ⟨m, e⟩)
    · rw [e]; exact ⟨hx, by simp⟩
    · refine ⟨m, ?_⟩
      rw [Bool.and_eq_true] at e
      rw [e.2, Bool.or_true]
  · rintro ⟨m, e⟩
    by_cases c : z = x
    · exact .inl c
    · refine .inr ⟨m, ?_⟩
      have c' : decide (z = x) = false := decide_eq_false c
      rw [c', Bool.false_or] at e
      rw [c', e]; rfl
theorem filter_not_snoc {α : Type} [BEq α] [LawfulBEq α] [DecidableEq α] {W F : List α} {p : α} (nd : W.Nodup) : (W.filter fun x => decide (x ∉ F ++ [p])) = (W.filter fun x => decide (x ∉ F)).erase p := by
  rw [List.Nodup.erase_eq_filter (nd.filter _), List.filter_filter]
  refine List.filter_congr fun x _ => ?_
  by_cases a : x = p
  · subst a; simp
  · by_cases b : x ∈ F <;> simp [a, b]
theorem zero_all {pl p l : List Str} : decide ((l.filter fun g => !decide (g ∈ p) && !decide (g ∈ pl)).length = 0) = l.all fun g => decide (g ∈ pl) || decide (g ∈ p) := by
  induction l with
  | nil => rfl
  | cons a l ih =>
    rw [List.filter_cons, List.all_cons, ← ih]
    by_cases h1 : a ∈ p <;> by_cases h2 : a ∈ pl <;> simp [h1, h2]
end HH
namespace HH
open PySem PySem.Spec PyProof.Rows L2 PySem.SeqAt
open Sem (wp)
/-! ### enumerate over a tuple -/
theorem enum_new1 {v : Value} {o : Obj} {S : Heap → Prop} (B : Begins v o S) :
    Meets (Builtin.«enumerate.__new__» ⟨[.type "enumerate", v], []⟩) (fun _ R s => S s.heap ∧
      R (.ok (.ret (.ref (s.heap.push o).objs.size))) { s with heap := (s.heap.push o).push { cls := .type "enumerate", data := .fields #[.none, .bool false, .ref s.heap.objs.size, rawInt 0, .none, .none] } }) :=
  .of_wp fun prog w A R s h => by
    obtain ⟨hp, g, d, tk, os⟩ := s
    obtain ⟨h1, h⟩ := h
    have hsub := sub_enumerate
    have q1 : ∀ {A' : Around} {E : Value → Shared → Prop} {Q : Value → Shared → Prop}, Q (.ref hp.objs.size) ⟨hp.push o, g, d, tk, os⟩ → wpAny (model prog w) A' (pyIter v) Q E ⟨hp, g, d, tk, os⟩ :=
      fun q => B.iter prog w _ _ ⟨hp, g, d, tk, os⟩ _ h1 q
    wp_walk using q1
    refine wpAny_stack_any fun st => wpAny_pure ?_
    split
    · rename_i c _ _ _ _ _
      cases (c == Value.type "enumerate") <;> (wp_walk using q1; exact ⟨_, rfl, h⟩)
    · wp_walk using q1
      exact ⟨_, rfl, h⟩
theorem call_enum_tup {prog : Program} {w : World} {A : Around} {E : Value → Shared → Prop} {s : Shared} {t : Addr} {items : Array Value} {Q : Value → Shared → Prop} (hT : s.heap.IsTuple t items)
    (h : ∀ h', IsEnum h' (s.heap.objs.size + 1) s.heap.objs.size 0 .none → h'.IsTupleIter s.heap.objs.size t 0 → h'.objs.size = s.heap.objs.size + 2 →
      (∀ b o, s.heap.get? b = some o → h'.get? b = some o) → Q (.ref (s.heap.objs.size + 1)) { s with heap := h' }) : wpAny (model prog w) A (call (.type "enumerate") [.ref t]) Q E s := by
  refine callType_new F.called_enumerate (by decide) (F.typeCall_enumerate_1 _) (F.newCall_enumerate_1 _) (fun obj => F.args_object_init_2 obj _) F.entry_enumerate_new
    (enum_new1 (begins_tuple t items)) ⟨hT, ?_⟩
  have hz : (s.heap.push { cls := .type "tuple_iterator", data := .fields #[.ref t, .int 0 0] }).objs.size = s.heap.objs.size + 1 := Heap.size_push ..
  show _ ∧ _
  rw [hz]
  have he : IsEnum ((s.heap.push { cls := .type "tuple_iterator", data := .fields #[.ref t, .int 0 0] }).push { cls := .type "enumerate", data := .fields #[.none, .bool false, .ref s.heap.objs.size, rawInt 0, .none, .none] }) (s.heap.objs.size + 1) s.heap.objs.size 0 .none := by
    have := Heap.get?_push_size (s.heap.push { cls := .type "tuple_iterator", data := .fields #[.ref t, .int 0 0] }) (o := { cls := .type "enumerate", data := .fields #[.none, .bool false, .ref s.heap.objs.size, rawInt 0, .none, .none] }) rfl
    rw [hz] at this; exact this
  exact ⟨⟨_, he, rfl⟩, h _ he ⟨_, Heap.get?_push_of_some _ (Heap.get?_push_size _ rfl), rfl, rfl⟩ (by rw [Heap.size_push, hz]) fun b o x => Heap.get?_push_of_some _ (Heap.get?_push_of_some _ x)⟩
/-- the tuple at a, each item in a new pair -/
def IteT (K : PySem.W.Frag) (a : Addr) : It :=
  ⟨fun i H => ∃ (xs : List V) (x : V), SqT K H a xs ∧ xs[i]? = some x, fun i H v H' => ∃ T x, v = .ref T ∧ H T = none ∧ H' = upd H T (.tup [.int (i : Nat), x]) ∧ ∀ xs, SqT K H a xs → xs[i]? = some x, fun i H => ∃ xs : List V, SqT K H a xs ∧ xs.length = i⟩
theorem turn_enumT {P : Program} {w : World} {K : PySem.W.Frag} {elts : List Expr} {kk : Nat} {tpos : Pos} (a e it : Addr) (hai : a ≠ it) :
    Turn P w K (.Tuple elts kk tpos) (IteT K a) [e, it] e (fun i h => (∃ old, IsEnum h e it ((i : Nat) : Int) old) ∧ h.IsTupleIter it a i ∧ e ≠ it ∧ e ≠ a) where
  mem := by simp
  obj := fun i h st b hb => by
    obtain ⟨⟨old, he⟩, ⟨o, ho, hc, hd⟩, _⟩ := st
    have e' : b = e ∨ b = it := by simpa using hb
    rcases e' with z | z
    · rw [z]; exact ⟨_, he, fun v q => nomatch q⟩
    · rw [z]; exact ⟨o, ho, fun v q => by rw [hd] at q; cases q⟩
  keep := fun i h h' st k => let ⟨⟨old, he⟩, hi, hne⟩ := st; ⟨⟨old, k e (by simp) _ he⟩, hi.at fun o q => k it (by simp) o q, hne⟩
  item := by
    intro X hP hw hK hc i pins s σ H E I hf st hg
    subst hP hw hK
    obtain ⟨⟨old, he⟩, hit, hne, hea⟩ := st
    obtain ⟨xs, x, hq, hx⟩ := hg
    obtain ⟨its, rv, p, hz⟩ := I.tuple hq
    obtain ⟨u, hu, ru⟩ := rv.get hx
    have hel : e < s.heap.objs.size := Heap.lt_size he
    have hlt : i < its.toArray.size := by
      rw [List.size_toArray]
      exact (List.getElem?_eq_some_iff.mp hu).1
    have D := Draws.tuple (prog := X.prog) (w := X.w) (A := X.A.in1) (I.ok.hd hc) it a hai its.toArray
    refine wpAny_pyNext_enum_itemC D he ⟨hit, p⟩ hlt hne (by simp [hne, hea]) fun x' h' tk hP ho hst' hT hsz hk => ?_
    obtain rfl : x' = u := by
      have h1 : its.toArray[i]? = some u := by simpa using hu
      exact Option.some.inj (hP.symm.trans h1)
    have hit' := hst'.1
    refine ⟨_, rfl, wpAny_letOwnedTupleGo_enum (s := { s with heap := h', toks := tk + 1 }) ho fun h'' he' sb => ?_⟩
    have hT2 : h''.get? s.heap.objs.size = some { cls := .type "tuple", data := .seq #[.int i tk, x'] } := (sb.2 _ (Nat.ne_of_gt hel)).trans hT
    have new : ObjOk X.prog X.w (upd H s.heap.objs.size (.tup [.int (i : Nat), x])) h'' s.heap.objs.size (.tup [.int (i : Nat), x]) :=
      ⟨by show 2 ≤ sizeLine; decide, [.int i tk, x'], .cons ⟨_, rfl⟩ (.cons ru .nil), ⟨_, hT2, rfl, _, rfl⟩⟩
    have I1 : Inv X pins σ (upd H s.heap.objs.size (.tup [.int (i : Nat), x])) { s with heap := h'', toks := tk + 1 } :=
      I.turnedNew (ch := [e, it]) (fun b ob hb q => (sb.2 b (fun z => hb (by simp [z]))).trans (hk b ob (fun z => hb (by simp [z])) (fun z => hb (by simp [z])) q)) hf (Nat.le_refl _) new
    refine ⟨.ref s.heap.objs.size, _, I1, rfl, ⟨_, x, rfl, I.hok.fresh (Nat.le_refl _), rfl, fun ys hy => by rw [I.tuple_inj hy hq]; exact hx⟩, ⟨⟨x', ?_⟩, hit'.at fun o q => (sb.2 it (Ne.symm hne)).trans q, hne, hea⟩, fun b hb => ?_⟩
    · have e1 : ((i + 1 : Nat) : Int) = (i : Int) + 1 := by omega
      rw [e1]; exact he'
    · have hb' : b < s.heap.objs.size := by
        have e' : b = e ∨ b = it := by simpa using hb
        rcases e' with z | z
        · rw [z]; exact hel
        · rw [z]; exact (let ⟨_, q, _⟩ := hit; Heap.lt_size q)
      rw [upd_ne (Nat.ne_of_lt hb')]
      exact (hf b hb).1
  done := by
    intro X hP hw hK hc i pins s σ H E I hf st hg
    subst hP hw hK
    obtain ⟨⟨old, he⟩, hit, hne, hea⟩ := st
    obtain ⟨xs, hq, hx⟩ := hg
    obtain ⟨its, rv, p, hz⟩ := I.tuple hq
    obtain ⟨f0, f1, f2, f3, f4, f5⟩ := hf it (by simp)
    have hl := rv.length
    have D := Draws.tuple (prog := X.prog) (w := X.w) (A := X.A.in1) (I.ok.hd hc) it a hai its.toArray
    have en : i = its.toArray.size := by rw [List.size_toArray]; omega
    subst en
    exact wpAny_pyNext_enum_endD D he ⟨hit, p⟩ fun h' eb => ⟨rfl, I.turned (t' := s.toks) (fun b o hb q => eb b o hb q) f0 f1 f3 f4 f5⟩
  self := fun A i s Q E st h => let ⟨⟨_, he⟩, _⟩ := st; wpAny_pyIter_enum he h
def iEnumT (K : PySem.W.Frag) (ta : TA) : TI := fun σ H R => ta σ H fun vs H1 => ∃ a xs, vs = [.ref a] ∧ SqT K H1 a xs ∧ R (IteT K a) H1
theorem pi_enumT {K : PySem.W.Frag} {X : Cx} {e : Expr} {ta : TA} {p pos tpos : Pos} {elts : List Expr} {kk : Nat} (hg : Gl X "enumerate") (hm : X.mg "enumerate" = none) (ha : PA X [e] ta) (hX : X.K = K := by rfl) (hs : starEach [e] X.env = [(false, eval e X.env)] := by rfl) :
    PI X (.Tuple elts kk tpos) (.Call (.Name "enumerate" p) [e] [] pos) (iEnumT K ta) := by
  subst hX
  refine ⟨fun pins s σ H R I h => ?_⟩
  refine Call_ (ld_blt I hg hm boot_enumerate (PyProof.Rows.callWith_type1 (thn (ha.run pos pins s σ H _ I h) fun us s1 ⟨vs, H1, I1, r1, q1⟩ => ?_) hs rfl))
  obtain ⟨a, xs, ex, hq, q⟩ := q1
  subst ex
  cases r1 with
  | cons r rr =>
    cases rr
    cases r
    obtain ⟨its, rv, p', hz⟩ := I1.tuple hq
    have hla : a < s1.heap.objs.size := by obtain ⟨o, ho, _⟩ := p'; exact Heap.lt_size ho
    refine call_enum_tup p' fun h' he hit hsz hk => wpAny_pyIter_enum he ?_
    have I2 : Inv X pins σ H1 { s1 with heap := h' } := I1.kept (t' := s1.toks) hk
    refine ⟨s1.heap.objs.size + 1, [s1.heap.objs.size + 1, s1.heap.objs.size], _, _, H1, rfl, I2, turn_enumT a (s1.heap.objs.size + 1) s1.heap.objs.size (Nat.ne_of_lt hla), ⟨⟨.none, he⟩, hit, Nat.succ_ne_self _, Nat.ne_of_gt (Nat.lt_succ_of_lt hla)⟩, fun b hb => ?_, q⟩
    have e' : b = s1.heap.objs.size + 1 ∨ b = s1.heap.objs.size := by simpa using hb
    have hle : s1.heap.objs.size ≤ b := by
      rcases e' with z | z
      · rw [z]; exact Nat.le_add_right _ _
      · rw [z]; exact Nat.le_refl _
    exact I1.fpOk hle (I1.hok.fresh hle)
theorem walk_enumT {K : PySem.W.Frag} {a : Addr} {xs : List V} : Walk (IteT K a) xs.length (fun H => SqT K H a xs) (YPair (fun i => some (.int (i : Nat))) (fun i => xs[i]?)) := by
  refine ⟨fun i _ hi q => ⟨xs, xs[i], q, by simp [hi]⟩, fun _ q => ⟨xs, q, rfl⟩, fun i H v H' _ q y => ?_⟩
  obtain ⟨T, x, h1, h2, h3, h4⟩ := y
  exact ⟨T, .int (i : Nat), x, h1, h2, h3, rfl, h4 xs q⟩
end HH
namespace HH
open PySem PySem.Spec PyProof.Rows L2 PySem.SeqAt
theorem rd_iEnumT {K : PySem.W.Frag} {ta : TA} {σ : L2.St} {H : Hp} {R : It → Hp → Prop} (h : ta σ H fun vs H1 => ∃ a xs, vs = [.ref a] ∧ SqT K H1 a xs ∧ R (IteT K a) H1) : iEnumT K ta σ H R := h
end HH
namespace HH
open PySem PySem.Spec PyProof.Rows L2 PySem.SeqAt
/-! ### tables keyed by a word, a name and a product -/
abbrev Wt := List ((Bool × Str × Tab) × Int)
def encW (q : Bool × Str × Tab) : NestedKey := .tup [.text (wordK q.1), .text q.2.1, prodK q.2.2]
theorem wordK_inj {a b : Bool} (h : wordK a = wordK b) : a = b := by
  cases a <;> cases b <;> first | rfl | exact absurd h (by decide)
theorem encW_inj {a b : Bool × Str × Tab} (h : encW a = encW b) : a = b := by
  unfold encW at h
  injection h with h
  injection h with h1 h2
  injection h2 with h2 h3
  injection h3 with h3 _
  injection h1 with h1
  injection h2 with h2
  exact Prod.ext (wordK_inj h1) (Prod.ext h2 (prodK_inj h3))
theorem depth_encW (q : Bool × Str × Tab) : (encW q).depth ≤ 8 := by
  have := prodK_depth q.2.2
  simp only [encW, NestedKey.depth, NestedKey.depthAll]
  omega
def wtV (m : Wt) : List (NestedKey × V) := encV encW m
theorem wtV_len (m : Wt) : (wtV m).length = m.length := List.length_map _
theorem valV_wt (m : Wt) (z : Bool × Str × Tab) : valV (wtV m) (encW z) = (tget m z).map V.int := valV_enc encW (fun _ _ h => encW_inj h) m z
theorem putK_wt (m : Wt) (z : Bool × Str × Tab) (n : Int) : putK (wtV m) (encW z) (V.int n) = wtV (tput m z n) := putK_enc encW (fun _ _ h => encW_inj h) m z n
theorem getD_wt (m : Wt) (z : Bool × Str × Tab) : (valV (wtV m) (encW z)).getD (V.int 0) = V.int ((tget m z).getD 0) := by
  rw [valV_wt]
  cases tget m z <;> rfl
theorem key_wt {K : PySem.W.Frag} {H : Hp} {b : Bool} {nm : Str} {ps : Tab} {t u : Addr} (hu : H u = some (.tup [.str (wordK b), .str nm, .ref t])) (h : IsK K H (prodK ps) (.ref t)) : KeyAt K H (encW (b, nm, ps)) (.ref u) :=
  ⟨u, rfl, ⟨u, _, rfl, sqt hu, _, _, rfl, rfl, _, _, rfl, rfl, _, _, rfl, h, rfl⟩, depth_encW _⟩
theorem nx_atW {xs : NX} {m : Wt} (e : kvX xs = wtV m) {i : Nat} {q : NestedKey × Addr × V} (h : xs[i]? = some q) : ∃ z, m[i]? = some z ∧ q.1 = encW z.1 := by
  have h1 : (kvX xs)[i]? = some (q.1, q.2.2) := by unfold kvX; rw [List.getElem?_map, h]; rfl
  rw [e] at h1
  unfold wtV encV at h1
  rw [List.getElem?_map] at h1
  cases hm : m[i]? with
  | none => rw [hm] at h1; cases h1
  | some z =>
    rw [hm] at h1
    have := Option.some.inj h1
    exact ⟨z, rfl, (congrArg Prod.fst this).symm⟩
theorem nx_lenW {xs : NX} {m : Wt} (e : kvX xs = wtV m) : xs.length = m.length := by
  have := congrArg List.length e
  rw [wtV_len] at this
  rw [← this]; unfold kvX; rw [List.length_map]
theorem encW_at {K : PySem.W.Frag} {H : Hp} {z : Bool × Str × Tab} {v : V} (h : IsK K H (encW z) v) : ∃ a t, v = .ref a ∧ SqT K H a [.str (wordK z.1), .str z.2.1, .ref t] ∧ IsK K H (prodK z.2.2) (.ref t) := by
  obtain ⟨a, vs, rfl, s, ⟨x0, r0, rfl, h0, x1, r1, rfl, h1, x2, r2, rfl, h2, hr⟩⟩ := h
  obtain rfl : x0 = .str _ := h0
  obtain rfl : x1 = .str _ := h1
  obtain rfl : r2 = [] := hr
  obtain ⟨t, _, rfl, _⟩ := id h2
  exact ⟨a, t, rfl, s, h2⟩
def rowsW (m : Wt) : List FRow := m.map fun q => ⟨q.1.1, q.1.2.1, (tget m q.1).getD 0, q.1.2.2⟩
theorem rowsW_len (m : Wt) : (rowsW m).length = m.length := List.length_map _
/-- the things of such a table -/
def WOk (xs : List Str) (m : Wt) : Prop := ∀ q ∈ m, q.1.2.1 ∈ xs ∧ (∀ p ∈ q.1.2.2, p.1 ∈ xs) ∧ q.1.2.2.length ≤ 10
theorem WOk.put {xs : List Str} {m : Wt} (h : WOk xs m) {z : Bool × Str × Tab} (n : Int) (h1 : z.2.1 ∈ xs) (h2 : ∀ p ∈ z.2.2, p.1 ∈ xs) (h3 : z.2.2.length ≤ 10) : WOk xs (tput m z n) := fun q hq => by
  rcases mem_tput hq with r | r
  · exact h q r
  · rw [r]; exact ⟨h1, h2, h3⟩
end HH
namespace HH
open PySem PySem.Spec PyProof.Rows L2 PySem.SeqAt
def bt2 (o : Str → Str → Bool) (x y : Str) : Nat → Nat → Bool := fun i j => o (if i = 0 then x else y) (if j = 0 then x else y)
theorem vs2 {x y : Str} {t u : Tok} {i : Nat} {v : Value} (h : (#[Value.str x t, Value.str y u] : Array Value)[i]? = some v) : ∃ z k, v = .str z k ∧ (z = x ∨ z = y) ∧ z = if i = 0 then x else y := by
  match i, h with
  | 0, h => exact ⟨x, t, (Option.some.inj h).symm, .inl rfl, rfl⟩
  | 1, h => exact ⟨y, u, (Option.some.inj h).symm, .inr rfl, rfl⟩
  | i + 2, h => simp at h
theorem min_two_strs {prog : Program} {w : World} {A : Around} {E : Value → Shared → Prop} {s : Shared} {Q : Value → Shared → Prop} {x y : Str} {t u : Tok} (hh : A.handled = none)
    (h : ∀ z k h' tk, z = x ∨ z = y → (∀ c o, s.heap.get? c = some o → h'.get? c = some o) → Q (.str z k) { s with heap := h', toks := tk }) :
    wpAny (model prog w) A (call (.builtin "min") [.str x t, .str y u]) Q E s := by
  have hT : (s.heap.push { cls := .type "tuple", data := .seq #[.str x t, .str y u] }).IsTuple s.heap.objs.size #[.str x t, .str y u] := ⟨_, Heap.get?_push_size _ rfl, rfl, 0, rfl⟩
  refine call_min_two (wpAny_pyIter_tuple hT ?_)
  have hsz : (s.heap.push { cls := .type "tuple", data := .seq #[.str x t, .str y u] }).objs.size = s.heap.objs.size + 1 := Heap.size_push ..
  refine ⟨_, [_, s.heap.objs.size], [_], _, _, _, bt2 (fun a b => decide (a.cps.toList < b.cps.toList)) x y, rfl, Walks.tuple (A := A.in1) hh _ s.heap.objs.size (by rw [hsz]; exact Nat.ne_of_lt (Nat.lt_succ_self _)) #[.str x t, .str y u],
    ⟨⟨_, Heap.get?_push_size _ rfl, rfl, rfl⟩, hT.push _⟩, fun c hc => ?_, by simp, fun i j vi vj s Q E hi hj hQ => ?_, fun v h' tk hP hk => ?_⟩
  · show c < ((s.heap.push _).push _).objs.size
    rw [Heap.size_push, hsz]
    rcases List.mem_cons.mp hc with rfl | hc
    · rw [hsz]; exact Nat.lt_succ_self _
    · rcases List.mem_cons.mp hc with rfl | hc
      · exact Nat.lt_succ_of_lt (Nat.lt_succ_self _)
      · cases hc
  · obtain ⟨z1, k1, rfl, _, e1⟩ := vs2 hi
    obtain ⟨z2, k2, rfl, _, e2⟩ := vs2 hj
    unfold bt2 at hQ
    rw [← e1, ← e2] at hQ
    exact richCompare_gives (op := .Lt) (typeIs_str s z1 k1) (typeIs_str s z2 k2) F.slot_str_lt F.entry_str_lt (F.args_str_lt_2 _ _) (gives_str_lt z1 z2 k1 k2) (fun e => nomatch e) hQ
  · have hold : ∀ c o, s.heap.get? c = some o → h'.get? c = some o := fun c o e => by
      refine hk c o (fun hm => ?_) (Heap.get?_push_of_some _ (Heap.get?_push_of_some _ e))
      rcases List.mem_cons.mp hm with e1 | hm
      · have := Heap.lt_size e; rw [e1, hsz] at this; exact Nat.lt_irrefl _ (Nat.lt_of_succ_lt this)
      · cases hm
    obtain ⟨z, k, rfl, hz, _⟩ := vs2 hP
    exact h z k h' tk hz hold
theorem max_two_strs {prog : Program} {w : World} {A : Around} {E : Value → Shared → Prop} {s : Shared} {Q : Value → Shared → Prop} {x y : Str} {t u : Tok} (hh : A.handled = none)
    (h : ∀ z k h' tk, z = x ∨ z = y → (∀ c o, s.heap.get? c = some o → h'.get? c = some o) → Q (.str z k) { s with heap := h', toks := tk }) :
    wpAny (model prog w) A (call (.builtin "max") [.str x t, .str y u]) Q E s := by
  have hT : (s.heap.push { cls := .type "tuple", data := .seq #[.str x t, .str y u] }).IsTuple s.heap.objs.size #[.str x t, .str y u] := ⟨_, Heap.get?_push_size _ rfl, rfl, 0, rfl⟩
  refine call_max_two (wpAny_pyIter_tuple hT ?_)
  have hsz : (s.heap.push { cls := .type "tuple", data := .seq #[.str x t, .str y u] }).objs.size = s.heap.objs.size + 1 := Heap.size_push ..
  refine ⟨_, [_, s.heap.objs.size], [_], _, _, _, bt2 (fun a b => decide (b.cps.toList < a.cps.toList)) x y, rfl, Walks.tuple (A := A.in1) hh _ s.heap.objs.size (by rw [hsz]; exact Nat.ne_of_lt (Nat.lt_succ_self _)) #[.str x t, .str y u],
    ⟨⟨_, Heap.get?_push_size _ rfl, rfl, rfl⟩, hT.push _⟩, fun c hc => ?_, by simp, fun i j vi vj s Q E hi hj hQ => ?_, fun v h' tk hP hk => ?_⟩
  · show c < ((s.heap.push _).push _).objs.size
    rw [Heap.size_push, hsz]
    rcases List.mem_cons.mp hc with rfl | hc
    · rw [hsz]; exact Nat.lt_succ_self _
    · rcases List.mem_cons.mp hc with rfl | hc
      · exact Nat.lt_succ_of_lt (Nat.lt_succ_self _)
      · cases hc
  · obtain ⟨z1, k1, rfl, _, e1⟩ := vs2 hi
    obtain ⟨z2, k2, rfl, _, e2⟩ := vs2 hj
    unfold bt2 at hQ
    rw [← e1, ← e2] at hQ
    exact richCompare_gives (op := .Gt) (typeIs_str s z1 k1) (typeIs_str s z2 k2) F.slot_str_gt F.entry_str_gt (F.args_str_gt_2 _ _) (gives_str_gt z1 z2 k1 k2) (fun e => nomatch e) hQ
  · have hold : ∀ c o, s.heap.get? c = some o → h'.get? c = some o := fun c o e => by
      refine hk c o (fun hm => ?_) (Heap.get?_push_of_some _ (Heap.get?_push_of_some _ e))
      rcases List.mem_cons.mp hm with e1 | hm
      · have := Heap.lt_size e; rw [e1, hsz] at this; exact Nat.lt_irrefl _ (Nat.lt_of_succ_lt this)
      · cases hm
    obtain ⟨z, k, rfl, hz, _⟩ := vs2 hP
    exact h z k h' tk hz hold
def rPick2 : List V → Hp → VK → Prop := fun xs H Q => ∃ x y, xs = [.str x, .str y] ∧ ∀ z, z = x ∨ z = y → Q (.str z) H
theorem cr_min2S {X : Cx} (hc : X.calm = true) : CallR X (.builtin "min") rPick2 := by
  intro pins s σ H xs us Q I r h
  obtain ⟨i, j, rfl, q⟩ := h
  obtain ⟨u, w', rfl, ⟨t, rfl⟩, ⟨t', rfl⟩⟩ := vals2 r
  exact min_two_strs (I.ok.hd hc) fun z k h' tk hz kp => ⟨.str z, H, I.kept kp, ⟨_, rfl⟩, q z hz⟩
theorem cr_max2S {X : Cx} (hc : X.calm = true) : CallR X (.builtin "max") rPick2 := by
  intro pins s σ H xs us Q I r h
  obtain ⟨i, j, rfl, q⟩ := h
  obtain ⟨u, w', rfl, ⟨t, rfl⟩, ⟨t', rfl⟩⟩ := vals2 r
  exact max_two_strs (I.ok.hd hc) fun z k h' tk hz kp => ⟨.str z, H, I.kept kp, ⟨_, rfl⟩, q z hz⟩
end HH
namespace HH
open PySem PySem.Spec PyProof.Rows L2 PySem.SeqAt
/-! ### a dict of nested keys, its keys' addresses known -/
def NdX (P : Program) (w : World) (K : PySem.W.Frag) (H : Hp) (d : Addr) (xs : NX) : Prop := H d = some (NdO P w d xs) ∧ ∀ x ∈ xs, IsK K H x.1 (.ref x.2.1) ∧ x.1.depth ≤ 8
theorem NdX.nd {P : Program} {w : World} {K : PySem.W.Frag} {H : Hp} {d : Addr} {xs : NX} (h : NdX P w K H d xs) : NdAt P w K H d (kvX xs) := ⟨xs, h.1, rfl, h.2⟩
theorem NdX.keep {P : Program} {w : World} {K : PySem.W.Frag} {H H' : Hp} {d : Addr} {xs : NX} (n : NdX P w K H d xs) (s : ∀ o, H d = some o → H' d = some o) (t : Tup K H H') : NdX P w K H' d xs := ⟨s _ n.1, fun x hx => ⟨(n.2 x hx).1.keep t, (n.2 x hx).2⟩⟩
section
variable {X : Cx} {td ty tv : TE} {o i value : Expr} {pos pos' : Pos}
theorem nd_setItemX {pins : List (Addr × Obj)} {σ : L2.St} {H : Hp} {s : Shared} {d : Addr} {xs : NX} {k : NestedKey} {b : Addr} {v : V} {r : Value} {A : Around} {E : Value → Shared → Prop} {Q : Unit → Shared → Prop} (hu : A.units + 20 < cLine) (I : Inv X pins σ H s) (n : NdX X.prog X.w X.K H d xs) (ik : IsK X.K H k (.ref b)) (dep : k.depth ≤ 8) (hl : xs.length < sizeLine) (rv : RelV v r)
    (h : ∀ s', Inv X pins σ (upd H d (NdO X.prog X.w d (putX xs k b v))) s' → Q () s') : wpAny (model X.prog X.w) A (setItem (.ref d) (.ref b) r) Q E s := by
  obtain ⟨e, hk⟩ := n
  obtain ⟨z, hd, ys, rel, dd⟩ := nd_of I e hk
  have hz : ys.length ≤ sizeLine := by rw [← rel.length]; exact z
  refine wpAny_setItem_heap (hsz := hz) (room_nd hu) (ik.key I dep) dd fun h' dd' hs => h _ (nd_write I e hs ?_ hd (rel.put k b rv) dd')
  have := putX_len xs k b v
  omega
def sNPutX (P : Program) (w : World) (K : PySem.W.Frag) (td ty tv : TE) : TS := fun D σ H => tv σ H fun v H1 => td σ H1 fun x H2 => ty σ H2 fun y H3 => ∃ d xs k b, x = .ref d ∧ y = .ref b ∧ NdX P w K H3 d xs ∧ IsK K H3 k (.ref b) ∧ k.depth ≤ 8 ∧ xs.length < sizeLine ∧ D.nx σ (upd H3 d (NdO P w d (putX xs k b v)))
theorem ps_nputX {P : Program} {w : World} {K : PySem.W.Frag} (hu : X.A.units + 20 < cLine) (ho : PE X o td) (hi : PE X i ty) (hv : PE X value tv) (hs : swapsWith value (some (.Subscript o i pos')) pos.line X.env = pure false) (hX : X.prog = P ∧ X.w = w ∧ X.K = K := by exact ⟨rfl, rfl, rfl⟩) :
    PS X (.Assign [.Subscript o i pos'] value pos) (sNPutX P w K td ty tv) := by
  obtain ⟨rfl, rfl, rfl⟩ := hX
  refine ⟨fun pins s σ H D I h => ?_⟩
  refine wpAny_Assign_Subscript (thn (hv.run pins s σ H _ I h) fun r s1 ⟨v, H1, I1, rv, q1⟩ => thn (ho.run pins s1 σ H1 _ I1 q1) fun u s2 ⟨x, H2, I2, rx, q2⟩ => thn (hi.run pins s2 σ H2 _ I2 q2) fun iv s3 ⟨y, H3, I3, ry, d, xs, k, b, ex, ey, n, ik, dep, l, q3⟩ => ?_) hs
  subst ex ey
  obtain rfl : u = Value.ref d := rx
  obtain rfl : iv = Value.ref b := ry
  exact nd_setItemX hu I3 n ik dep l rv fun s4 I4 => ⟨σ, _, I4, q3⟩
theorem rd_nputX {P : Program} {w : World} {K : PySem.W.Frag} {D : Ends} {σ : L2.St} {H : Hp} (h : tv σ H fun v H1 => td σ H1 fun x H2 => ty σ H2 fun y H3 => ∃ d xs k b, x = .ref d ∧ y = .ref b ∧ NdX P w K H3 d xs ∧ IsK K H3 k (.ref b) ∧ k.depth ≤ 8 ∧ xs.length < sizeLine ∧ D.nx σ (upd H3 d (NdO P w d (putX xs k b v)))) : sNPutX P w K td ty tv D σ H := h
theorem map_kvX (xs : NX) : (kvX xs).map (·.1) = xs.map (·.1) := by unfold kvX; rw [List.map_map]; rfl
theorem refs_in {xs : NX} (kf : Value → NestedKey) : ∀ {zs : List V} {us : List Value}, Vals zs us → (∀ u ∈ us, ∃ x ∈ xs, u = Value.ref x.2.1 ∧ kf u = x.1) → ∃ bl : List (NestedKey × Addr), zs = bl.map (fun q => V.ref q.2) ∧ us.map kf = bl.map (·.1) ∧ ∀ q ∈ bl, ∃ x ∈ xs, q.1 = x.1 ∧ q.2 = x.2.1
  | [], _, .nil, _ => ⟨[], rfl, rfl, by simp⟩
  | z :: zs, u :: us, .cons r t, h => by
    obtain ⟨x, hx, eu, ek⟩ := h u List.mem_cons_self
    subst eu
    obtain ⟨bl, rfl, e2, hbs⟩ := refs_in kf t fun u hu => h u (List.mem_cons_of_mem _ hu)
    have ez : z = V.ref x.2.1 := by
      cases z with
      | ref a => exact congrArg V.ref (Value.ref.inj (show Value.ref x.2.1 = Value.ref a from r)).symm
      | non => exact nomatch (show Value.ref x.2.1 = Value.none from r)
      | bl k => exact nomatch (show Value.ref x.2.1 = Value.bool k from r)
      | int k => obtain ⟨_, e⟩ := (show ∃ t, Value.ref x.2.1 = Value.int k t from r); cases e
      | str k => obtain ⟨_, e⟩ := (show ∃ t, Value.ref x.2.1 = Value.str k t from r); cases e
      | byt k => obtain ⟨_, e⟩ := (show ∃ t, Value.ref x.2.1 = Value.bytes k t from r); cases e
      | flt k => obtain ⟨_, e⟩ := (show ∃ t, Value.ref x.2.1 = Value.float k t from r); cases e
      | ty k => exact nomatch (show Value.ref x.2.1 = Value.type k from r)
    rw [ez]
    refine ⟨(x.1, x.2.1) :: bl, rfl, by rw [List.map_cons, List.map_cons, ek, e2], fun q hq => ?_⟩
    rcases List.mem_cons.mp hq with e | e
    · rw [e]; exact ⟨x, hx, rfl, rfl⟩
    · exact hbs q e
theorem rel_get : ∀ {xs : NX} {ys : List (NestedKey × Addr × Value)} {j : Nat} {y : NestedKey × Addr × Value}, NdRel xs ys → ys[j]? = some y → ∃ x ∈ xs, x.1 = y.1 ∧ x.2.1 = y.2.1
  | [], [], j, y, _, h => by simp at h
  | [], _ :: _, _, _, r, _ => by unfold NdRel at r; cases r
  | _ :: _, [], _, _, r, _ => by unfold NdRel at r; cases r
  | x :: xs, y :: ys, j, z, r, h => by
    unfold NdRel at r
    cases r with
    | cons h0 t =>
      obtain ⟨e1, e2, _⟩ := h0
      cases j with
      | zero =>
        obtain rfl : y = z := by simpa using h
        exact ⟨x, List.mem_cons_self, e1.symm ▸ rfl, e2.symm ▸ rfl⟩
      | succ j =>
        obtain ⟨x', hx', e⟩ := rel_get (xs := xs) (ys := ys) t (by simpa using h)
        exact ⟨x', List.mem_cons_of_mem _ hx', e⟩
/-- sorted(d): the keys as they stood in d -/
def rSortNX (P : Program) (w : World) (K : PySem.W.Frag) : List V → Hp → VK → Prop := fun vs H Q => ∃ (d : Addr) (xs : NX), vs = [.ref d] ∧ NdX P w K H d xs ∧ (∀ a ∈ xs.map (·.1), ∀ b ∈ xs.map (·.1), cmK a b = true) ∧
  ∀ (bl : List (NestedKey × Addr)) (p : Addr), (bl.map (·.1)).Perm (xs.map (·.1)) → (bl.map (·.1)).Pairwise (fun a b => ltK b a = false) → IsKs K H (bl.map (·.1)) (bl.map fun q => V.ref q.2) → (∀ q ∈ bl, ∃ x ∈ xs, q.1 = x.1 ∧ q.2 = x.2.1) → H p = none → Q (.ref p) (upd H p (.lst (bl.map fun q => V.ref q.2)))
theorem cr_sortNX {P : Program} {w : World} {K : PySem.W.Frag} (hu : X.A.units + 20 < cLine) (hcalm : X.calm = true) (hX : X.prog = P ∧ X.w = w ∧ X.K = K := by exact ⟨rfl, rfl, rfl⟩) : CallR X (.builtin "sorted") (rSortNX P w K) := by
  obtain ⟨rfl, rfl, rfl⟩ := hX
  intro pins s σ H vs us Q I r q
  obtain ⟨d, xs, rfl, ⟨e, hk⟩, cm, q⟩ := q
  obtain ⟨u, eu, rx⟩ := vals1 r
  subst eu
  cases rx
  obtain ⟨z, lo, ys, rel, dd⟩ := nd_of I e hk
  obtain ⟨o, es, ep, ho, hex, hda, hes, hall, hnd⟩ := id dd
  have raw : s.heap.DictRaw d es ep := ⟨o, ho, hex, hda⟩
  have esz : es.size = ys.length := size_of_entries hes
  have h16 : es.size ≤ sizeLine := by rw [esz, ← rel.length]; exact z
  refine Calls.call_function_entry PyProof.Rows.kind_sorted PyProof.Rows.plain_sorted PyProof.Rows.entry_sorted (PyProof.Rows.args_sorted1 _) ?_
  unfold Builtin.«sorted»
  refine wpAny_bind (m := checkCount "sorted" 1 1 _) (wpAny_pure ?_)
  refine wpAny_bind (PySem.W.kdu_collect (A := X.A.in1) (PySem.KdlSrc.rawDict (es := es) (ep := ep) lo) (I.ok.hd hcalm) raw h16 fun h' tk acc hkp hacc => ?_)
  have hal : acc.toList.length = ys.length := by rw [Array.length_toList, hacc.1, esz]
  obtain ⟨ik, rv⟩ := nd_keys I (us := acc.toList) rel hk hal fun j v ej => by
    obtain ⟨hi, ev⟩ := hacc.2 j v (by rw [← Array.getElem?_toList]; exact ej)
    have hj : j < ys.length := by omega
    refine ⟨ys[j], List.getElem?_eq_getElem hj, ?_⟩
    have en := entry_at (knd := nestedKind X.prog X.w) hes j
    rw [List.getElem?_eq_getElem hj, Option.map_some, Array.getElem?_eq_getElem hi] at en
    rw [ev, Option.some.inj en]
    rfl
  have I1 : Inv X pins σ H { s with heap := h', toks := tk } := I.kept hkp
  have keq : (kvX xs).map (·.1) = ys.map (·.1) := by
    rw [← rel.keys]; unfold kvX; rw [List.map_map]; rfl
  have dep : NestedKey.depthAll (ys.map (·.1)) ≤ 8 := depthAll_le fun k hk' => by
    rw [← rel.keys] at hk'
    obtain ⟨x, hx, ex⟩ := List.mem_map.mp hk'
    rw [← ex]; exact (hk x hx).2
  refine wpAny_bind (wpAny_newList ?_ (by rw [hal, ← esz]; exact h16))
  have hoL : (h'.push (seqObj "list" acc.toList.toArray 0)).get? h'.objs.size = some (seqObj "list" acc.toList.toArray 0) := Heap.get?_push_size _ rfl
  show wpAny _ _ _ _ _ { s with heap := h'.push (seqObj "list" acc.toList.toArray 0), toks := tk }
  have I2 : Inv X pins σ H { s with heap := h'.push (seqObj "list" acc.toList.toArray 0), toks := tk } := I1.kept (t' := tk) fun b o e => Heap.get?_push_of_some _ e
  have da := IsKs.dis I2 _ _ _ ik rv
  refine wpAny_bind (wpAny_holding (wpAny_call_entry PyProof.Rows.slot_list_sort ⟨_, hoL, rfl⟩ PyProof.Rows.entry_list_sort
    (list_sort_keys (s := { s with heap := h'.push (seqObj "list" acc.toList.toArray 0), toks := tk }) hoL (by rw [hal, ← esz]; exact h16) da (by rw [← keq, map_kvX]; exact cm) (by show X.A.units + 1 + 1 + _ < _; omega) fun out hs hp => ⟨_, rfl, ?_⟩)
    (PyProof.Rows.args_list_sort _)))
  obtain ⟨ls, zs, k1, k2, k3⟩ := back_keys (K := X.K) (H := H) (h := h'.push (seqObj "list" acc.toList.toArray 0)) (out := out) fun u hu => by
    obtain ⟨k, v, _, b, c, e⟩ := triples ik rv da u (hp.mem_iff.mp hu)
    exact ⟨k, v, b, c, e⟩
  have sold : ∀ b o, h'.get? b = some o → (sortedHeap (h'.push (seqObj "list" acc.toList.toArray 0)) h'.objs.size acc.toList out.toArray).get? b = some o := fun b o h1 => by
    have hlt := Heap.lt_size h1
    rw [sortedHeap_old (Nat.ne_of_lt hlt) (by rw [size_push']; exact Nat.lt_succ_of_lt hlt)]
    exact Heap.get?_push_of_some _ h1
  obtain ⟨n, hn⟩ := sortedHeap_at (out := out.toArray) hoL
  have km := keys_map da
  have ad : ∀ u ∈ acc.toList, ∃ x ∈ xs, u = Value.ref x.2.1 ∧ keyOf (h'.push (seqObj "list" acc.toList.toArray 0)) u = x.1 := fun u hu => by
    obtain ⟨j, hj, ej⟩ := List.getElem_of_mem hu
    have hj' : j < ys.length := by omega
    obtain ⟨hi, ev⟩ := hacc.2 j u (by rw [← Array.getElem?_toList, List.getElem?_eq_getElem hj, ej])
    have en := entry_at (knd := nestedKind X.prog X.w) hes j
    rw [List.getElem?_eq_getElem hj', Option.map_some, Array.getElem?_eq_getElem hi] at en
    obtain ⟨x, hx, x1, x2⟩ := rel_get rel (List.getElem?_eq_getElem hj')
    refine ⟨x, hx, by rw [ev, Option.some.inj en, x2]; rfl, ?_⟩
    have := congrArg (fun l => l[j]?) km
    simp only [List.getElem?_map, List.getElem?_eq_getElem hj, List.getElem?_eq_getElem hj', Option.map_some] at this
    rw [x1, ← ej]
    exact Option.some.inj this
  obtain ⟨bl, rfl, eb, hbl⟩ := refs_in (keyOf (h'.push (seqObj "list" acc.toList.toArray 0))) k2 fun u hu => ad u (hp.mem_iff.mp hu)
  have k3' : ls = bl.map (·.1) := by rw [k3]; exact eb
  rw [k3'] at k1
  refine wpAny_pure ⟨_, rfl, ⟨.ref h'.objs.size, _, I1.laid (a := h'.objs.size) (o := .lst (bl.map fun q => V.ref q.2)) (t' := tk) sold (Nat.le_refl _) ⟨by rw [k2.length, hp.length_eq, hal, ← esz]; exact h16, out, n, k2, hn⟩, rfl, q bl _ ?_ ?_ k1 hbl (I1.hok.fresh (Nat.le_refl _))⟩⟩
  · rw [← k3', k3, ← map_kvX, keq, ← keys_map da]
    exact hp.map _
  · rw [← k3', k3]
    exact List.pairwise_map.mpr hs
end
end HH
namespace HH
open PySem PySem.Spec PyProof.Rows L2 PySem.SeqAt
/-! ### tables keyed by products -/
abbrev Gt := List (Tab × Int)
def gV (m : Gt) : List (NestedKey × V) := encV prodK m
theorem gV_len (m : Gt) : (gV m).length = m.length := List.length_map _
theorem gV_keys (m : Gt) : (gV m).map (·.1) = (m.map (·.1)).map prodK := by simp [gV, encV]
theorem valV_g (m : Gt) (z : Tab) : valV (gV m) (prodK z) = (tget m z).map V.int := valV_enc prodK (fun _ _ h => prodK_inj h) m z
theorem putK_g (m : Gt) (z : Tab) (n : Int) : putK (gV m) (prodK z) (V.int n) = gV (tput m z n) := putK_enc prodK (fun _ _ h => prodK_inj h) m z n
theorem getD_g (m : Gt) (z : Tab) : (valV (gV m) (prodK z)).getD (V.int 0) = V.int ((tget m z).getD 0) := by
  rw [valV_g]
  cases tget m z <;> rfl
def sumF {α : Type} (f : α → Int) : List (α × Int) → Int
  | [] => 0
  | q :: t => q.2 * f q.1 + sumF f t
theorem sumF_app {α : Type} (f : α → Int) (a b : List (α × Int)) : sumF f (a ++ b) = sumF f a + sumF f b := by
  induction a with
  | nil => simp [sumF]
  | cons q r ih => simp only [List.cons_append, sumF, ih]; omega
theorem sumF_acc {α : Type} [DecidableEq α] (f : α → Int) (z : α) (c : Int) : ∀ {t : List (α × Int)}, (t.map (·.1)).Nodup → sumF f (tput t z ((tget t z).getD 0 + c)) = sumF f t + c * f z := by
  intro t nd
  by_cases hz : z ∈ t.map (·.1)
  · unfold tput
    rw [if_pos hz]
    induction t with
    | nil => cases hz
    | cons q t ih =>
      obtain ⟨n1, n2⟩ := List.nodup_cons.mp nd
      rw [List.map_cons]
      by_cases e : q.1 = z
      · have id1 : ∀ {l : List (α × Int)} (n : Int), z ∉ l.map (·.1) → l.map (fun q => if q.1 = z then (q.1, n) else q) = l := fun {l} n hn => by
          refine (List.map_congr_left fun q hq => ?_).trans (List.map_id l)
          exact if_neg fun e => hn (by rw [← e]; exact List.mem_map_of_mem hq)
        rw [id1 _ (by rw [← e]; exact n1), if_pos e, tget_cons_pos e]
        show (q.2 + c) * f q.1 + sumF f t = q.2 * f q.1 + sumF f t + c * f z
        rw [e, Int.add_mul]
        omega
      · have hz' : z ∈ t.map (·.1) := by
          rcases List.mem_cons.mp hz with w | w
          · exact absurd w.symm e
          · exact w
        rw [if_neg e, tget_cons_neg e]
        show q.2 * f q.1 + sumF f _ = q.2 * f q.1 + sumF f t + c * f z
        rw [ih n2 hz']
        omega
  · unfold tput
    rw [if_neg hz, tget_none hz, sumF_app]
    simp [sumF]
theorem sumF_perm {α : Type} (f : α → Int) {a b : List (α × Int)} (p : a.Perm b) : sumF f a = sumF f b := by
  induction p with
  | nil => rfl
  | cons x _ ih => simp only [sumF, ih]
  | swap x y l => simp only [sumF]; omega
  | trans _ _ h1 h2 => exact h1.trans h2
/-- the sum that a table says -/
def smOf (t : Gt) : Sm := t.map fun q => (q.2, q.1)
theorem worth_smOf (m : Tab) (t : Gt) : worthS m (smOf t) = sumF (worthP m) t := by
  induction t with
  | nil => rfl
  | cons q r ih =>
    show q.2 * worthP m q.1 + worthS m (smOf r) = _
    rw [ih]; rfl
/-- how heavy a sum is -/
def wgt : Sm → Int
  | [] => 0
  | q :: r => q.1 + wgt r
theorem wgt_app (a b : Sm) : wgt (a ++ b) = wgt a + wgt b := by
  induction a with
  | nil => simp [wgt]
  | cons q r ih => simp only [List.cons_append, wgt, ih]; omega
theorem wgt_smOf (t : Gt) : wgt (smOf t) = sumF (fun _ => 1) t := by
  induction t with
  | nil => rfl
  | cons q r ih =>
    show q.2 + wgt (smOf r) = _
    rw [ih]; simp [sumF]
theorem wgt_nn {S : Sm} (h : ∀ q ∈ S, 1 ≤ q.1) : 0 ≤ wgt S := by
  induction S with
  | nil => exact Int.le_refl _
  | cons q r ih =>
    have := ih fun x hx => h x (List.mem_cons_of_mem _ hx)
    have := h q List.mem_cons_self
    simp only [wgt]; omega
/-- these terms, told in order, each product once -/
structure Gath (S G : Sm) : Prop where
  nd : (G.map (·.2)).Nodup
  so : (G.map fun q => prodK q.2).Pairwise fun a b => ltK b a = false
  mem : ∀ ps, ps ∈ G.map (·.2) ↔ ps ∈ S.map (·.2)
  co : (∀ q ∈ S, 1 ≤ q.1) → ∀ q ∈ G, 1 ≤ q.1
  wo : ∀ m, worthS m G = worthS m S
  wg : wgt G = wgt S
/-- while it is gathered -/
structure Gi (S : Sm) (t : Gt) : Prop where
  nd : (t.map (·.1)).Nodup
  mem : ∀ ps, ps ∈ t.map (·.1) ↔ ps ∈ S.map (·.2)
  co : (∀ q ∈ S, 1 ≤ q.1) → ∀ q ∈ t, 1 ≤ q.2
  su : ∀ f : Tab → Int, sumF f t = sumF f (S.map fun q => (q.2, q.1))
theorem Gi.nil : Gi [] [] := ⟨List.nodup_nil, by simp, by simp, fun _ => rfl⟩
theorem Gi.len {S : Sm} {t : Gt} (g : Gi S t) : t.length ≤ S.length := by
  have := List.Nodup.length_le_of_subset g.nd (fun y hy => (g.mem y).mp hy)
  rwa [List.length_map, List.length_map] at this
theorem Gi.step {S : Sm} {t : Gt} (g : Gi S t) (c : Int) (ps : Tab) : Gi (S ++ [(c, ps)]) (tput t ps ((tget t ps).getD 0 + c)) := by
  refine ⟨tput_nodup g.nd, fun z => ?_, fun h q hq => ?_, fun f => ?_⟩
  · rw [tput_keys, List.map_append, List.mem_append, List.map_cons, List.map_nil, List.mem_singleton, ← g.mem z]
    split
    · rename_i hm
      exact ⟨.inl, fun w => w.elim id fun e => by rw [e]; exact hm⟩
    · rw [List.mem_append, List.mem_singleton]
  · have h1 : ∀ q ∈ S, 1 ≤ q.1 := fun q hq => h q (List.mem_append_left _ hq)
    have h2 : (1 : Int) ≤ c := h (c, ps) (List.mem_append_right _ List.mem_cons_self)
    rcases mem_tput hq with e | e
    · exact g.co h1 q e
    · rw [e]
      show 1 ≤ (tget t ps).getD 0 + c
      cases ht : tget t ps with
      | none => simpa using h2
      | some n =>
        have := g.co h1 _ (tget_mem ht)
        show 1 ≤ n + c
        have : 1 ≤ n := this
        omega
  · rw [sumF_acc f ps c g.nd, g.su f, List.map_append, sumF_app]
    simp [sumF]
theorem worth_swap (m : Tab) (S : Sm) : worthS m S = sumF (worthP m) (S.map fun q => (q.2, q.1)) := by
  induction S with
  | nil => rfl
  | cons q r ih => simp only [worthS, List.map_cons, sumF, ih]
theorem wgt_swap (S : Sm) : wgt S = sumF (fun _ => 1) (S.map fun q => (q.2, q.1)) := by
  induction S with
  | nil => rfl
  | cons q r ih => simp only [wgt, List.map_cons, sumF, ih]; omega
theorem Gi.done {S : Sm} {t t' : Gt} (g : Gi S t) (p : t'.Perm t) (so : ((t'.map (·.1)).map prodK).Pairwise fun a b => ltK b a = false) : Gath S (smOf t') := by
  have e1 : (smOf t').map (·.2) = t'.map (·.1) := by unfold smOf; rw [List.map_map]; rfl
  refine ⟨by rw [e1]; exact (p.map _).nodup_iff.mpr g.nd, ?_, fun ps => ?_, fun h q hq => ?_, fun m => ?_, ?_⟩
  · have : ((smOf t').map fun q => prodK q.2) = (t'.map (·.1)).map prodK := by unfold smOf; rw [List.map_map, List.map_map]; rfl
    rw [this]; exact so
  · rw [e1, (p.map _).mem_iff]; exact g.mem ps
  · obtain ⟨x, hx, rfl⟩ := List.mem_map.mp hq
    exact g.co h x (p.mem_iff.mp hx)
  · rw [worth_smOf, sumF_perm _ p, g.su, worth_swap]
  · rw [wgt_smOf, sumF_perm _ p, g.su, wgt_swap]
/-! ### terms whose products' objects are known -/
def TermZ (K : PySem.W.Frag) (H : Hp) (q : Int × Tab) (v : V) : Prop := ∃ t p, v = .ref t ∧ SqT K H t [.int q.1, .ref p] ∧ IsZ K H q.2 p
def TermsZ (K : PySem.W.Frag) (H : Hp) : Sm → List V → Prop
  | [], vs => vs = []
  | q :: S, vs => ∃ v r, vs = v :: r ∧ TermZ K H q v ∧ TermsZ K H S r
theorem IsZ.keep {K : PySem.W.Frag} {H H' : Hp} {ps : Tab} {a : Addr} (z : IsZ K H ps a) (s : Same H H') : IsZ K H' ps a := by
  obtain ⟨as, h1, h2⟩ := z
  exact ⟨as, h1.keep s, IsKs.keep (same_tup s) _ _ h2⟩
theorem TermZ.keep {K : PySem.W.Frag} {H H' : Hp} {q : Int × Tab} {v : V} (z : TermZ K H q v) (s : Same H H') : TermZ K H' q v := by
  obtain ⟨t, p, e, h1, h2⟩ := z
  exact ⟨t, p, e, same_tup s _ _ h1, h2.keep s⟩
theorem TermsZ.keep {K : PySem.W.Frag} {H H' : Hp} (s : Same H H') : ∀ {S : Sm} {vs : List V}, TermsZ K H S vs → TermsZ K H' S vs
  | [], _, h => h
  | _ :: _, _, ⟨v, r, e, h1, h2⟩ => ⟨v, r, e, h1.keep s, TermsZ.keep s h2⟩
theorem TermsZ.len {K : PySem.W.Frag} {H : Hp} : ∀ {S : Sm} {vs : List V}, TermsZ K H S vs → vs.length = S.length
  | [], _, h => by rw [show _ = [] from h]; rfl
  | _ :: _, _, ⟨v, r, e, _, h2⟩ => by rw [e, List.length_cons, List.length_cons, TermsZ.len h2]
theorem TermsZ.get {K : PySem.W.Frag} {H : Hp} : ∀ {S : Sm} {vs : List V} {i : Nat} {v : V} (h : TermsZ K H S vs) (hi : i < S.length), vs[i]? = some v → TermZ K H S[i] v
  | _ :: _, _, 0, v, ⟨v', r, e, h1, _⟩, _, hv => by
    subst e
    obtain rfl : v' = v := by simpa using hv
    exact h1
  | _ :: _, _, i + 1, v, ⟨v', r, e, _, h2⟩, hi, hv => by
    subst e
    exact TermsZ.get h2 (by simpa using hi) (by simpa using hv)
theorem TermsZ.app {K : PySem.W.Frag} {H : Hp} {T : Sm} {us : List V} (h2 : TermsZ K H T us) : ∀ {S : Sm} {vs : List V}, TermsZ K H S vs → TermsZ K H (S ++ T) (vs ++ us)
  | [], _, h => by rw [show _ = [] from h]; exact h2
  | _ :: _, _, ⟨v, r, e, h1, h3⟩ => ⟨v, r ++ us, by rw [e]; rfl, h1, TermsZ.app h2 h3⟩
end HH
namespace HH
open PySem PySem.Spec PyProof.Rows L2 PySem.SeqAt
theorem NdX.put {P : Program} {w : World} {K : PySem.W.Frag} {H : Hp} {d : Addr} {xs : NX} (n : NdX P w K H d xs) {k : NestedKey} {b : Addr} (ik : IsK K H k (.ref b)) (dep : k.depth ≤ 8) (v : V) : NdX P w K (upd H d (NdO P w d (putX xs k b v))) d (putX xs k b v) := by
  refine ⟨upd_same, fun x hx => ?_⟩
  have t := nd_tup (K := K) (u := NdO P w d (putX xs k b v)) n.1
  rcases mem_putX hx with ⟨z, hz, e1, e2⟩ | ⟨e1, e2⟩
  · rw [e1, e2]
    exact ⟨(n.2 z hz).1.keep t, (n.2 z hz).2⟩
  · rw [e1, e2]
    exact ⟨ik.keep t, dep⟩
/-- tuples, and what is known of their objects, stay -/
def KZ (K : PySem.W.Frag) (H H' : Hp) : Prop := Tup K H H' ∧ ∀ a xs, ZT H a xs → ZT H' a xs
theorem KZ.same {K : PySem.W.Frag} {H H' : Hp} (s : Same H H') : KZ K H H' := ⟨same_tup s, fun _ _ z => z.keep s⟩
theorem KZ.trans {K : PySem.W.Frag} {H H1 H2 : Hp} (a : KZ K H H1) (b : KZ K H1 H2) : KZ K H H2 := ⟨a.1.trans b.1, fun x ys z => b.2 x ys (a.2 x ys z)⟩
theorem KZ.wr {K : PySem.W.Frag} {H : Hp} {l : Addr} {ys zs : List V} (h : H l = some (.lst ys)) : KZ K H (upd H l (.lst zs)) := ⟨tup_upd h (fun _ z => nomatch z) (fun _ _ z => nomatch z), fun _ _ z => z.wr h⟩
theorem IsZ.kz {K : PySem.W.Frag} {H H' : Hp} {ps : Tab} {a : Addr} (z : IsZ K H ps a) (s : KZ K H H') : IsZ K H' ps a := by
  obtain ⟨as, h1, h2⟩ := z
  exact ⟨as, s.2 _ _ h1, IsKs.keep s.1 _ _ h2⟩
theorem TermZ.kz {K : PySem.W.Frag} {H H' : Hp} {q : Int × Tab} {v : V} (z : TermZ K H q v) (s : KZ K H H') : TermZ K H' q v := by
  obtain ⟨t, p, e, h1, h2⟩ := z
  exact ⟨t, p, e, s.1 _ _ h1, h2.kz s⟩
theorem TermsZ.kz {K : PySem.W.Frag} {H H' : Hp} (s : KZ K H H') : ∀ {S : Sm} {vs : List V}, TermsZ K H S vs → TermsZ K H' S vs
  | [], _, h => h
  | _ :: _, _, ⟨v, r, e, h1, h2⟩ => ⟨v, r, e, h1.kz s, TermsZ.kz s h2⟩
theorem perm_self {t : Gt} (nd : (t.map (·.1)).Nodup) : ((t.map (·.1)).map fun z => (z, (tget t z).getD 0)) = t := by
  rw [List.map_map]
  refine (List.map_congr_left fun q hq => ?_).trans (List.map_id t)
  have := mem_tget nd (show (q.1, q.2) ∈ t from hq)
  show (q.1, (tget t q.1).getD 0) = q
  rw [this]; rfl
end HH
namespace HH
open PySem PySem.Spec PyProof.Rows L2 PySem.SeqAt
theorem pa_starK {X : Cx} {K : PySem.W.Frag} {e : Expr} {es : List Expr} {te : TE} {t : TA} {p : Pos} (he : PE X e te) (hr : PA X es t) (hX : X.K = K := by rfl) (hs : starEach (.Starred e p :: es) X.env = (true, eval e X.env) :: starEach es X.env := by rfl) : PA X (.Starred e p :: es) (StX.tStar K te t) := by subst hX; exact StX.pa_star he hr hs
theorem rd_star {K : PySem.W.Frag} {te : TE} {t : TA} {σ : L2.St} {H : Hp} {Q : List V → Hp → Prop} (h : te σ H fun x H1 => ∃ a xs, x = .ref a ∧ (SqT K H1 a xs ∨ SqL K H1 a xs) ∧ t σ H1 fun vs H2 => Q (xs ++ vs) H2) : StX.tStar K te t σ H Q := h
end HH
namespace HH
open PySem PySem.Spec PyProof.Rows L2 PySem.SeqAt
theorem KZ.fr {K : PySem.W.Frag} {p : Addr} {H H' : Hp} {xs : List V} (f : Fr p H H') (hp : H p = some (.lst xs)) : KZ K H H' := ⟨f.tup hp, fun a ys z => by
  obtain ⟨o, c, e⟩ := z
  exact ⟨o, c, f _ _ (fun w => by rw [w, hp] at e; cases e) e⟩⟩
/-- another thing than a tuple is written -/
theorem KZ.nd {P : Program} {w : World} {K : PySem.W.Frag} {H : Hp} {d : Addr} {xs : NX} {o : HO} (h : H d = some (NdO P w d xs)) : KZ K H (upd H d o) := ⟨nd_tup h, fun a ys z => by
  obtain ⟨ob, c, e⟩ := z
  exact ⟨ob, c, by rw [upd_ne (fun w => by rw [w, h] at e; cases e)]; exact e⟩⟩
/-- a table with products for keys, whose objects are known -/
def GtAt (P : Program) (w : World) (K : PySem.W.Frag) (H : Hp) (d : Addr) (m : Pt) : Prop := ∃ xs, NdX P w K H d xs ∧ kvX xs = ptV m ∧ ∀ x ∈ xs, ∃ ps, x.1 = prodK ps ∧ IsZ K H ps x.2.1
theorem GtAt.keep {P : Program} {w : World} {K : PySem.W.Frag} {H H' : Hp} {d : Addr} {m : Pt} (g : GtAt P w K H d m) (s : ∀ o, H d = some o → H' d = some o) (k : KZ K H H') : GtAt P w K H' d m := by
  obtain ⟨xs, n, e, z⟩ := g
  exact ⟨xs, n.keep s k.1, e, fun x hx => let ⟨ps, e1, e2⟩ := z x hx; ⟨ps, e1, e2.kz k⟩⟩
theorem GtAt.len {P : Program} {w : World} {K : PySem.W.Frag} {H : Hp} {d : Addr} {m : Pt} {xs : NX} (e : kvX xs = ptV m) : xs.length = m.length := by
  have := congrArg List.length e
  rw [ptV_len] at this
  rw [← this]; unfold kvX; rw [List.length_map]
theorem prod_dep (ps : Tab) : (prodK ps).depth ≤ 8 := Nat.le_trans (prodK_depth ps) (by decide)
end HH
namespace HH
open PySem PySem.Spec PyProof.Rows L2 PySem.SeqAt
/-! ### worth, by the power of each letter -/
def wz (g : Str → Int) : List Str → (Str → Int) → Int
  | [], _ => 1
  | z :: zs, f => g z ^ (f z).toNat * wz g zs f
theorem wz_congr {g : Str → Int} : ∀ {zs : List Str} {f h : Str → Int}, (∀ z ∈ zs, f z = h z) → wz g zs f = wz g zs h
  | [], _, _, _ => rfl
  | z :: zs, f, h, e => by
    unfold wz
    rw [e z List.mem_cons_self, wz_congr (zs := zs) fun y hy => e y (List.mem_cons_of_mem _ hy)]
theorem wz_zero {g : Str → Int} : ∀ {zs : List Str} {f : Str → Int}, (∀ z ∈ zs, f z = 0) → wz g zs f = 1
  | [], _, _ => rfl
  | z :: zs, f, e => by
    unfold wz
    rw [e z List.mem_cons_self, wz_zero (zs := zs) fun y hy => e y (List.mem_cons_of_mem _ hy)]
    simp
theorem wz_add {g : Str → Int} : ∀ {zs : List Str} {f h k : Str → Int}, (∀ z ∈ zs, 0 ≤ f z ∧ 0 ≤ h z ∧ k z = f z + h z) → wz g zs k = wz g zs f * wz g zs h
  | [], _, _, _, _ => rfl
  | z :: zs, f, h, k, e => by
    obtain ⟨e1, e2, e3⟩ := e z List.mem_cons_self
    have ih := wz_add (g := g) (zs := zs) (f := f) (h := h) (k := k) fun y hy => e y (List.mem_cons_of_mem _ hy)
    unfold wz
    rw [ih, e3, show (f z + h z).toNat = (f z).toNat + (h z).toNat by omega, Int.pow_add]
    simp only [Int.mul_assoc]
    congr 1
    rw [← Int.mul_assoc, ← Int.mul_assoc, Int.mul_comm (g z ^ (h z).toNat)]
/-- one letter more -/
theorem wz_one {g : Str → Int} {x : Str} {n : Int} : ∀ {zs : List Str} {f k : Str → Int}, zs.Nodup → x ∈ zs → f x = 0 → k x = n → (∀ y, y ≠ x → k y = f y) → wz g zs k = g x ^ n.toNat * wz g zs f
  | z :: zs, f, k, nd, hx, h0, hk, hy => by
    obtain ⟨n1, n2⟩ := List.nodup_cons.mp nd
    unfold wz
    by_cases e : z = x
    · subst e
      rw [h0, hk, wz_congr (f := k) (h := f) fun y hy' => hy y fun w => n1 (by rw [← w]; exact hy')]
      simp
    · have hx' : x ∈ zs := by
        rcases List.mem_cons.mp hx with w | w
        · exact absurd w.symm e
        · exact w
      rw [wz_one (zs := zs) n2 hx' h0 hk hy, hy z e, ← Int.mul_assoc, ← Int.mul_assoc, Int.mul_comm (g x ^ n.toNat)]
theorem sw_ge {ps : Tab} (h : ∀ q ∈ ps, 0 ≤ q.2) (y : Str) : 0 ≤ sw ps y := by
  induction ps with
  | nil => exact Int.le_refl _
  | cons q r ih =>
    have := ih fun x hx => h x (List.mem_cons_of_mem _ hx)
    have hq := h q List.mem_cons_self
    rw [sw_cons]
    split <;> omega
theorem worthP_wz {m : Tab} {zs : List Str} (nz : zs.Nodup) : ∀ {ps : Tab}, (ps.map (·.1)).Nodup → (∀ q ∈ ps, q.1 ∈ zs) → worthP m ps = wz (fun z => (tget m z).getD 0) zs (sw ps)
  | [], _, _ => (wz_zero fun z _ => sw_nil z).symm
  | q :: ps, nd, hz => by
    obtain ⟨n1, n2⟩ := List.nodup_cons.mp nd
    have ih := worthP_wz (m := m) nz n2 fun x hx => hz x (List.mem_cons_of_mem _ hx)
    rw [wz_one (x := q.1) (n := q.2) (f := sw ps) nz (hz q List.mem_cons_self) (sw_out n1) (by rw [sw_cons, if_pos rfl, sw_out n1]; omega) fun y hy => by rw [sw_cons, if_neg fun e => hy e.symm]; omega, ← ih]
    rfl
theorem PT.worth {m : Tab} {zs : List Str} {ps : Tab} (nz : zs.Nodup) (h : PT zs ps) : worthP m ps = wz (fun z => (tget m z).getD 0) zs (sw ps) := worthP_wz nz h.nd fun q hq => (h.ge q hq).1
theorem PT.sw_nn {zs : List Str} {ps : Tab} (h : PT zs ps) (y : Str) : 0 ≤ sw ps y := sw_ge (fun q hq => by have := (h.ge q hq).2; omega) y
/-- a product of two has the worth of both -/
theorem PT.worth_mul {m : Tab} {zs : List Str} {ps qs rs : Tab} (nz : zs.Nodup) (hp : PT zs ps) (hq : PT zs qs) (hr : PT zs rs) (e : ∀ y, sw rs y = sw ps y + sw qs y) : worthP m rs = worthP m ps * worthP m qs := by
  rw [hp.worth nz, hq.worth nz, hr.worth nz]
  exact wz_add fun z _ => ⟨hp.sw_nn z, hq.sw_nn z, e z⟩
end HH
namespace HH
open PySem PySem.Spec PyProof.Rows L2 PySem.SeqAt
/-! ### packed sums: whole numbers as rows of digits, tables from them to coefficients -/
abbrev Pl := List (Int × Int)
def plV (m : Pl) : List (Key × V) := encV Sum.inl m
theorem plV_len (m : Pl) : (plV m).length = m.length := List.length_map _
theorem valV_pl (m : Pl) (z : Int) : valV (plV m) (Sum.inl z) = (tget m z).map V.int := valV_enc Sum.inl (fun _ _ h => Sum.inl.inj h) m z
theorem putK_pl (m : Pl) (z : Int) (n : Int) : putK (plV m) (Sum.inl z) (V.int n) = plV (tput m z n) := putK_enc Sum.inl (fun _ _ h => Sum.inl.inj h) m z n
/-- the number with these digits to the base 2 ^ 64 -/
def encD : List Nat → Int
  | [] => 0
  | d :: ds => (d : Int) + 18446744073709551616 * encD ds
def dgs : Nat → Int → List Nat
  | 0, _ => []
  | n + 1, c => (c % 18446744073709551616).toNat :: dgs n (c / 18446744073709551616)
theorem dgs_len : ∀ (n : Nat) (c : Int), (dgs n c).length = n
  | 0, _ => rfl
  | n + 1, c => by rw [dgs, List.length_cons, dgs_len n]
theorem encD_nn : ∀ e : List Nat, 0 ≤ encD e
  | [] => Int.le_refl _
  | d :: ds => by
    have := encD_nn ds
    rw [encD]
    omega
theorem dgs_enc : ∀ {n : Nat} {e : List Nat}, e.length = n → e.sum < 18446744073709551616 → dgs n (encD e) = e
  | 0, [], _, _ => rfl
  | n + 1, d :: ds, h, hs => by
    rw [List.sum_cons] at hs
    have ih := dgs_enc (n := n) (e := ds) (by simpa using h) (by omega)
    rw [encD, dgs]
    have h1 : ((d : Int) + 18446744073709551616 * encD ds) % 18446744073709551616 = d := by omega
    have h2 : ((d : Int) + 18446744073709551616 * encD ds) / 18446744073709551616 = encD ds := by omega
    rw [h1, h2, ih, Int.toNat_natCast]
theorem dgs_get : ∀ {n : Nat} (c : Int) {j : Nat} (h : j < n), (dgs n c)[j]? = some ((c / 2 ^ (64 * j) % 18446744073709551616).toNat)
  | n + 1, c, 0, _ => by
    rw [dgs, List.getElem?_cons_zero, Nat.mul_zero, Int.pow_zero, Int.ediv_one]
  | n + 1, c, j + 1, h => by
    rw [dgs, List.getElem?_cons_succ, dgs_get (n := n) _ (by omega)]
    congr 2
    rw [Nat.mul_succ, Nat.add_comm, Int.pow_add, Int.ediv_ediv_of_nonneg (by decide)]
    rfl
def addD : List Nat → List Nat → List Nat := List.zipWith (· + ·)
theorem encD_add : ∀ {e f : List Nat}, e.length = f.length → encD (addD e f) = encD e + encD f
  | [], [], _ => rfl
  | [], _ :: _, h => nomatch h
  | _ :: _, [], h => nomatch h
  | d :: ds, g :: gs, h => by
    have ih := encD_add (e := ds) (f := gs) (by simpa using h)
    show (((d + g : Nat)) : Int) + 18446744073709551616 * encD (addD ds gs) = ((d : Int) + 18446744073709551616 * encD ds) + ((g : Int) + 18446744073709551616 * encD gs)
    rw [ih]
    omega
theorem addD_sum : ∀ {e f : List Nat}, e.length = f.length → (addD e f).sum = e.sum + f.sum
  | [], [], _ => rfl
  | [], _ :: _, h => nomatch h
  | _ :: _, [], h => nomatch h
  | d :: ds, g :: gs, h => by
    have ih := addD_sum (e := ds) (f := gs) (by simpa using h)
    show ((d + g) :: addD ds gs).sum = _
    rw [List.sum_cons, List.sum_cons, List.sum_cons, ih]
    omega
theorem addD_len {e f : List Nat} (h : e.length = f.length) : (addD e f).length = e.length := by
  unfold addD
  rw [List.length_zipWith, h, Nat.min_self]
/-- the number c stands for powers of n letters, D of them at most -/
def Bd (n D : Nat) (c : Int) : Prop := ∃ e : List Nat, e.length = n ∧ e.sum ≤ D ∧ c = encD e
def wt : List Int → List Nat → Int
  | v :: vs, d :: ds => v ^ d * wt vs ds
  | _, _ => 1
theorem wt_add : ∀ {vs : List Int} {e f : List Nat}, e.length = f.length → wt vs (addD e f) = wt vs e * wt vs f
  | [], e, f, h => by cases e <;> cases f <;> simp [wt, addD]
  | v :: vs, [], [], _ => by simp [wt, addD]
  | v :: vs, [], _ :: _, h => nomatch h
  | v :: vs, _ :: _, [], h => nomatch h
  | v :: vs, d :: ds, g :: gs, h => by
    have ih := wt_add (vs := vs) (e := ds) (f := gs) (by simpa using h)
    show v ^ (d + g) * wt vs (addD ds gs) = v ^ d * wt vs ds * (v ^ g * wt vs gs)
    rw [ih, Int.pow_add]
    ac_rfl
theorem wt_pos : ∀ {vs : List Int} {e : List Nat}, (∀ v ∈ vs, 1 ≤ v) → 1 ≤ wt vs e
  | [], e, _ => by cases e <;> exact Int.le_refl _
  | v :: vs, [], _ => Int.le_refl _
  | v :: vs, d :: ds, h => by
    have h1 : 0 < v := by have := h v List.mem_cons_self; omega
    have ih := wt_pos (e := ds) fun u hu => h u (List.mem_cons_of_mem _ hu)
    have h2 : 0 < v ^ d := Int.pow_pos h1
    have := Int.mul_pos h2 (show 0 < wt vs ds by omega)
    show 1 ≤ v ^ d * wt vs ds
    omega
/-- the worth of such a number -/
def wc (n : Nat) (vs : List Int) (c : Int) : Int := wt vs (dgs n c)
theorem Bd.mono {n D D' : Nat} {c : Int} (h : Bd n D c) (l : D ≤ D') : Bd n D' c := let ⟨e, a, b, f⟩ := h; ⟨e, a, Nat.le_trans b l, f⟩
theorem Bd.nn {n D : Nat} {c : Int} (h : Bd n D c) : 0 ≤ c := by obtain ⟨e, _, _, rfl⟩ := h; exact encD_nn e
theorem Bd.add {n D E : Nat} {c d : Int} (h : Bd n D c) (g : Bd n E d) : Bd n (D + E) (c + d) := by
  obtain ⟨e, a1, a2, rfl⟩ := h
  obtain ⟨f, b1, b2, rfl⟩ := g
  exact ⟨addD e f, by rw [addD_len (by omega)]; exact a1, by rw [addD_sum (by omega)]; omega, (encD_add (by omega)).symm⟩
theorem Bd.wc_add {n D E : Nat} {c d : Int} {vs : List Int} (h : Bd n D c) (g : Bd n E d) (l : D + E < 18446744073709551616) : wc n vs (c + d) = wc n vs c * wc n vs d := by
  obtain ⟨e, a1, a2, rfl⟩ := h
  obtain ⟨f, b1, b2, rfl⟩ := g
  unfold wc
  rw [← encD_add (by omega), dgs_enc (by rw [addD_len (by omega)]; exact a1) (by rw [addD_sum (by omega)]; omega), dgs_enc a1 (by omega), dgs_enc b1 (by omega), wt_add (by omega)]
theorem rep_sum : ∀ n : Nat, (List.replicate n 0).sum = 0
  | 0 => rfl
  | n + 1 => by rw [List.replicate_succ, List.sum_cons, rep_sum n]
theorem enc_rep : ∀ n : Nat, encD (List.replicate n 0) = 0
  | 0 => rfl
  | n + 1 => by rw [List.replicate_succ, encD, enc_rep n]; rfl
theorem wt_rep : ∀ (n : Nat) (vs : List Int), wt vs (List.replicate n 0) = 1
  | 0, vs => by cases vs <;> rfl
  | n + 1, [] => rfl
  | n + 1, v :: vs => by rw [List.replicate_succ, wt, wt_rep n]; simp
theorem bd_zero (n : Nat) : Bd n 0 0 := ⟨List.replicate n 0, List.length_replicate, by rw [rep_sum]; exact Nat.le_refl _, (enc_rep n).symm⟩
theorem wc_zero (n : Nat) (vs : List Int) : wc n vs 0 = 1 := by
  unfold wc
  rw [← enc_rep n, dgs_enc List.length_replicate (by rw [rep_sum]; decide), wt_rep]
/-- one letter -/
def unitD (n j : Nat) : List Nat := (List.replicate n 0).set j 1
theorem unit_facts : ∀ {n j : Nat} (vs : List Int), j < n → (unitD n j).length = n ∧ (unitD n j).sum = 1 ∧ encD (unitD n j) = 2 ^ (64 * j) ∧ (∀ v, vs[j]? = some v → wt vs (unitD n j) = v)
  | n + 1, 0, vs, _ => by
    have e : unitD (n + 1) 0 = 1 :: List.replicate n 0 := rfl
    rw [e]
    refine ⟨by simp, by rw [List.sum_cons, rep_sum], by rw [encD, enc_rep]; rfl, fun v hv => ?_⟩
    cases vs with
    | nil => cases hv
    | cons u vs =>
      obtain rfl := Option.some.inj hv
      rw [wt, wt_rep, Int.mul_one, Int.pow_succ, Int.pow_zero, Int.one_mul]
  | n + 1, j + 1, vs, h => by
    have e : unitD (n + 1) (j + 1) = 0 :: unitD n j := rfl
    obtain ⟨h1, h2, h3, h4⟩ := unit_facts (n := n) (j := j) (vs.drop 1) (by omega)
    rw [e]
    refine ⟨by simp [h1], by rw [List.sum_cons, h2], ?_, fun v hv => ?_⟩
    · rw [encD, h3, Nat.mul_succ, Int.pow_add]
      have : (2 : Int) ^ 64 = 18446744073709551616 := rfl
      rw [this]
      omega
    · cases vs with
      | nil => cases hv
      | cons u vs =>
        have h5 : wt vs (unitD n j) = v := h4 v hv
        rw [wt, h5, Int.pow_zero, Int.one_mul]
theorem bd_unit {n j : Nat} (h : j < n) : Bd n 1 (2 ^ (64 * j)) := let ⟨a, b, c, _⟩ := unit_facts [] h; ⟨_, a, Nat.le_of_eq b, c.symm⟩
theorem wc_unit {n j : Nat} {vs : List Int} {v : Int} (h : j < n) (e : vs[j]? = some v) : wc n vs (2 ^ (64 * j)) = v := by
  obtain ⟨a, b, c, d⟩ := unit_facts (n := n) (j := j) vs h
  unfold wc
  rw [← c, dgs_enc a (by rw [b]; decide), d v e]
theorem unit_inj {i j : Nat} (h : (2 : Int) ^ (64 * i) = 2 ^ (64 * j)) : i = j := by
  have h' : (2 : Nat) ^ (64 * i) = 2 ^ (64 * j) := by exact_mod_cast h
  have := Nat.pow_right_inj (show 1 < 2 by decide) |>.mp h'
  omega
/-! ### all such numbers -/
def allC : Nat → Nat → List Int
  | 0, _ => [0]
  | n + 1, D => (List.range (D + 1)).flatMap fun (d : Nat) => (allC n D).map fun (c : Int) => (d : Int) + 18446744073709551616 * c
theorem allC_len : ∀ n D, (allC n D).length = (D + 1) ^ n
  | 0, _ => rfl
  | n + 1, D => by
    rw [allC, List.length_flatMap]
    have e : (List.range (D + 1)).map (fun d => ((allC n D).map fun c => ((d : Nat) : Int) + 18446744073709551616 * c).length) = (List.range (D + 1)).map fun _ => (D + 1) ^ n := List.map_congr_left fun d _ => by rw [List.length_map, allC_len n D]
    rw [e, List.map_const', List.sum_replicate_nat, List.length_range, Nat.pow_succ, Nat.mul_comm]
theorem bd_all : ∀ {n D : Nat} {c : Int}, Bd n D c → c ∈ allC n D
  | 0, D, c, ⟨e, h1, h2, h3⟩ => by
    rw [List.length_eq_zero_iff] at h1
    subst h1 h3
    exact List.mem_singleton.mpr rfl
  | n + 1, D, c, ⟨e, h1, h2, h3⟩ => by
    cases e with
    | nil => cases h1
    | cons d ds =>
      rw [List.sum_cons] at h2
      have ih := bd_all (n := n) (D := D) (c := encD ds) ⟨ds, by simpa using h1, by omega, rfl⟩
      rw [h3, allC, List.mem_flatMap]
      exact ⟨d, List.mem_range.mpr (by omega), List.mem_map.mpr ⟨_, ih, rfl⟩⟩
structure PolyOk (n D : Nat) (m : Pl) : Prop where
  nd : (m.map (·.1)).Nodup
  bd : ∀ q ∈ m, Bd n D q.1
  co : ∀ q ∈ m, 1 ≤ q.2
theorem PolyOk.len {n D : Nat} {m : Pl} (h : PolyOk n D m) : m.length ≤ (D + 1) ^ n := by
  have := List.Nodup.length_le_of_subset h.nd (fun c hc => by
    obtain ⟨q, hq, rfl⟩ := List.mem_map.mp hc
    exact bd_all (h.bd q hq))
  rwa [List.length_map, allC_len] at this
theorem PolyOk.mono {n D D' : Nat} {m : Pl} (h : PolyOk n D m) (l : D ≤ D') : PolyOk n D' m := ⟨h.nd, fun q hq => (h.bd q hq).mono l, h.co⟩
/-- the sum by weights of the keys -/
def wsum (f : Int → Int) (m : Pl) : Int := (m.map fun q => q.2 * f q.1).sum
theorem wsum_app (f : Int → Int) (a b : Pl) : wsum f (a ++ b) = wsum f a + wsum f b := by
  unfold wsum
  rw [List.map_append, List.sum_append]
theorem upd_wsum (f : Int → Int) (z v : Int) : ∀ m : Pl, (m.map (·.1)).Nodup → z ∈ m.map (·.1) → wsum f (m.map fun q => if q.1 = z then (q.1, v) else q) = wsum f m + (v - (tget m z).getD 0) * f z
  | [], _, h => by simp at h
  | q :: m, nd, h => by
    rw [List.map_cons, List.nodup_cons] at nd
    unfold wsum
    by_cases e : q.1 = z
    · have e2 : (m.map fun q => if q.1 = z then (q.1, v) else q) = m := by
        have : ∀ r ∈ m, (if r.1 = z then (r.1, v) else r) = r := fun r hr => if_neg fun h => nd.1 (by rw [e, ← h]; exact List.mem_map.mpr ⟨r, hr, rfl⟩)
        rw [List.map_congr_left this, List.map_id']
      rw [List.map_cons, if_pos e, e2, tget_cons_pos e, List.map_cons, List.map_cons, List.sum_cons, List.sum_cons, ← e]
      simp only [Option.getD_some]
      rw [Int.sub_mul]
      omega
    · have h' : z ∈ m.map (·.1) := by
        rw [List.map_cons] at h
        rcases List.mem_cons.mp h with r | r
        · exact absurd r.symm e
        · exact r
      have ih := upd_wsum f z v m nd.2 h'
      unfold wsum at ih
      rw [List.map_cons, if_neg e, tget_cons_neg e, List.map_cons, List.map_cons, List.sum_cons, List.sum_cons, ih]
      omega
theorem tput_wsum {f : Int → Int} {m : Pl} (nd : (m.map (·.1)).Nodup) (z v : Int) : wsum f (tput m z v) = wsum f m + (v - (tget m z).getD 0) * f z := by
  unfold tput
  split
  · rename_i h
    exact upd_wsum f z v m nd h
  · rename_i h
    rw [tget_none h, wsum_app]
    unfold wsum
    simp
def evP (n : Nat) (vs : List Int) (m : Pl) : Int := wsum (wc n vs) m
/-- a key's coefficient grows -/
theorem PolyOk.add {n D : Nat} {m : Pl} (h : PolyOk n D m) {c k : Int} (hc : Bd n D c) (hk : 1 ≤ k) : PolyOk n D (tput m c ((tget m c).getD 0 + k)) ∧ ∀ vs, evP n vs (tput m c ((tget m c).getD 0 + k)) = evP n vs m + k * wc n vs c := by
  have g0 : 0 ≤ (tget m c).getD 0 := by
    cases e : tget m c with
    | none => exact Int.le_refl _
    | some u =>
      have := h.co _ (tget_mem e)
      simp only [Option.getD_some]
      dsimp only at this
      omega
  refine ⟨⟨tput_nodup h.nd, fun q hq => ?_, fun q hq => ?_⟩, fun vs => ?_⟩
  · rcases mem_tput hq with z | z
    · exact h.bd q z
    · rw [z]; exact hc
  · rcases mem_tput hq with z | z
    · exact h.co q z
    · rw [z]
      show 1 ≤ (tget m c).getD 0 + k
      omega
  · show wsum _ _ = wsum _ _ + _
    rw [tput_wsum h.nd, show (tget m c).getD 0 + k - (tget m c).getD 0 = k by omega]
theorem evP_step (n : Nat) (vs : List Int) (m : Pl) {i : Nat} (h : i < m.length) : evP n vs (m.take (i + 1)) = evP n vs (m.take i) + m[i].2 * wc n vs m[i].1 := by
  unfold evP
  rw [List.take_add_one, List.getElem?_eq_getElem h, Option.toList_some, wsum_app]
  simp [wsum]
theorem wsum_nn {f : Int → Int} : ∀ {m : Pl}, (∀ q ∈ m, 0 ≤ q.2 * f q.1) → 0 ≤ wsum f m
  | [], _ => Int.le_refl _
  | q :: m, h => by
    have ih := wsum_nn (m := m) fun r hr => h r (List.mem_cons_of_mem _ hr)
    have := h q List.mem_cons_self
    unfold wsum at *
    rw [List.map_cons, List.sum_cons]
    omega
theorem wsum_mem {f : Int → Int} : ∀ {m : Pl}, (∀ q ∈ m, 0 ≤ q.2 * f q.1) → ∀ q ∈ m, q.2 * f q.1 ≤ wsum f m
  | [], _, q, hq => nomatch hq
  | a :: m, h, q, hq => by
    have h1 := h a List.mem_cons_self
    have h2 := wsum_nn (f := f) (m := m) fun r hr => h r (List.mem_cons_of_mem _ hr)
    rw [show wsum f (a :: m) = a.2 * f a.1 + wsum f m by simp [wsum]]
    rcases List.mem_cons.mp hq with e | e
    · rw [e]; omega
    · have := wsum_mem (m := m) (fun r hr => h r (List.mem_cons_of_mem _ hr)) q e
      omega
end HH
namespace HH
open PySem PySem.Spec PyProof.Rows L2 PySem.SeqAt
section
variable {X : Cx}
/-- xs.count(z), a list of texts -/
def rCntS (K : PySem.W.Frag) : V → List V → Hp → VK → Prop := fun x xs H Q => ∃ (p : Addr) (ns : List Str) (k : Str), x = .ref p ∧ xs = [.str k] ∧ SqL K H p (ns.map V.str) ∧ Q (.int (ns.count k : Nat)) H
theorem count_eqU {k : Str} {uy : Value} (ry : RelV (.str k) uy) : ∀ {ns : List Str} {us : List Value}, Vals (ns.map V.str) us → us.countP (eqU (.str k)) = ns.count k
  | [], us, r => by cases r; rfl
  | n :: ns, us, r => by
    cases r with
    | cons h t =>
      have ih := count_eqU ry (ns := ns) t
      rw [List.countP_cons, List.count_cons, ih, eqU_of h rfl]
      rfl
theorem mt_countS {K : PySem.W.Frag} (hX : X.K = K := by rfl) : MtR X "list.count" (rCntS K) := by
  subst hX
  intro pins s σ H x xs v us Q I rx rxs h
  obtain ⟨p, ns, k, rfl, rfl, hs, q⟩ := h
  cases rx
  cases rxs with
  | cons ry rt =>
    rename_i uy ut
    cases rt
    obtain ⟨its, rv, ⟨⟨cls, dd, data, sl⟩, n, ho, hc, hdn, hd⟩, hlen⟩ := I.list hs
    simp only at hc hd
    subst hc hd
    have fys : (ns.map V.str).all flatV = true := by
      rw [List.all_eq_true]
      intro y hy
      obtain ⟨z, _, rfl⟩ := List.mem_map.mp hy
      rfl
    refine call_meets PySem.F.slot_list_count ⟨_, ho, rfl⟩ PySem.F.entry_list_count (PySem.F.args_list_count_2 _ _)
      (SeqAt.list_countAt p its.toArray n dd sl uy (eqU (.str k))) ⟨ho, fun u' hu' => mem_eqAt ry rfl rv fys u' (by simpa using hu'), ?_⟩
    have ec : its.toArray.toList.countP (eqU (.str k)) = ns.count k := count_eqU ry rv
    refine ⟨.int (ns.count k : Nat), H, I.tok _, ⟨s.toks, ?_⟩, q⟩
    show Value.int ((its.toArray.toList.countP (eqU (.str k)) : Nat) : Int) s.toks = Value.int ((ns.count k : Nat) : Int) s.toks
    rw [ec]
theorem pi_enumL {e : Expr} {ta : TA} {p pos tpos : Pos} {elts : List Expr} {kk : Nat} {K : PySem.W.Frag} (hg : Gl X "enumerate") (hm : X.mg "enumerate" = none) (ha : PA X [e] ta) (hX : X.K = K := by rfl) (hs : starEach [e] X.env = [(false, eval e X.env)] := by rfl) :
    PI X (.Tuple elts kk tpos) (.Call (.Name "enumerate" p) [e] [] pos) (iEnum K ta) := by subst hX; exact pi_enum hg hm ha hs
end
section
variable {P : Program} {w : World} {K : PySem.W.Frag} {σ : L2.St} {H : Hp} {Q : VK} {D : Ends} {te tl tk tv td ty : TE} {ta : TA} {tt : TT} {tb t : TS} {g : TG} {wi : TI} {vs : List Nat} {tt1 : TT} {g1 : TG} {wi1 : TI} {vs1 : List Nat}
theorem rd_iEnumL {R : It → Hp → Prop} (h : ta σ H fun vs H1 => ∃ a xs, vs = [.ref a] ∧ SqL K H1 a xs ∧ R (Ite K a) H1) : iEnum K ta σ H R := h
theorem rd_iIt {R : It → Hp → Prop} (h : td σ H fun x H1 => ∃ d o kvs, x = .ref d ∧ H1 d = some (.frz o (.dK kvs)) ∧ R (Iti d o kvs) H1) : iItems td σ H R := h
/-- the locked dict d, plain keys -/
theorem rd_lockD {d : Addr} {kvs : List (Key × V)} (hd : H d = some (.dK kvs)) (h : ∀ od, t ⟨fun σ' H' => H' d = some (.frz od (.dK kvs)) ∧ D.nx σ' (upd H' d (.dK kvs)), fun v H' => H' d = some (.frz od (.dK kvs)) ∧ D.rt v (upd H' d (.dK kvs)), fun σ' H' => H' d = some (.frz od (.dK kvs)) ∧ D.bk σ' (upd H' d (.dK kvs)), fun σ' H' => H' d = some (.frz od (.dK kvs)) ∧ D.ct σ' (upd H' d (.dK kvs))⟩ σ (upd H d (.frz od (.dK kvs)))) : tLock t D σ H :=
  ⟨d, _, hd, True.intro, h⟩
/-- what stood ahead of the lock stands behind it -/
theorem same_lock {H H' : Hp} {d : Addr} {u f : HO} (hd : H d = some u) (s : Same (upd H d f) H') : Same H (upd H' d u) := fun b o e => by
  by_cases c : b = d
  · subst c
    rw [hd] at e
    rw [upd_same, ← e]
  · rw [upd_ne c]
    exact s _ _ (by rw [upd_ne c]; exact e)
/-- the outer for of two, over a list -/
theorem lc2_listW {a : Addr} {xs : List V} {H1 : Hp} {D : Addr} {Qd : Hp → Prop} (σ' : L2.St) (hw : wipe σ vs = σ') (Pv : Nat → Hp → Prop) (h0 : Pv 0 (upd H1 D (.lst []))) (hl : ∀ i H, i ≤ xs.length → Pv i H → SqL K H a xs)
    (hs : ∀ i x H, xs[i]? = some x → Pv i H → g x σ' H fun σ2 H2 => wipe σ2 vs = σ' ∧ tt σ2 H2 fun b H3 =>
      if b = true then wi1 σ2 H3 fun J1 H4 => ∃ W1 : Nat → Nat → Hp → Prop, (∃ m, W1 0 m H4) ∧ ∀ j k H, W1 j k H →
        (J1.stop j H ∧ Pv (i + 1) H) ∨ (J1.go j H ∧ ∃ Nx1 : Hp → Prop, (∀ H', Nx1 H' → ∃ k', k' < k ∧ W1 (j + 1) k' H') ∧ ∀ x H', J1.yld j H x H' → g1 x (wipe σ2 vs1) H' fun σ3 H5 => wipe σ3 vs1 = wipe σ2 vs1 ∧ tt1 σ3 H5 fun b H6 =>
          if b = true then te σ3 H6 fun y H7 => ∃ acc, H7 D = some (.lst acc) ∧ acc.length < sizeLine ∧ Nx1 (upd H7 D (.lst (acc ++ [y]))) else Nx1 H6)
      else Pv (i + 1) H3) (hd : ∀ H, Pv xs.length H → Qd H) :
    ∃ W : Nat → Nat → Hp → Prop, (∃ m, W 0 m (upd H1 D (.lst []))) ∧ ∀ i m H, W i m H →
      ((Itl K a).stop i H ∧ Qd H) ∨ ((Itl K a).go i H ∧ ∃ Nx : Hp → Prop, (∀ H', Nx H' → ∃ m', m' < m ∧ W (i + 1) m' H') ∧ ∀ x H', (Itl K a).yld i H x H' → g x (wipe σ vs) H' fun σ2 H2 => wipe σ2 vs = wipe σ vs ∧ tt σ2 H2 fun b H3 =>
        if b = true then wi1 σ2 H3 fun J1 H4 => ∃ W1 : Nat → Nat → Hp → Prop, (∃ m, W1 0 m H4) ∧ ∀ j k H, W1 j k H →
          (J1.stop j H ∧ Nx H) ∨ (J1.go j H ∧ ∃ Nx1 : Hp → Prop, (∀ H', Nx1 H' → ∃ k', k' < k ∧ W1 (j + 1) k' H') ∧ ∀ x H', J1.yld j H x H' → g1 x (wipe σ2 vs1) H' fun σ3 H5 => wipe σ3 vs1 = wipe σ2 vs1 ∧ tt1 σ3 H5 fun b H6 =>
            if b = true then te σ3 H6 fun y H7 => ∃ acc, H7 D = some (.lst acc) ∧ acc.length < sizeLine ∧ Nx1 (upd H7 D (.lst (acc ++ [y]))) else Nx1 H6)
        else Nx H3) := by
  subst hw
  refine ⟨fun i m H => m = xs.length - i ∧ i ≤ xs.length ∧ Pv i H, ⟨xs.length, by simp, Nat.zero_le _, h0⟩, ?_⟩
  rintro i m H ⟨rfl, hi, p⟩
  have q := hl i H hi p
  by_cases hlt : i < xs.length
  · refine .inr ⟨⟨xs, xs[i], q, by simp [hlt]⟩, Pv (i + 1), fun H' p' => ⟨xs.length - (i + 1), by omega, rfl, hlt, p'⟩, fun x H' y => ?_⟩
    obtain ⟨e, y⟩ := y
    subst e
    exact hs i x _ (y xs q) p
  · have e : i = xs.length := by omega
    subst e
    exact .inl ⟨⟨xs, q, Nat.le_refl _⟩, hd H p⟩
end
/-! ### a table's packed pairs -/
theorem dput_pl {H : Hp} {a : Addr} {m : Pl} {z n : Int} (ha : H a = some (.dK (plV m))) (hl : m.length ≤ 1000000) : DPut H a (.int z) (.int n) (upd H a (.dK (plV (tput m z n)))) := by
  have := DPut.k (k := Sum.inl z) (v := V.int n) ha (by rw [plV_len]; exact sz_lt hl)
  rw [putK_pl] at this
  exact this
theorem dget_pl {H : Hp} {a : Addr} {m : Pl} {z : Int} (ha : H a = some (.dK (plV m))) : DGet H a (.int z) ((tget m z).map V.int) := by
  have := DGet.k (k := Sum.inl z) ha
  rw [valV_pl] at this
  exact this
theorem yp_pl {m : Pl} {i : Nat} {H H' : Hp} {v : V} (hi : i < m.length) (y : YPair (fun i => (plV m)[i]?.map fun kv => kV kv.1) (fun i => (plV m)[i]?.map Prod.snd) i H v H') :
    ∃ T, v = .ref T ∧ H T = none ∧ H' = upd H T (.tup [.int m[i].1, .int m[i].2]) := by
  obtain ⟨T, x, z, h1, h2, h3, h4, h5⟩ := y
  have e : (plV m)[i]? = some (Sum.inl m[i].1, V.int m[i].2) := by
    unfold plV encV
    rw [List.getElem?_map, List.getElem?_eq_getElem hi]
    rfl
  dsimp only at h4 h5
  rw [e] at h4 h5
  obtain rfl := Option.some.inj h4
  obtain rfl := Option.some.inj h5
  exact ⟨T, h1, h2, h3⟩
theorem sameTup {H : Hp} {T : Addr} {o : HO} (n : H T = none) : Same H (upd H T o) := same_new n
end HH
namespace HH
open PySem PySem.Spec PyProof.Rows L2 PySem.SeqAt
theorem getD_int (o : Option Int) : (o.map V.int).getD (V.int 0) = V.int (o.getD 0) := by cases o <;> rfl
theorem lock_fr {H H' : Hp} {d p : Addr} {u f : HO} (hd : H d = some u) (n : d ≠ p) (s : Fr p (upd H d f) H') : Fr p H (upd H' d u) := fun b o hb e => by
  by_cases c : b = d
  · subst c
    rw [hd] at e
    rw [upd_same, ← e]
  · rw [upd_ne c]
    exact s _ _ hb (by rw [upd_ne c]; exact e)
theorem same_fr {H H1 H' : Hp} {p : Addr} (n : H p = none) (s : Same H H1) (f : Fr p H1 H') : Same H H' := fun b o e => f b o (fun z => by rw [z, n] at e; cases e) (s _ _ e)
theorem fr_mut {H H' : Hp} {p : Addr} {o : HO} (f : Fr p H H') : Fr p H (upd H' p o) := fun b u hb e => by rw [upd_ne hb]; exact f b u hb e
theorem fr_new {H H' : Hp} {p l : Addr} {o : HO} (f : Fr p H H') (n : H' l = none) : Fr p H (upd H' l o) := fun b u hb e => same_new n _ _ (f b u hb e)
theorem tput_new {m : Pl} {z n : Int} (h : z ∉ m.map (·.1)) : tput m z n = m ++ [(z, n)] := by unfold tput; rw [if_neg h]
theorem nodup_take {m : Pl} (nd : (m.map (·.1)).Nodup) {i : Nat} (h : i < m.length) : m[i].1 ∉ (m.take i).map (·.1) := fun q => by
  rw [List.map_take] at q
  obtain ⟨j, hj, e⟩ := List.getElem_of_mem q
  rw [List.length_take, List.length_map] at hj
  rw [List.getElem_take] at e
  have e2 : (m.map (·.1))[j]'(by rw [List.length_map]; omega) = (m.map (·.1))[i]'(by rw [List.length_map]; omega) := by rw [e, List.getElem_map]
  exact (List.pairwise_iff_getElem.mp nd) j i (by rw [List.length_map]; omega) (by rw [List.length_map]; omega) (by omega) e2
theorem take_put {m : Pl} (nd : (m.map (·.1)).Nodup) {i : Nat} (h : i < m.length) : tput (m.take i) m[i].1 m[i].2 = m.take (i + 1) := by
  rw [tput_new (nodup_take nd h), List.take_add_one, List.getElem?_eq_getElem h]
  rfl
theorem locked_ne {H : Hp} {d f : Addr} {u : HO} (n : (upd H d u) f = none) : f ≠ d ∧ H f = none := by
  by_cases c : f = d
  · rw [c, upd_same] at n; cases n
  · rw [upd_ne c] at n; exact ⟨c, n⟩
theorem PolyOk.le {n D : Nat} {m : Pl} (h : PolyOk n D m) (sz : (D + 1) ^ n ≤ 100000) : m.length ≤ 100000 := Nat.le_trans h.len sz
end HH
namespace HH
open PySem PySem.Spec PyProof.Rows L2 PySem.SeqAt
theorem rd_dsp1 {tk tv : TE} {σ : L2.St} {H : Hp} {Q : List (V × V) → Hp → Prop} (h : tk σ H fun x H1 => tv σ H1 fun y H2 => Q [(x, y)] H2) : tPairs [(tk, tv)] σ H Q := h
theorem PolyOk.co_le {n D : Nat} {m : Pl} (h : PolyOk n D m) {us : List Int} (hu : ∀ v ∈ us, 1 ≤ v) {q : Int × Int} (hq : q ∈ m) : q.2 ≤ evP n us m := by
  have nn : ∀ q ∈ m, q.2 ≤ q.2 * wc n us q.1 := fun q hq => by
    have h1 := h.co q hq
    have h2 : 1 ≤ wc n us q.1 := wt_pos hu
    have := Int.mul_le_mul_of_nonneg_left h2 (show 0 ≤ q.2 by omega)
    omega
  have h3 := wsum_mem (f := wc n us) (fun q hq => by have := nn q hq; have := h.co q hq; omega) q hq
  have := nn q hq
  show q.2 ≤ wsum (wc n us) m
  omega
theorem PolyOk.ev_nn {n D : Nat} {m : Pl} (h : PolyOk n D m) {us : List Int} (hu : ∀ v ∈ us, 1 ≤ v) : 0 ≤ evP n us m :=
  wsum_nn fun q hq => by
    have h1 := h.co q hq
    have h2 : 1 ≤ wc n us q.1 := wt_pos hu
    exact Int.le_of_lt (Int.mul_pos (by omega) (by omega))
/-- the worth of a product, by the worth of its names -/
def wprod (f : Str → Int) : Tab → Int
  | [] => 1
  | q :: ps => f q.1 ^ q.2.toNat * wprod f ps
theorem wprod_app (f : Str → Int) : ∀ a b : Tab, wprod f (a ++ b) = wprod f a * wprod f b
  | [], b => (Int.one_mul _).symm
  | q :: a, b => by rw [List.cons_append, wprod, wprod, wprod_app f a b, Int.mul_assoc]
theorem wprod_step (f : Str → Int) (ps : Tab) {i : Nat} (h : i < ps.length) : wprod f (ps.take (i + 1)) = wprod f (ps.take i) * f ps[i].1 ^ ps[i].2.toNat := by
  rw [List.take_add_one, List.getElem?_eq_getElem h, Option.toList_some, wprod_app]
  simp [wprod]
theorem pow_le_powI {x y : Int} (hx : 0 ≤ x) (h : x ≤ y) : ∀ n : Nat, x ^ n ≤ y ^ n
  | 0 => by simp
  | n + 1 => by
    rw [Int.pow_succ, Int.pow_succ]
    exact Int.mul_le_mul (pow_le_powI hx h n) h hx (Int.pow_nonneg (by omega))
theorem wprod_le {f : Str → Int} {B : Int} (hB : 1 ≤ B) : ∀ {ps : Tab}, (∀ q ∈ ps, 0 ≤ f q.1 ∧ f q.1 ≤ B) → 0 ≤ wprod f ps ∧ wprod f ps ≤ B ^ degP ps
  | [], _ => ⟨by rw [wprod]; decide, by rw [wprod, degP, Int.pow_zero]; exact Int.le_refl _⟩
  | q :: ps, h => by
    obtain ⟨a, b⟩ := h q List.mem_cons_self
    obtain ⟨c, d⟩ := wprod_le hB (ps := ps) fun r hr => h r (List.mem_cons_of_mem _ hr)
    have e1 : 0 ≤ f q.1 ^ q.2.toNat := Int.pow_nonneg a
    have e2 : f q.1 ^ q.2.toNat ≤ B ^ q.2.toNat := pow_le_powI a b _
    refine ⟨Int.mul_nonneg e1 c, ?_⟩
    rw [wprod, show degP (q :: ps) = q.2.toNat + degP ps from rfl, Int.pow_add]
    exact Int.mul_le_mul e2 d c (Int.pow_nonneg (by omega))
theorem wprod_mono {f g : Str → Int} : ∀ {ps : Tab}, (∀ q ∈ ps, 0 ≤ f q.1 ∧ f q.1 ≤ g q.1) → 0 ≤ wprod f ps ∧ wprod f ps ≤ wprod g ps
  | [], _ => ⟨by rw [wprod]; decide, Int.le_refl _⟩
  | q :: ps, h => by
    obtain ⟨a, b⟩ := h q List.mem_cons_self
    obtain ⟨c, d⟩ := wprod_mono (ps := ps) fun r hr => h r (List.mem_cons_of_mem _ hr)
    have e1 : 0 ≤ f q.1 ^ q.2.toNat := Int.pow_nonneg a
    refine ⟨Int.mul_nonneg e1 c, ?_⟩
    rw [wprod, wprod]
    exact Int.mul_le_mul (pow_le_powI a b _) d c (Int.pow_nonneg (by omega))
theorem worthP_wprod (m : Tab) : ∀ ps : Tab, worthP m ps = wprod (fun z => (tget m z).getD 0) ps
  | [] => rfl
  | q :: ps => by rw [worthP, wprod, worthP_wprod m ps]
end HH
namespace HH
open PySem PySem.Spec PyProof.Rows L2 PySem.SeqAt
def rIsNK : R2 := fun x y H Q => y = .non ∧ Q (.bl (decide (x = .non))) H
theorem op_isNK {X : Cx} : OpR X (compareOp .Is) rIsNK := op_isN
theorem rd_isNKs {H : Hp} {Q : VK} {z : Str} (h : Q (.bl false) H) : rIsNK (V.str z) V.non H Q := ⟨rfl, by rw [decide_eq_false (by intro w; cases w)]; exact h⟩
theorem rd_isNKn {H : Hp} {Q : VK} (h : Q (.bl true) H) : rIsNK V.non V.non H Q := ⟨rfl, by rw [decide_eq_true rfl]; exact h⟩
end HH
namespace HH
open PySem PySem.Spec PyProof.Rows L2 PySem.SeqAt
/-! ### what a packed number stands for -/
def pwL : List Str → List Nat → Tab
  | z :: Z, d :: ds => (z, (d : Int)) :: pwL Z ds
  | _, _ => []
theorem pwL_get : ∀ {Z : List Str} {ds : List Nat} {j : Nat} {d : Nat} (h : j < Z.length), ds[j]? = some d → (pwL Z ds)[j]? = some (Z[j], (d : Int))
  | z :: Z, [], j, d, h, e => by cases e
  | z :: Z, d :: ds, 0, _, h, e => by
    obtain rfl := Option.some.inj e
    rfl
  | z :: Z, d :: ds, j + 1, _, h, e => pwL_get (Z := Z) (ds := ds) (by simpa using h) e
theorem pwL_len : ∀ {Z : List Str} {ds : List Nat}, Z.length = ds.length → (pwL Z ds).length = Z.length
  | [], _, _ => by simp [pwL]
  | _ :: _, [], h => nomatch h
  | z :: Z, d :: ds, h => by
    rw [pwL, List.length_cons, pwL_len (by simpa using h), List.length_cons]
theorem pwL_mem : ∀ {Z : List Str} {ds : List Nat} {q : Str × Int}, q ∈ pwL Z ds → q.1 ∈ Z ∧ 0 ≤ q.2
  | [], _, q, h => by simp [pwL] at h
  | _ :: _, [], q, h => by simp [pwL] at h
  | z :: Z, d :: ds, q, h => by
    rw [pwL] at h
    rcases List.mem_cons.mp h with e | e
    · rw [e]; exact ⟨List.mem_cons_self, Int.natCast_nonneg d⟩
    · obtain ⟨a, b⟩ := pwL_mem e
      exact ⟨List.mem_cons_of_mem _ a, b⟩
theorem pwL_worth (mm : Tab) : ∀ {Z : List Str} {ds : List Nat}, worthP mm (pwL Z ds) = wt (Z.map fun z => (tget mm z).getD 0) ds
  | [], ds => by cases ds <;> rfl
  | _ :: _, [] => rfl
  | z :: Z, d :: ds => by
    rw [pwL, worthP, pwL_worth mm, List.map_cons, wt, Int.toNat_natCast]
theorem pwL_deg : ∀ {Z : List Str} {ds : List Nat}, Z.length = ds.length → degP (pwL Z ds) = ds.sum
  | [], [], _ => rfl
  | [], _ :: _, h => nomatch h
  | _ :: _, [], h => nomatch h
  | z :: Z, d :: ds, h => by rw [pwL, degP, pwL_deg (by simpa using h), List.sum_cons, Int.toNat_natCast]
theorem pwL_sw : ∀ {Z : List Str} {ds : List Nat}, Z.Nodup → Z.length = ds.length → ∀ (j : Nat) (h : j < Z.length) (d : Nat), ds[j]? = some d → sw (pwL Z ds) Z[j] = d
  | z :: Z, [], _, h, _, _, _, _ => nomatch h
  | z :: Z, d :: ds, nd, h, 0, _, e, he => by
    obtain rfl := Option.some.inj he
    have hz := (List.nodup_cons.mp nd).1
    rw [pwL, sw_cons, show (z :: Z)[0] = z from rfl, if_pos rfl, sw_out]
    · exact Int.add_zero _
    · intro q
      obtain ⟨r, hr, er⟩ := List.mem_map.mp q
      have := (pwL_mem hr).1
      rw [er] at this
      exact hz this
  | z :: Z, d :: ds, nd, h, j + 1, hj, e, he => by
    obtain ⟨hz, nd'⟩ := List.nodup_cons.mp nd
    have ne : ¬ z = Z[j]'(by simpa using hj) := fun q => hz (by rw [q]; exact List.getElem_mem _)
    rw [pwL, sw_cons, show (z :: Z)[j + 1] = Z[j]'(by simpa using hj) from rfl, if_neg ne, Int.zero_add]
    exact pwL_sw nd' (by simpa using h) j _ e he
/-- the pairs whose power is not 0 -/
def pwF (Z : List Str) (c : Int) : Tab := (pwL Z (dgs Z.length c)).filter fun q => decide (q.2 > 0)
theorem filt_worth (mm : Tab) : ∀ ps : Tab, (∀ q ∈ ps, 0 ≤ q.2) → worthP mm (ps.filter fun q => decide (q.2 > 0)) = worthP mm ps
  | [], _ => rfl
  | q :: ps, h => by
    have ih := filt_worth mm ps fun r hr => h r (List.mem_cons_of_mem _ hr)
    have h0 := h q List.mem_cons_self
    by_cases c : q.2 > 0
    · rw [List.filter_cons, if_pos (decide_eq_true c), worthP, worthP, ih]
    · rw [List.filter_cons, if_neg (by rw [decide_eq_false c]; exact Bool.false_ne_true), worthP, ih, show q.2 = 0 by omega]
      simp
theorem filt_deg : ∀ ps : Tab, degP (ps.filter fun q => decide (q.2 > 0)) = degP ps
  | [] => rfl
  | q :: ps => by
    have ih := filt_deg ps
    by_cases c : q.2 > 0
    · rw [List.filter_cons, if_pos (decide_eq_true c), degP, degP, ih]
    · rw [List.filter_cons, if_neg (by rw [decide_eq_false c]; exact Bool.false_ne_true), degP, ih]
      omega
theorem filt_sw (y : Str) : ∀ ps : Tab, (∀ q ∈ ps, 0 ≤ q.2) → sw (ps.filter fun q => decide (q.2 > 0)) y = sw ps y
  | [], _ => rfl
  | q :: ps, h => by
    have ih := filt_sw y ps fun r hr => h r (List.mem_cons_of_mem _ hr)
    have h0 := h q List.mem_cons_self
    by_cases c : q.2 > 0
    · rw [List.filter_cons, if_pos (decide_eq_true c), sw_cons, sw_cons, ih]
    · rw [List.filter_cons, if_neg (by rw [decide_eq_false c]; exact Bool.false_ne_true), sw_cons, ih, show q.2 = 0 by omega]
      simp
theorem worthP_perm {mm : Tab} {a b : Tab} (h : a.Perm b) : worthP mm a = worthP mm b := by
  induction h with
  | nil => rfl
  | cons x _ ih => rw [worthP, worthP, ih]
  | swap x y l => simp only [worthP]; ac_rfl
  | trans _ _ h1 h2 => exact h1.trans h2
theorem degP_perm {a b : Tab} (h : a.Perm b) : degP a = degP b := by
  induction h with
  | nil => rfl
  | cons x _ ih => rw [degP, degP, ih]
  | swap x y l => simp only [degP]; omega
  | trans _ _ h1 h2 => exact h1.trans h2
theorem pwF_worth (mm : Tab) (Z : List Str) (c : Int) : worthP mm (pwF Z c) = wc Z.length (Z.map fun z => (tget mm z).getD 0) c := by
  unfold pwF
  rw [filt_worth mm _ fun q hq => (pwL_mem hq).2, pwL_worth]
  rfl
theorem pwF_deg {Z : List Str} {D : Nat} {c : Int} (h : Bd Z.length D c) (l : D < 18446744073709551616) : degP (pwF Z c) ≤ D := by
  unfold pwF
  rw [filt_deg, pwL_deg (dgs_len _ _).symm]
  obtain ⟨e, h1, h2, rfl⟩ := h
  rw [dgs_enc h1 (by omega)]
  exact h2
theorem pwF_mem {Z : List Str} {c : Int} {q : Str × Int} (h : q ∈ pwF Z c) : q.1 ∈ Z ∧ 1 ≤ q.2 := by
  obtain ⟨a, b⟩ := List.mem_filter.mp h
  have := of_decide_eq_true b
  exact ⟨(pwL_mem a).1, by omega⟩
theorem pwF_inj {Z : List Str} {D : Nat} {c d : Int} (nd : Z.Nodup) (hc : Bd Z.length D c) (hd : Bd Z.length D d) (l : D < 18446744073709551616) (h : (pwF Z c).Perm (pwF Z d)) : c = d := by
  have e : dgs Z.length c = dgs Z.length d := by
    refine List.ext_getElem (by rw [dgs_len, dgs_len]) fun j h1 h2 => ?_
    have hj : j < Z.length := by rwa [dgs_len] at h1
    have s1 := pwL_sw nd (dgs_len Z.length c).symm j hj _ (List.getElem?_eq_getElem h1)
    have s2 := pwL_sw nd (dgs_len Z.length d).symm j hj _ (List.getElem?_eq_getElem h2)
    have s3 := sw_perm h Z[j]
    unfold pwF at s3
    rw [filt_sw _ _ fun q hq => (pwL_mem hq).2, filt_sw _ _ fun q hq => (pwL_mem hq).2, s1, s2] at s3
    omega
  obtain ⟨e1, a1, a2, rfl⟩ := hc
  obtain ⟨e2, b1, b2, rfl⟩ := hd
  rw [dgs_enc a1 (by omega), dgs_enc b1 (by omega)] at e
  rw [e]
/-- the table of products so far -/
structure UnOk (Z : List Str) (m : Pl) (i : Nat) (M : Pt) : Prop where
  len : M.length = i
  get : ∀ (j : Nat) (x : Tab × Int), M[j]? = some x → ∃ q : Int × Int, m[j]? = some q ∧ x.1.Perm (pwF Z q.1) ∧ x.2 = q.2
theorem UnOk.nil {Z : List Str} {m : Pl} : UnOk Z m 0 [] := ⟨rfl, fun j x h => by simp at h⟩
theorem UnOk.new {Z : List Str} {m : Pl} {D i : Nat} {M : Pt} (u : UnOk Z m i M) (nZ : Z.Nodup) (p : PolyOk Z.length D m) (l : D < 18446744073709551616) (hi : i < m.length) {ps : Tab} (hp : ps.Perm (pwF Z m[i].1)) : ps ∉ M.map (·.1) := fun h => by
  obtain ⟨x, hx, rfl⟩ := List.mem_map.mp h
  obtain ⟨j, hj⟩ := List.mem_iff_getElem?.mp hx
  obtain ⟨q, hq, px, _⟩ := u.get j x hj
  have hj' : j < i := by rw [← u.len]; exact (List.getElem?_eq_some_iff.mp hj).1
  obtain ⟨hjm, eq⟩ := List.getElem?_eq_some_iff.mp hq
  have := pwF_inj nZ (p.bd _ (List.getElem_mem hi)) (p.bd q (by rw [← eq]; exact List.getElem_mem hjm)) l (hp.symm.trans px)
  rw [← eq] at this
  have e2 : (m.map (·.1))[i]'(by rw [List.length_map]; exact hi) = (m.map (·.1))[j]'(by rw [List.length_map]; exact hjm) := by rw [List.getElem_map, List.getElem_map]; exact this
  exact (List.pairwise_iff_getElem.mp p.nd) j i (by rw [List.length_map]; exact hjm) (by rw [List.length_map]; exact hi) hj' e2.symm
theorem UnOk.step {Z : List Str} {m : Pl} {i : Nat} {M : Pt} (u : UnOk Z m i M) (hi : i < m.length) {ps : Tab} (hp : ps.Perm (pwF Z m[i].1)) : UnOk Z m (i + 1) (M ++ [(ps, m[i].2)]) := by
  refine ⟨by rw [List.length_append, u.len]; rfl, fun j x h => ?_⟩
  by_cases c : j < M.length
  · rw [List.getElem?_append_left c] at h
    exact u.get j x h
  · rw [List.getElem?_append_right (by omega)] at h
    have : j - M.length = 0 := by
      have := (List.getElem?_eq_some_iff.mp h).1
      simpa using this
    rw [this] at h
    obtain rfl := Option.some.inj h
    have ej : j = i := by rw [← u.len]; omega
    subst ej
    exact ⟨m[j], List.getElem?_eq_getElem hi, hp, rfl⟩
theorem UnOk.worth {Z : List Str} {m : Pl} {M : Pt} (u : UnOk Z m m.length M) (mm : Tab) : (M.map fun x => x.2 * worthP mm x.1).sum = evP Z.length (Z.map fun z => (tget mm z).getD 0) m := by
  unfold evP wsum
  congr 1
  refine List.ext_getElem (by rw [List.length_map, List.length_map, u.len]) fun j h1 h2 => ?_
  rw [List.length_map] at h1 h2
  rw [List.getElem_map, List.getElem_map]
  obtain ⟨q, hq, px, ex⟩ := u.get j _ (List.getElem?_eq_getElem h1)
  rw [List.getElem?_eq_getElem h2] at hq
  obtain rfl := Option.some.inj hq
  rw [ex, worthP_perm px, pwF_worth]
theorem UnOk.sum {Z : List Str} {m : Pl} {M : Pt} (u : UnOk Z m m.length M) (nd : (M.map (·.1)).Nodup) {ys : List Tab} (py : ys.Perm (M.map (·.1))) (mm : Tab) :
    worthS mm (ys.map fun y => ((tget M y).getD 0, y)) = evP Z.length (Z.map fun z => (tget mm z).getD 0) m := by
  rw [← u.worth mm, ← worthS_sum, List.map_map]
  have h := (tab_perm nd py).map fun x : Tab × Int => x.2 * worthP mm x.1
  rw [List.map_map] at h
  exact perm_sum h
end HH
namespace HH
open PySem PySem.Spec PyProof.Rows L2 PySem.SeqAt
theorem yp_tab {m : Tab} {i : Nat} {q : Str × Int} {H H' : Hp} {v : V} (hq : m[i]? = some q) (y : YPair (fun i => (tabV m)[i]?.map fun kv => kV kv.1) (fun i => (tabV m)[i]?.map Prod.snd) i H v H') :
    ∃ T, v = .ref T ∧ H T = none ∧ H' = upd H T (.tup [.str q.1, .int q.2]) := by
  obtain ⟨T, x, z, h1, h2, h3, h4, h5⟩ := y
  have e : (tabV m)[i]? = some (Sum.inr q.1, V.int q.2) := by
    unfold tabV encV
    rw [List.getElem?_map, hq]
    rfl
  dsimp only at h4 h5
  rw [e] at h4 h5
  obtain rfl := Option.some.inj h4
  obtain rfl := Option.some.inj h5
  exact ⟨T, h1, h2, h3⟩
end HH
namespace K41
open PySem PySem.Spec PyProof.Rows L2 HH
def topS (i : Nat) : Stmt := PySem.Challenge.pw_howhigh_k41_whole_rounds_stay_below_the.main.body.getD i (.Pass ⟨0, 0, 0, 0⟩)
abbrev s_givers : Stmt := topS 1
abbrev N_givers : List Str := ["names", "flat", "name", "found", "_", "product", "giver", "todo", "further"]
theorem sc_givers : FnScope N_givers ["names", "flat"] (defScope s_givers) := ⟨rfl, rfl, rfl, by decide +kernel, rfl, by decide +kernel, by decide +kernel⟩
abbrev s_hands_on_plainly : Stmt := topS 2
abbrev N_hands_on_plainly : List Str := ["row", "part", "word", "_", "coefficient", "product"]
theorem sc_hands_on_plainly : FnScope N_hands_on_plainly ["row", "part"] (defScope s_hands_on_plainly) := ⟨rfl, rfl, rfl, by decide +kernel, rfl, by decide +kernel, by decide +kernel⟩
abbrev s_raising : Stmt := topS 3
abbrev N_raising : List Str := ["part", "flat", "number", "row"]
theorem sc_raising : FnScope N_raising ["part", "flat"] (defScope s_raising) := ⟨rfl, rfl, rfl, by decide +kernel, rfl, by decide +kernel, by decide +kernel⟩
abbrev s_parts : Stmt := topS 5
abbrev N_parts : List Str := ["names", "flat", "behind", "waiting", "name", "other", "part", "found", "placed", "giver", "ready", "least"]
theorem sc_parts : FnScope N_parts ["names", "flat"] (defScope s_parts) := ⟨rfl, rfl, rfl, by decide +kernel, rfl, by decide +kernel, by decide +kernel⟩
abbrev s_doubling : Stmt := topS 6
abbrev N_doubling : List Str := ["names", "flat", "part"]
theorem sc_doubling : FnScope N_doubling ["names", "flat"] (defScope s_doubling) := ⟨rfl, rfl, rfl, by decide +kernel, rfl, by decide +kernel, by decide +kernel⟩
abbrev s__doubles : Stmt := topS 7
abbrev N__doubles : List Str := ["part", "flat", "number", "name", "_"]
theorem sc__doubles : FnScope N__doubles ["part", "flat"] (defScope s__doubles) := ⟨rfl, rfl, rfl, by decide +kernel, rfl, by decide +kernel, by decide +kernel⟩
abbrev s_calm_parts : Stmt := topS 8
abbrev N_calm_parts : List Str := ["names", "flat", "behind", "part", "name", "wild", "giver"]
theorem sc_calm_parts : FnScope N_calm_parts ["names", "flat"] (defScope s_calm_parts) := ⟨rfl, rfl, rfl, by decide +kernel, rfl, by decide +kernel, by decide +kernel⟩
abbrev s_places_of : Stmt := topS 11
abbrev N_places_of : List Str := ["names", "k", "name"]
theorem sc_places_of : FnScope N_places_of ["names"] (defScope s_places_of) := ⟨rfl, rfl, rfl, by decide +kernel, rfl, by decide +kernel, by decide +kernel⟩
abbrev s_unpacked : Stmt := topS 12
abbrev N_unpacked : List Str := ["terms", "places", "only", "found", "code", "coefficient", "name", "place", "powers", "pair", "product"]
theorem sc_unpacked : FnScope N_unpacked ["terms", "places"] (defScope s_unpacked) := ⟨rfl, rfl, rfl, by decide +kernel, rfl, by decide +kernel, by decide +kernel⟩
abbrev s_packed_plus : Stmt := topS 13
abbrev N_packed_plus : List Str := ["one", "other", "code", "coefficient", "found"]
theorem sc_packed_plus : FnScope N_packed_plus ["one", "other"] (defScope s_packed_plus) := ⟨rfl, rfl, rfl, by decide +kernel, rfl, by decide +kernel, by decide +kernel⟩
abbrev s_packed_times : Stmt := topS 14
abbrev N_packed_times : List Str := ["one", "other", "found", "code", "coefficient", "further", "factor"]
theorem sc_packed_times : FnScope N_packed_times ["one", "other"] (defScope s_packed_times) := ⟨rfl, rfl, rfl, by decide +kernel, rfl, by decide +kernel, by decide +kernel⟩
abbrev s_packed_put : Stmt := topS 15
abbrev N_packed_put : List Str := ["coefficient", "product", "sums", "worth", "name", "power", "_"]
theorem sc_packed_put : FnScope N_packed_put ["coefficient", "product", "sums"] (defScope s_packed_put) := ⟨rfl, rfl, rfl, by decide +kernel, rfl, by decide +kernel, by decide +kernel⟩
abbrev s_loop_paper : Stmt := topS 17
abbrev N_loop_paper : List Str := ["names", "flat", "places", "known", "paper", "part", "name", "terms", "number", "word", "_", "coefficient", "product", "worth", "code", "factor"]
theorem sc_loop_paper : FnScope N_loop_paper ["names", "flat"] (defScope s_loop_paper) := ⟨rfl, rfl, rfl, by decide +kernel, rfl, by decide +kernel, by decide +kernel⟩
abbrev s_l_dice : Stmt := topS 19
abbrev N_l_dice : List Str := ["_law_script", "_law_cell"]
theorem sc_l_dice : FnScope N_l_dice ["_law_script"] (defScope s_l_dice) := ⟨rfl, rfl, rfl, by decide +kernel, rfl, by decide +kernel, by decide +kernel⟩
abbrev s_l_draw : Stmt := topS 20
abbrev N_l_draw : List Str := ["_law_dice_here", "_law_many", "_law_cell", "_law_drawn", "_law_number"]
theorem sc_l_draw : FnScope N_l_draw ["_law_dice_here", "_law_many"] (defScope s_l_draw) := ⟨rfl, rfl, rfl, by decide +kernel, rfl, by decide +kernel, by decide +kernel⟩
abbrev s_l_word : Stmt := topS 21
abbrev N_l_word : List Str := ["_law_dice_here", "_law_most", "_law_letters", "_law_word_here", "_law_k"]
theorem sc_l_word : FnScope N_l_word ["_law_dice_here", "_law_most"] (defScope s_l_word) := ⟨rfl, rfl, rfl, by decide +kernel, rfl, by decide +kernel, by decide +kernel⟩
abbrev s_l_names : Stmt := topS 22
abbrev N_l_names : List Str := ["_law_dice_here", "_law_many", "_law_alike", "_law_base", "_law_names_here", "_law_k", "_law_word_here", "_law_at", "_law_sign"]
theorem sc_l_names : FnScope N_l_names ["_law_dice_here", "_law_many"] (defScope s_l_names) := ⟨rfl, rfl, rfl, by decide +kernel, rfl, by decide +kernel, by decide +kernel⟩
abbrev s_l_product : Stmt := topS 23
abbrev N_l_product : List Str := ["_law_dice_here", "_law_names_here", "_law_most", "_law_powers", "_law_k", "_law_name"]
theorem sc_l_product : FnScope N_l_product ["_law_dice_here", "_law_names_here", "_law_most"] (defScope s_l_product) := ⟨rfl, rfl, rfl, by decide +kernel, rfl, by decide +kernel, by decide +kernel⟩
abbrev s_l_sum : Stmt := topS 24
abbrev N_l_sum : List Str := ["_law_dice_here", "_law_names_here", "_law_terms", "_law_most", "_law_top", "_law_found", "_law_k", "_law_product_here"]
theorem sc_l_sum : FnScope N_l_sum ["_law_dice_here", "_law_names_here", "_law_terms", "_law_most", "_law_top"] (defScope s_l_sum) := ⟨rfl, rfl, rfl, by decide +kernel, rfl, by decide +kernel, by decide +kernel⟩
abbrev s_l_order : Stmt := topS 25
abbrev N_l_order : List Str := ["_law_dice_here", "_law_names_here", "_law_left", "_law_found", "_law_k"]
theorem sc_l_order : FnScope N_l_order ["_law_dice_here", "_law_names_here"] (defScope s_l_order) := ⟨rfl, rfl, rfl, by decide +kernel, rfl, by decide +kernel, by decide +kernel⟩
abbrev s_l_flat : Stmt := topS 26
abbrev N_l_flat : List Str := ["_law_dice_here", "_law_names_here", "_law_most", "_law_top", "_law_wild", "_law_order_here", "_law_size", "_law_adds", "_law_lifts", "_law_k", "_law_at", "_law_name", "_law_letters", "_law_kind", "_law_product_here", "_law_other", "_law_key", "_law_rows"]
theorem sc_l_flat : FnScope N_l_flat ["_law_dice_here", "_law_names_here", "_law_most", "_law_top", "_law_wild"] (defScope s_l_flat) := ⟨rfl, rfl, rfl, by decide +kernel, rfl, by decide +kernel, by decide +kernel⟩
abbrev s_l_worth : Stmt := topS 27
abbrev N_l_worth : List Str := ["_law_product_here", "_law_numbers", "_law_worth_here", "_law_pair", "_law_k"]
theorem sc_l_worth : FnScope N_l_worth ["_law_product_here", "_law_numbers"] (defScope s_l_worth) := ⟨rfl, rfl, rfl, by decide +kernel, rfl, by decide +kernel, by decide +kernel⟩
abbrev s_l_total : Stmt := topS 28
abbrev N_l_total : List Str := ["_law_terms", "_law_numbers", "_law_term"]
theorem sc_l_total : FnScope N_l_total ["_law_terms", "_law_numbers"] (defScope s_l_total) := ⟨rfl, rfl, rfl, by decide +kernel, rfl, by decide +kernel, by decide +kernel⟩
abbrev s_l_without : Stmt := topS 29
abbrev N_l_without : List Str := ["_law_product_here", "_law_name", "_law_found", "_law_pair"]
theorem sc_l_without : FnScope N_l_without ["_law_product_here", "_law_name"] (defScope s_l_without) := ⟨rfl, rfl, rfl, by decide +kernel, rfl, by decide +kernel, by decide +kernel⟩
abbrev s_l_do_flat : Stmt := topS 30
abbrev N_l_do_flat : List Str := ["_law_row", "_law_inner", "_law_numbers", "_law_most", "_law_rest", "_law_k"]
theorem sc_l_do_flat : FnScope N_l_do_flat ["_law_row", "_law_inner", "_law_numbers", "_law_most"] (defScope s_l_do_flat) := ⟨rfl, rfl, rfl, by decide +kernel, rfl, by decide +kernel, by decide +kernel⟩
abbrev s_law : Stmt := topS 31
abbrev N_law : List Str := ["_law_script", "_law_dice_here", "_law_names_here", "_law_rows", "_law_paper", "_law_numbers", "_law_name", "_law_begin", "_law_laid", "_law_row", "_law_inner", "_law_placed", "_law_pair", "_law_k", "_law_item"]
theorem sc_law : FnScope N_law ["_law_script"] (defScope s_law) := ⟨rfl, rfl, rfl, by decide +kernel, rfl, by decide +kernel, by decide +kernel⟩
def DiceAt (H : Hp) (p c : Addr) : Prop := ∃ (cells : List Int) (pos pend seed cnt : Int), H p = some (.lst [.ref c, .int pos, .int pend, .int seed, .int cnt]) ∧ H c = some (.lst (cells.map V.int)) ∧
  0 ≤ pos ∧ (∀ x ∈ cells, 0 ≤ x) ∧ 0 ≤ pend ∧ 0 ≤ seed ∧ seed < 2147483648
theorem DiceAt.lst {H : Hp} {p c : Addr} (d : DiceAt H p c) : ∃ xs, H p = some (.lst xs) := let ⟨_, _, _, _, _, h, _⟩ := d; ⟨_, h⟩
theorem DiceAt.cel {H : Hp} {p c : Addr} (d : DiceAt H p c) : ∃ xs, H c = some (.lst xs) := let ⟨_, _, _, _, _, _, h, _⟩ := d; ⟨_, h⟩
/-- the dice stand when what they know stays -/
theorem DiceAt.keep {H H' : Hp} {p c : Addr} (d : DiceAt H p c) (s : Same H H') : DiceAt H' p c := by
  obtain ⟨cells, a, b, e, f, h1, h2, r⟩ := d
  exact ⟨cells, a, b, e, f, s _ _ h1, s _ _ h2, r⟩
/-- and when another thing is written -/
theorem DiceAt.mut {H : Hp} {p c l : Addr} {o : HO} (d : DiceAt H p c) (h1 : l ≠ p) (h2 : l ≠ c) : DiceAt (upd H l o) p c := by
  obtain ⟨cells, a, b, e, f, g1, g2, r⟩ := d
  exact ⟨cells, a, b, e, f, by rw [upd_ne h1.symm]; exact g1, by rw [upd_ne h2.symm]; exact g2, r⟩
theorem DiceAt.oth {H H' : Hp} {p c l : Addr} (d : DiceAt H p c) (h1 : l ≠ p) (h2 : l ≠ c) (e : ∀ b, b ≠ l → H' b = H b) : DiceAt H' p c := by
  obtain ⟨cells, a, b, k, f, g1, g2, r⟩ := d
  exact ⟨cells, a, b, k, f, by rw [e _ h1.symm]; exact g1, by rw [e _ h2.symm]; exact g2, r⟩
theorem DiceAt.new {H : Hp} {p c l : Addr} (d : DiceAt H p c) (n : H l = none) : l ≠ p ∧ l ≠ c := by
  obtain ⟨xs, h1⟩ := d.lst
  obtain ⟨ys, h2⟩ := d.cel
  exact ⟨fun e => (by rw [e, h1] at n; cases n), fun e => (by rw [e, h2] at n; cases n)⟩
def spDraw : Sp := fun vs H Q _ => ∃ (p c : Addr) (many : Int), vs = [.ref p, .int many] ∧ DiceAt H p c ∧ 1 ≤ many ∧ many ≤ 10 ^ 40 ∧
  ∀ (r : Int) (H' : Hp), 0 ≤ r → r < many → DiceAt H' p c → Fr p H H' → Q (.int r) H'
theorem use_draw {H : Hp} {p c : Addr} {many : Int} {Q : VK} {E : XK} (D : DiceAt H p c) (h1 : 1 ≤ many) (h2 : many ≤ 10 ^ 40) (q : ∀ (r : Int) (H' : Hp), 0 ≤ r → r < many → DiceAt H' p c → Fr p H H' → Q (.int r) H') : spDraw [.ref p, .int many] H Q E := ⟨p, c, many, rfl, D, h1, h2, q⟩
def spDice (K : PySem.W.Frag) : Sp := fun vs H Q _ => ∃ (a : Addr) (ns : List Int), vs = [.ref a] ∧ SqL K H a (ns.map V.int) ∧ ns.length ≤ 63 ∧
  ∀ (p c : Addr) (H' : Hp), H p = none → DiceAt H' p c → Same H H' → Q (.ref p) H'
theorem use_dice {K : PySem.W.Frag} {H : Hp} {a : Addr} {ns : List Int} {Q : VK} {E : XK} (h : SqL K H a (ns.map V.int)) (h1 : ns.length ≤ 63) (q : ∀ (p c : Addr) (H' : Hp), H p = none → DiceAt H' p c → Same H H' → Q (.ref p) H') : spDice K [.ref a] H Q E := ⟨a, ns, rfl, h, h1, q⟩
def spWord : Sp := fun vs H Q _ => ∃ (p c : Addr) (most : Int), vs = [.ref p, .int most] ∧ DiceAt H p c ∧ 1 ≤ most ∧ most ≤ 1000 ∧
  ∀ (z : Str) (H' : Hp), 1 ≤ z.length → (z.length : Int) ≤ most → Low z → DiceAt H' p c → Fr p H H' → Q (.str z) H'
theorem use_word {H : Hp} {p c : Addr} {most : Int} {Q : VK} {E : XK} (D : DiceAt H p c) (h1 : 1 ≤ most) (h2 : most ≤ 1000) (q : ∀ (z : Str) (H' : Hp), 1 ≤ z.length → (z.length : Int) ≤ most → Low z → DiceAt H' p c → Fr p H H' → Q (.str z) H') : spWord [.ref p, .int most] H Q E := ⟨p, c, most, rfl, D, h1, h2, q⟩
/-- names: one to eight small letters each, ascending, no two alike -/
def NamesOk (ys : List Str) : Prop := (∀ y ∈ ys, 1 ≤ y.length ∧ y.length ≤ 8 ∧ Low y) ∧ ys.Nodup ∧ sortedS ys = true
def spNames : Sp := fun vs H Q _ => ∃ (p c : Addr) (many : Int), vs = [.ref p, .int many] ∧ DiceAt H p c ∧ 1 ≤ many ∧ many ≤ 7 ∧
  ∀ (ys : List Str) (l : Addr) (H' : Hp), (ys.length : Int) = many → NamesOk ys → H l = none → H' l = some (.lst (ys.map V.str)) → DiceAt H' p c → Fr p H H' → Q (.ref l) H'
theorem use_names {H : Hp} {p c : Addr} {many : Int} {Q : VK} {E : XK} (D : DiceAt H p c) (h1 : 1 ≤ many) (h2 : many ≤ 7) (q : ∀ (ys : List Str) (l : Addr) (H' : Hp), (ys.length : Int) = many → NamesOk ys → H l = none → H' l = some (.lst (ys.map V.str)) → DiceAt H' p c → Fr p H H' → Q (.ref l) H') : spNames [.ref p, .int many] H Q E := ⟨p, c, many, rfl, D, h1, h2, q⟩
/-- a product of these names, of at most this degree -/
structure ProdOk (xs : List Str) (most : Int) (ps : Tab) : Prop where
  nm : ∀ q ∈ ps, q.1 ∈ xs ∧ 1 ≤ q.2
  nd : (ps.map (·.1)).Nodup
  so : sortedS (ps.map (·.1)) = true
  dg : (ps.map (·.2)).sum ≤ most
def spProduct (K : PySem.W.Frag) : Sp := fun vs H Q _ => ∃ (p c l : Addr) (xs : List Str) (most : Int), vs = [.ref p, .ref l, .int most] ∧ DiceAt H p c ∧ H l = some (.lst (xs.map V.str)) ∧ l ≠ p ∧ 1 ≤ xs.length ∧ xs.length ≤ 60 ∧ 0 ≤ most ∧ most ≤ 60 ∧
  ∀ (ps : Tab) (t : Addr) (H' : Hp), ProdOk xs most ps → H t = none → IsK K H' (prodK ps) (.ref t) → DiceAt H' p c → Fr p H H' → Q (.ref t) H'
theorem use_product {K : PySem.W.Frag} {H : Hp} {p c l : Addr} {xs : List Str} {most : Int} {Q : VK} {E : XK} (D : DiceAt H p c) (hl : H l = some (.lst (xs.map V.str))) (ne : l ≠ p) (h1 : 1 ≤ xs.length) (h2 : xs.length ≤ 60) (h3 : 0 ≤ most) (h4 : most ≤ 60)
    (q : ∀ (ps : Tab) (t : Addr) (H' : Hp), ProdOk xs most ps → H t = none → IsK K H' (prodK ps) (.ref t) → DiceAt H' p c → Fr p H H' → Q (.ref t) H') : spProduct K [.ref p, .ref l, .int most] H Q E := ⟨p, c, l, xs, most, rfl, D, hl, ne, h1, h2, h3, h4, q⟩
/-- things in another order; t a list or a tuple of them -/
def spOrderV (K : PySem.W.Frag) : Sp := fun vs H Q _ => ∃ (p c t : Addr) (xs : List V), vs = [.ref p, .ref t] ∧ DiceAt H p c ∧ (SqL K H t xs ∨ SqT K H t xs) ∧ t ≠ p ∧ xs.length ≤ 60 ∧
  ∀ (ys : List V) (l : Addr) (H' : Hp), ys.Perm xs → H l = none → H' l = some (.lst ys) → DiceAt H' p c → Fr p H H' → Q (.ref l) H'
/-- the names in another order; t a list or a tuple of them -/
def spOrder (K : PySem.W.Frag) : Sp := fun vs H Q _ => ∃ (p c t : Addr) (xs : List Str), vs = [.ref p, .ref t] ∧ DiceAt H p c ∧ (SqL K H t (xs.map V.str) ∨ SqT K H t (xs.map V.str)) ∧ t ≠ p ∧ xs.length ≤ 60 ∧
  ∀ (ys : List Str) (l : Addr) (H' : Hp), ys.Perm xs → H l = none → H' l = some (.lst (ys.map V.str)) → DiceAt H' p c → Fr p H H' → Q (.ref l) H'
/-- rows over these names -/
structure RowsOk (xs : List Str) (most top : Int) (R : List FRow) : Prop where
  le : (R.length : Int) ≤ most
  row : ∀ r ∈ R, r.nm ∈ xs ∧ 1 ≤ r.co ∧ r.co ≤ top ∧ ProdOk xs 2 r.ps
def spFlat (K : PySem.W.Frag) : Sp := fun vs H Q _ => ∃ (p c t : Addr) (xs : List Str) (most top : Int) (wild : Bool), vs = [.ref p, .ref t, .int most, .int top, .bl wild] ∧ DiceAt H p c ∧ (SqL K H t (xs.map V.str) ∨ SqT K H t (xs.map V.str)) ∧ t ≠ p ∧ 1 ≤ xs.length ∧ xs.length ≤ 20 ∧
  1 ≤ most ∧ most ≤ 20 ∧ 1 ≤ top ∧ top ≤ 20 ∧
  ∀ (R : List FRow) (u : Addr) (H' : Hp), RowsOk xs most top R → H u = none → IsK K H' (rowsK R) (.ref u) → DiceAt H' p c → Fr p H H' → Q (.ref u) H'
/-- rows as the law's trees want them -/
def RowsIn (R : List FRow) : Prop := R.length ≤ 20 ∧ ∀ r ∈ R, r.ps.length ≤ 20
/-- the closure, told by a dict of lists -/
def spGivers (K : PySem.W.Frag) : Sp := fun vs H Q _ => ∃ (nm fl : Addr) (xs : List Str) (R : List FRow), vs = [.ref nm, .ref fl] ∧ (SqL K H nm (xs.map V.str) ∨ SqT K H nm (xs.map V.str)) ∧ IsK K H (rowsK R) (.ref fl) ∧ RowsIn R ∧ RowsN xs R ∧ xs.Nodup ∧ xs.length ≤ 10 ∧
  ∀ (d : Addr) (ad : Str → Addr) (L : Str → List Str) (H' : Hp), DL H' d xs ad L → (∀ x ∈ xs, ∀ g, g ∈ L x ↔ TC R x g) → (∀ x ∈ xs, (L x).length ≤ 10) → Same H H' → Q (.ref d) H'
/-- the parts in their order -/
def spParts (K : PySem.W.Frag) : Sp := fun vs H Q _ => ∃ (nm fl : Addr) (xs : List Str) (R : List FRow), vs = [.ref nm, .ref fl] ∧ (SqL K H nm (xs.map V.str) ∨ SqT K H nm (xs.map V.str)) ∧ IsK K H (rowsK R) (.ref fl) ∧ RowsIn R ∧ RowsN xs R ∧ xs.Pairwise SLt ∧ (∀ x ∈ xs, Low x) ∧ xs.length ≤ 10 ∧
  ∀ (l : Addr) (L : PL) (H' : Hp), H l = none → H' l = some (.lst (refsP L)) → L.map (·.2) = ordL (TC R) (leftL (TC R) xs xs.length).length (leftL (TC R) xs xs.length) [] → PZ H' L → Same H H' → Q (.ref l) H'
/-- a row that hands on plainly within a part -/
def plainR (r : FRow) (p : List Str) : Bool := !r.add && (decide (r.co = 1) && (match r.ps with | [q] => decide (q.2 = 1) && decide (q.1 ∈ p) | _ => false))
/-- a row that raises a part -/
def raisR (p : List Str) (r : FRow) : Bool := decide (r.nm ∈ p) && !plainR r p
def dblB (R : List FRow) (p : List Str) : Bool := R.any fun r => raisR p r && r.ps.any fun q => decide (q.1 ∈ p)
def raisL (R : List FRow) (p : List Str) (n : Nat) : List Nat := (List.range n).filter fun i => match R[i]? with | some r => raisR p r | none => false
def spHands (K : PySem.W.Frag) : Sp := fun vs H Q _ => ∃ (a b : Addr) (r : FRow) (p : List Str), vs = [.ref a, .ref b] ∧ IsK K H (rowK r) (.ref a) ∧ SqT K H b (p.map V.str) ∧ Q (.bl (plainR r p)) H
def spRaising (K : PySem.W.Frag) : Sp := fun vs H Q _ => ∃ (b fl : Addr) (R : List FRow) (p : List Str), vs = [.ref b, .ref fl] ∧ IsK K H (rowsK R) (.ref fl) ∧ RowsIn R ∧ SqT K H b (p.map V.str) ∧
  ∀ (l : Addr) (H' : Hp), H' l = some (.lst ((raisL R p R.length).map fun i => V.int (i : Nat))) → Same H H' → Q (.ref l) H'
def spDoubles (K : PySem.W.Frag) : Sp := fun vs H Q _ => ∃ (b fl : Addr) (R : List FRow) (p : List Str), vs = [.ref b, .ref fl] ∧ IsK K H (rowsK R) (.ref fl) ∧ RowsIn R ∧ SqT K H b (p.map V.str) ∧ ∀ H', Same H H' → Q (.bl (dblB R p)) H'
/-- the parts that double -/
noncomputable def dblL (R : List FRow) (xs : List Str) : List (List Str) := (ordL (TC R) (leftL (TC R) xs xs.length).length (leftL (TC R) xs xs.length) []).filter (dblB R)
def spDoubling (K : PySem.W.Frag) : Sp := fun vs H Q _ => ∃ (nm fl : Addr) (xs : List Str) (R : List FRow), vs = [.ref nm, .ref fl] ∧ SqT K H nm (xs.map V.str) ∧ IsK K H (rowsK R) (.ref fl) ∧ RowsIn R ∧ RowsN xs R ∧ xs.Pairwise SLt ∧ (∀ x ∈ xs, Low x) ∧ xs.length ≤ 10 ∧
  ∀ (l : Addr) (L : PL) (H' : Hp), H' l = some (.lst (refsP L)) → L.map (·.2) = dblL R xs → PLs K H' L → Same H H' → Q (.ref l) H'
theorem word_lift (b : Bool) : decide (wordK b = (Str.ofString "lift")) = !b := by cases b <;> decide
theorem ordL_len (r : Str → Str → Prop) : ∀ (n : Nat) (w : List (List Str)) (pl : List Str), (ordL r n w pl).length = n
  | 0, _, _ => rfl
  | n + 1, w, pl => by rw [ordL, List.length_cons, ordL_len r n]
theorem raisL_succ {R : List FRow} (p : List Str) {i : Nat} (h : i < R.length) : raisL R p (i + 1) = raisL R p i ++ if raisR p R[i] = true then [i] else [] := by
  unfold raisL
  rw [List.range_succ, List.filter_append]
  congr 1
  rw [List.filter_cons, List.getElem?_eq_getElem h]
  rfl
theorem raisL_mem {R : List FRow} {p : List Str} {n k : Nat} (h : k ∈ raisL R p n) : ∃ r, R[k]? = some r ∧ raisR p r = true := by
  have := (List.mem_filter.mp h).2
  cases e : R[k]? with
  | none => rw [e] at this; cases this
  | some r => rw [e] at this; exact ⟨r, rfl, this⟩
theorem raisL_in {R : List FRow} {p : List Str} {n k : Nat} {r : FRow} (e : R[k]? = some r) (h : k < n) (z : raisR p r = true) : k ∈ raisL R p n :=
  List.mem_filter.mpr ⟨List.mem_range.mpr h, by rw [e]; exact z⟩
/-- what is given from a part that doubles -/
noncomputable def wildL (R : List FRow) (xs : List Str) : List Str := (dblL R xs).flatten
open Classical in
noncomputable def calmB (R : List FRow) (xs : List Str) (p : List Str) : Bool := decide (∀ g, TC R (hd p) g → g ∉ wildL R xs)
noncomputable def ordR (R : List FRow) (xs : List Str) : List (List Str) := ordL (TC R) (leftL (TC R) xs xs.length).length (leftL (TC R) xs xs.length) []
noncomputable def calmL (R : List FRow) (xs : List Str) : List (List Str) := (ordR R xs).filter (calmB R xs)
def spCalm (K : PySem.W.Frag) : Sp := fun vs H Q _ => ∃ (nm fl : Addr) (xs : List Str) (R : List FRow), vs = [.ref nm, .ref fl] ∧ SqT K H nm (xs.map V.str) ∧ IsK K H (rowsK R) (.ref fl) ∧ RowsIn R ∧ RowsN xs R ∧ xs.Pairwise SLt ∧ (∀ x ∈ xs, Low x) ∧ xs.length ≤ 10 ∧
  ∀ (l : Addr) (L : PL) (H' : Hp), H l = none → H' l = some (.lst (refsP L)) → L.map (·.2) = calmL R xs → PZ H' L → Same H H' → Q (.ref l) H'
/-- the letters of the packed sums -/
def Zs (xs : List Str) : List Str := "#" :: xs
def plT (Z : List Str) : Tab := Z.zipIdx.map fun q => (q.1, (64 * q.2 : Nat))
theorem plT_keys (Z : List Str) : (plT Z).map (·.1) = Z := by
  unfold plT
  rw [List.map_map]
  exact List.zipIdx_map_fst 0 Z
theorem plT_len (Z : List Str) : (plT Z).length = Z.length := by unfold plT; rw [List.length_map, List.length_zipIdx]
theorem plT_get {Z : List Str} {i : Nat} (h : i < Z.length) : (plT Z)[i]? = some (Z[i], ((64 * i : Nat) : Int)) := by
  unfold plT
  rw [List.getElem?_map, List.getElem?_zipIdx, List.getElem?_eq_getElem h]
  simp
def spPlaces (K : PySem.W.Frag) : Sp := fun vs H Q _ => ∃ (t : Addr) (xs : List Str), vs = [.ref t] ∧ SqT K H t (xs.map V.str) ∧ xs.length ≤ 10 ∧ (Zs xs).Nodup ∧
  ∀ (d : Addr) (H' : Hp), H' d = some (.dK (tabV (plT (Zs xs)))) → Same H H' → Q (.ref d) H'
def ones (n : Nat) : List Int := List.replicate n 1
theorem ones_pos (n : Nat) : ∀ v ∈ ones n, 1 ≤ v := fun v hv => by rw [(List.mem_replicate.mp hv).2]; decide
def spPlus (n : Nat) : Sp := fun vs H Q _ => ∃ (a b : Addr) (A B : Pl) (D : Nat), vs = [.ref a, .ref b] ∧ H a = some (.dK (plV A)) ∧ H b = some (.dK (plV B)) ∧ PolyOk n D A ∧ PolyOk n D B ∧ (D + 1) ^ n ≤ 100000 ∧
  ∀ (d : Addr) (m : Pl) (H' : Hp), H d = none → H' d = some (.dK (plV m)) → PolyOk n D m → (∀ us, evP n us m = evP n us A + evP n us B) → Same H H' → Q (.ref d) H'
def spTimes (n : Nat) : Sp := fun vs H Q _ => ∃ (a b : Addr) (A B : Pl) (D E : Nat), vs = [.ref a, .ref b] ∧ a ≠ b ∧ H a = some (.dK (plV A)) ∧ H b = some (.dK (plV B)) ∧ PolyOk n D A ∧ PolyOk n E B ∧ (D + E + 1) ^ n ≤ 100000 ∧ D + E ≤ 1000 ∧ (∀ q ∈ A, q.2 ≤ 10 ^ 14) ∧ (∀ q ∈ B, q.2 ≤ 10 ^ 14) ∧
  ∀ (d : Addr) (m : Pl) (H' : Hp), H d = none → H' d = some (.dK (plV m)) → PolyOk n (D + E) m → (∀ us, evP n us m = evP n us A * evP n us B) → Same H H' → Q (.ref d) H'
def spPut (K : PySem.W.Frag) (n : Nat) : Sp := fun vs H Q _ => ∃ (co : Int) (t d : Addr) (ps : Tab) (ks : List Str) (ad : Str → Addr) (A : Str → Pl) (D : Nat), vs = [.int co, .ref t, .ref d] ∧ IsK K H (prodK ps) (.ref t) ∧ H d = some (.dK (ks.map fun y => ((Sum.inr y : Key), V.ref (ad y)))) ∧ (∀ q ∈ ps, q.1 ∈ ks ∧ 0 ≤ q.2) ∧
  (∀ y ∈ ks, H (ad y) = some (.dK (plV (A y))) ∧ PolyOk n D (A y) ∧ evP n (ones n) (A y) ≤ 10 ^ 6) ∧ 1 ≤ co ∧ co ≤ 20 ∧ degP ps ≤ 2 ∧ ps.length ≤ 20 ∧ (D * 2 + 1) ^ n ≤ 100000 ∧ D ≤ 100 ∧
  ∀ (r : Addr) (m : Pl) (H' : Hp), H r = none → H' r = some (.dK (plV m)) → PolyOk n (D * 2) m → (∀ us, evP n us m = co * wprod (fun y => evP n us (A y)) ps) → Same H H' → Q (.ref r) H'
def spUnpacked (K : PySem.W.Frag) : Sp := fun vs H Q _ => ∃ (a b : Addr) (m : Pl) (Z : List Str) (D : Nat), vs = [.ref a, .ref b] ∧ H a = some (.dK (plV m)) ∧ H b = some (.dK (tabV (plT Z))) ∧ a ≠ b ∧ Z.Nodup ∧ Z.length ≤ 10 ∧ PolyOk Z.length D m ∧ (D + 1) ^ Z.length ≤ 100000 ∧ D ≤ 1000 ∧
  ∀ (t : Addr) (S : Sm) (H' : Hp), IsK K H' (sumK S) (.ref t) → Same H H' → S.length ≤ 100000 → (∀ q ∈ S, (∃ c, (c, q.1) ∈ m) ∧ (∀ p ∈ q.2, p.1 ∈ Z ∧ 1 ≤ p.2) ∧ degP q.2 ≤ D) → (∀ mm : Tab, worthS mm S = evP Z.length (Z.map fun z => (tget mm z).getD 0) m) → Q (.ref t) H'
theorem order_str {K : PySem.W.Frag} (vs : List V) (H : Hp) (Q : VK) (E : XK) (h : spOrder K vs H Q E) : spOrderV K vs H Q E := by
  obtain ⟨p, c, t, xs, rfl, D, ht, ne, le, q⟩ := h
  refine ⟨p, c, t, xs.map V.str, rfl, D, ht, ne, by rw [List.length_map]; exact le, fun ys l H' pm n1 h1 D1 f1 => ?_⟩
  obtain ⟨zs, rfl, pz⟩ := perm_map_inv pm rfl
  exact q zs l H' pz n1 h1 D1 f1
end K41
namespace K41
open PySem PySem.Spec PyProof.Rows L2 HH
/-! ### the parts in their order -/
theorem ord_facts {r : Str → Str → Prop} {xs : List Str} {W : List (List Str)} (A : AllParts r xs W) : ∀ (n : Nat) (w : List (List Str)) (pl : List Str), w.length = n → OI W w pl →
    (ordL r n w pl).Perm w ∧ ∀ (i : Nat) (p : List Str), (ordL r n w pl)[i]? = some p → ∀ g, r (hd p) g → g ∈ pl ∨ (∃ j q, j < i ∧ (ordL r n w pl)[j]? = some q ∧ g ∈ q) ∨ g ∈ p
  | 0, w, pl, hw, O => by
    rw [List.length_eq_zero_iff] at hw
    subst hw
    exact ⟨List.Perm.refl _, fun i p h => by simp [ordL] at h⟩
  | n + 1, w, pl, hw, O => by
    have ne : w ≠ [] := fun e => by rw [e] at hw; cases hw
    have h1 := ready_ne A O ne
    have h2 := least_mem h1
    generalize hl : least (w.filter (rdy r pl)) = l at h2
    obtain ⟨h3, h4⟩ := List.mem_filter.mp h2
    obtain ⟨i1, i2⟩ := ord_facts A n (w.erase l) (pl ++ l) (by rw [List.length_erase_of_mem h3, hw]; rfl) (O.next h3)
    have e : ordL r (n + 1) w pl = l :: ordL r n (w.erase l) (pl ++ l) := by rw [ordL, hl]
    rw [e]
    refine ⟨(i1.cons l).trans (List.perm_cons_erase h3).symm, fun i p hp g hg => ?_⟩
    cases i with
    | zero =>
      obtain rfl := Option.some.inj hp
      rcases rdy_iff.mp h4 g hg with z | z
      · exact .inl z
      · exact .inr (.inr z)
    | succ i =>
      rcases i2 i p hp g hg with z | ⟨j, q, hj, hq, hgq⟩ | z
      · rcases List.mem_append.mp z with y | y
        · exact .inl y
        · exact .inr (.inl ⟨0, l, by omega, rfl, y⟩)
      · exact .inr (.inl ⟨j + 1, q, by omega, hq, hgq⟩)
      · exact .inr (.inr z)
theorem filter_at {α : Type} (b : α → Bool) : ∀ (l : List α) (i : Nat) (p : α), (l.filter b)[i]? = some p → ∃ i', l[i']? = some p ∧ ∀ (j' : Nat) (q : α), j' < i' → l[j']? = some q → b q = true → ∃ j, j < i ∧ (l.filter b)[j]? = some q
  | [], i, p, h => by simp at h
  | a :: l, i, p, h => by
    by_cases c : b a = true
    · rw [List.filter_cons, if_pos c] at h
      rw [List.filter_cons, if_pos c]
      cases i with
      | zero => exact ⟨0, h, fun j' q hj => absurd hj (Nat.not_lt_zero _)⟩
      | succ i =>
        obtain ⟨i', e, k⟩ := filter_at b l i p h
        refine ⟨i' + 1, e, fun j' q hj hq bq => ?_⟩
        cases j' with
        | zero => exact ⟨0, by omega, hq⟩
        | succ j' =>
          obtain ⟨j, hj1, hj2⟩ := k j' q (by omega) hq bq
          exact ⟨j + 1, by omega, hj2⟩
    · rw [List.filter_cons, if_neg c] at h
      rw [List.filter_cons, if_neg c]
      obtain ⟨i', e, k⟩ := filter_at b l i p h
      refine ⟨i' + 1, e, fun j' q hj hq bq => ?_⟩
      cases j' with
      | zero =>
        obtain rfl := Option.some.inj hq
        exact absurd bq c
      | succ j' => exact k j' q (by omega) hq bq
section
variable {xs : List Str} {R : List FRow}
theorem allW (rn : RowsN xs R) : AllParts (TC R) xs (leftL (TC R) xs xs.length) := allParts (fun _ _ _ => TC.trans) fun _ _ h => TC.mem rn h
theorem ordR_perm (rn : RowsN xs R) : (ordR R xs).Perm (leftL (TC R) xs xs.length) := (ord_facts (allW rn) _ _ _ rfl ⟨fun _ h => h, (allW rn).nd, fun _ h => .inl h⟩).1
theorem ordR_rdy (rn : RowsN xs R) {i : Nat} {p : List Str} (h : (ordR R xs)[i]? = some p) {g : Str} (hg : TC R (hd p) g) : (∃ j q, j < i ∧ (ordR R xs)[j]? = some q ∧ g ∈ q) ∨ g ∈ p := by
  rcases (ord_facts (allW rn) _ _ _ rfl ⟨fun _ h => h, (allW rn).nd, fun _ h => .inl h⟩).2 i p h g hg with z | z | z
  · cases z
  · exact .inl z
  · exact .inr z
theorem ordR_is (rn : RowsN xs R) {p : List Str} (h : p ∈ ordR R xs) : ∃ x ∈ xs, p = partOf (TC R) xs x := (allW rn).is p ((ordR_perm rn).mem_iff.mp h)
theorem ordR_len (rn : RowsN xs R) : (ordR R xs).length ≤ xs.length := by rw [(ordR_perm rn).length_eq]; exact (allW rn).le
theorem part_le {r : Str → Str → Prop} {x : Str} : (partOf r xs x).length ≤ xs.length := List.length_filter_le _ _
theorem part_hd {r : Str → Str → Prop} {x : Str} (h : x ∈ xs) : hd (partOf r xs x) ∈ xs := (mem_part.mp (hd_mem (part_ne h))).1
/-- names of one part are given from the same -/
theorem part_tc (rn : RowsN xs R) {x a b g : Str} (ha : a ∈ partOf (TC R) xs x) (hb : b ∈ partOf (TC R) xs x) (h : TC R a g) : TC R b g := by
  obtain ⟨_, a2⟩ := mem_part.mp ha
  obtain ⟨_, b2⟩ := mem_part.mp hb
  rcases a2 with z | ⟨z1, z2⟩ <;> rcases b2 with y | ⟨y1, y2⟩
  · rw [y, ← z]; exact h
  · rw [z] at h; exact y2.trans h
  · rw [y]; exact z1.trans h
  · exact y2.trans (z1.trans h)
theorem part_same {r : Str → Str → Prop} {x y z : Str} (tr : ∀ a b c, r a b → r b c → r a c) (h1 : z ∈ partOf r xs x) (h2 : z ∈ partOf r xs y) : partOf r xs x = partOf r xs y := by
  obtain ⟨_, a⟩ := mem_part.mp h1
  obtain ⟨_, b⟩ := mem_part.mp h2
  unfold partOf
  refine List.filter_congr fun o _ => ?_
  refine decide_eq_decide.mpr ?_
  have xy : x = y ∨ (r x y ∧ r y x) := by
    rcases a with a | ⟨a1, a2⟩ <;> rcases b with b | ⟨b1, b2⟩
    · exact .inl (a.symm.trans b)
    · rw [a] at b1 b2; exact .inr ⟨b2, b1⟩
    · rw [b] at a1 a2; exact .inr ⟨a1, a2⟩
    · exact .inr ⟨tr _ _ _ a1 b2, tr _ _ _ b1 a2⟩
  rcases xy with e | ⟨e1, e2⟩
  · rw [e]
  · constructor
    · rintro (o1 | ⟨o1, o2⟩)
      · rw [o1]; exact .inr ⟨e2, e1⟩
      · exact .inr ⟨tr _ _ _ e2 o1, tr _ _ _ o2 e1⟩
    · rintro (o1 | ⟨o1, o2⟩)
      · rw [o1]; exact .inr ⟨e1, e2⟩
      · exact .inr ⟨tr _ _ _ e1 o1, tr _ _ _ o2 e2⟩
open Classical in
theorem calmB_iff {p : List Str} : calmB R xs p = true ↔ ∀ g, TC R (hd p) g → g ∉ wildL R xs := by
  unfold calmB
  rw [decide_eq_true_eq]
theorem calm_mem {p : List Str} (h : p ∈ calmL R xs) : p ∈ ordR R xs ∧ ∀ g, TC R (hd p) g → g ∉ wildL R xs := by
  obtain ⟨h1, h2⟩ := List.mem_filter.mp h
  exact ⟨h1, calmB_iff.mp h2⟩
theorem calm_len (rn : RowsN xs R) : (calmL R xs).length ≤ xs.length := Nat.le_trans (List.length_filter_le _ _) (ordR_len rn)
/-- the names of a raising row of a calm part stand in earlier calm parts -/
theorem calm_back (rn : RowsN xs R) {i : Nat} {p : List Str} (h : (calmL R xs)[i]? = some p) {r : FRow} (hr : r ∈ R) (rz : raisR p r = true) {q : Str × Int} (hq : q ∈ r.ps) : ∃ j p', j < i ∧ (calmL R xs)[j]? = some p' ∧ q.1 ∈ p' := by
  obtain ⟨i', e1, back⟩ := filter_at _ _ _ _ h
  have pm := List.mem_of_getElem? h
  obtain ⟨po, pc⟩ := calm_mem pm
  obtain ⟨x, hx, ep⟩ := ordR_is rn po
  have rnm : r.nm ∈ p := by
    unfold raisR at rz
    rw [Bool.and_eq_true, decide_eq_true_eq] at rz
    exact rz.1
  have ed : Edge R r.nm q.1 := ⟨r, hr, rfl, List.mem_map_of_mem hq⟩
  have hdp : hd p ∈ p := by rw [ep]; exact hd_mem (part_ne hx)
  have tg : TC R (hd p) q.1 := by
    rw [ep] at rnm hdp
    have := part_tc rn rnm hdp (Relation.TransGen.single ed)
    rw [ep]; exact this
  rcases ordR_rdy rn e1 tg with ⟨j', p', hj, hp', hg⟩ | z
  · have cp : calmB R xs p' = true := by
      refine calmB_iff.mpr fun g hg2 => pc g ?_
      obtain ⟨y, hy, ey⟩ := ordR_is rn (List.mem_of_getElem? hp')
      have hdp' : hd p' ∈ p' := by rw [ey]; exact hd_mem (part_ne hy)
      have : TC R q.1 g := by
        rw [ey] at hg hdp' hg2
        exact part_tc rn hdp' hg hg2
      exact tg.trans this
    obtain ⟨j, hj1, hj2⟩ := back j' p' hj hp' cp
    exact ⟨j, p', hj1, hj2, hg⟩
  · exfalso
    refine pc q.1 tg ?_
    refine List.mem_flatten.mpr ⟨p, List.mem_filter.mpr ⟨po, ?_⟩, z⟩
    refine List.any_eq_true.mpr ⟨r, hr, ?_⟩
    rw [rz, Bool.true_and]
    exact List.any_eq_true.mpr ⟨q, hq, decide_eq_true z⟩
/-- no name in two calm parts -/
theorem calm_apart (rn : RowsN xs R) {i j : Nat} {p q : List Str} (hi : (calmL R xs)[i]? = some p) (hj : (calmL R xs)[j]? = some q) {x : Str} (hp : x ∈ p) (hq : x ∈ q) : i = j := by
  obtain ⟨y, hy, ey⟩ := ordR_is rn (calm_mem (List.mem_of_getElem? hi)).1
  obtain ⟨z, hz, ez⟩ := ordR_is rn (calm_mem (List.mem_of_getElem? hj)).1
  have e : p = q := by
    rw [ey, ez]
    rw [ey] at hp
    rw [ez] at hq
    exact part_same (fun _ _ _ => TC.trans) hp hq
  have nd : (calmL R xs).Nodup := ((ordR_perm rn).nodup_iff.mpr (allW rn).nd).filter _
  obtain ⟨h1, e1⟩ := List.getElem?_eq_some_iff.mp hi
  obtain ⟨h2, e2⟩ := List.getElem?_eq_some_iff.mp hj
  rcases Nat.lt_trichotomy i j with c | c | c
  · exact absurd (e1.trans (e.trans e2.symm)) (List.pairwise_iff_getElem.mp nd i j h1 h2 c)
  · exact c
  · exact absurd (e2.trans (e.symm.trans e1.symm)) (List.pairwise_iff_getElem.mp nd j i h2 h1 c)
theorem calm_nodup (rn : RowsN xs R) (nx : xs.Nodup) : (calmL R xs).flatten.Nodup := by
  unfold List.Nodup
  rw [List.pairwise_flatten]
  refine ⟨fun p hp => ?_, ?_⟩
  · obtain ⟨x, _, e⟩ := ordR_is rn (calm_mem hp).1
    rw [e]
    exact nx.filter _
  · rw [List.pairwise_iff_getElem]
    intro i j hi hj hij
    intro a ha b hb ab
    have := calm_apart rn (List.getElem?_eq_getElem hi) (List.getElem?_eq_getElem hj) ha (by rw [ab]; exact hb)
    omega
theorem dbl_facts (rn : RowsN xs R) : (dblL R xs).length ≤ xs.length ∧ ∀ p ∈ dblL R xs, p.length ≤ xs.length := by
  refine ⟨Nat.le_trans (List.length_filter_le _ _) (ordR_len rn), fun p hp => ?_⟩
  obtain ⟨x, _, e⟩ := ordR_is rn (List.mem_filter.mp hp).1
  rw [e]
  exact part_le
end
end K41
namespace K41
open PySem PySem.Spec PyProof.Rows L2 HH
local macro_rules | `(tactic| walk_at "h1") => `(tactic| first
  | with_reducible refine rd_seq ?_ | with_reducible refine rd_asg ?_ | with_reducible refine rd_op ?_
  | ((with_reducible refine' rd_var ?hv ?_); (case hv => exact rfl)) | with_reducible refine rd_c ?_
  | ((with_reducible refine rd_name ?_); dsimp only [List.set_cons_zero, List.set_cons_succ])
  | with_reducible refine rd_I0 ?_ | ((with_reducible refine rd_pow ?_ ?_ ?_ ?_); (· decide); (· decide); (· decide)) | ((with_reducible refine rd_mod ?_ ?_); (· decide)) | ((with_reducible refine rd_mulR ?_ ?_ ?_); (· decide); (· decide)) | ((with_reducible refine rd_divW (n := 64) ?_ ?_ ?_ ?_ ?_); (· decide); (· decide); (· decide); (· decide)) | with_reducible refine rd_addI ?_ | with_reducible refine rd_eqI ?_ | with_reducible refine rd_eqS ?_ | with_reducible refine rd_eqB ?_ | with_reducible refine rd_ltI ?_
  | with_reducible refine rd_callS ?_ | with_reducible refine rd_xf ?_ | with_reducible refine rd_cons ?_ | with_reducible refine rd_nil ?_ | with_reducible refine rd_cb ?_ | with_reducible refine rd_call ?_
  | with_reducible refine rd_ifs ?_ | with_reducible refine rd_test ?_ | with_reducible refine rd_tB ?_ | with_reducible refine rd_blQ ?_ | with_reducible refine iteT ?_ | with_reducible refine iteF ?_ | with_reducible refine iteNotF ?_ | with_reducible refine iteNotT ?_
  | with_reducible refine rd_and ?_ | with_reducible refine rd_or ?_ | with_reducible refine rd_not ?_ | with_reducible refine rd_andV ?_ | with_reducible refine rd_orV ?_ | with_reducible refine rd_notV ?_ | with_reducible refine rd_if ?_
  | with_reducible refine rd_un ?_ | with_reducible refine rd_U ?_ | with_reducible refine rd_sub ?_ | with_reducible refine rd_tup ?_ | with_reducible refine rd_lst ?_
  | with_reducible refine rd_intI ?_ | with_reducible refine rd_absI ?_ | with_reducible refine rd_drop ?_ | with_reducible refine rd_ret ?_ | with_reducible refine rd_retN ?_ | with_reducible refine rd_next ?_ | with_reducible refine rd_bm ?_
  | with_reducible refine rd_tDGet2 ?_ | with_reducible refine rd_tDGet ?_ | with_reducible refine rd_sDPut ?_ | with_reducible refine rd_dnewK ?_ | with_reducible refine rd_nnew ?_ | with_reducible refine rd_nget ?_ | with_reducible refine rd_nget2 ?_ | with_reducible refine rd_npop ?_ | with_reducible refine rd_nput ?_ | with_reducible refine rd_dcn ?_ | with_reducible refine rd_gtup ?_ | with_reducible refine rd_gcons ?_ | with_reducible refine rd_gnil ?_ | with_reducible refine rd_lc ?_ | with_reducible refine rd_yes ?_ | with_reducible refine rd_for ?_ | with_reducible refine rd_iL ?_ | with_reducible refine rd_neS ?_ | with_reducible refine rd_neN ?_ | with_reducible refine rd_neB ?_ | with_reducible refine rd_chain ?_ | with_reducible refine rd_bm0 ?_ | with_reducible refine rd_dc ?_ | with_reducible refine rd_iN ?_ | with_reducible refine rd_iZ ?_ | with_reducible refine rd_ngetF ?_ | with_reducible refine rd_iT ?_ | with_reducible refine rd_iR1 ?_ | with_reducible refine rd_iS ?_ | with_reducible refine rd_leafS ?_ | with_reducible refine rd_sl ?_ | with_reducible refine rd_noPart ?_ | with_reducible refine rd_part ?_ | with_reducible refine rd_leafI ?_)
local macro_rules | `(tactic| walk_at "h") => `(tactic| repeat walk_at "h1")

section
variable {P : Program} {w : World} {K : PySem.W.Frag} {mg : Str → Option Value} {base : Heap}
theorem ok_draw {f : Addr} {fd : FuncData} (F : Fun K "_law_draw" "_law_draw" s_l_draw f fd) (T : Bi mg) : FnOk P w K mg base CX0 1 f fd ["_law_dice_here", "_law_many"] spDraw := by
  refine F.ok sc_l_draw (fun vs H Q E h => ?_) (fun cdv A outer s H vs Q E hr h => ?_)
  · obtain ⟨p, c, many, rfl, _⟩ := h
    rfl
  · obtain ⟨p, c, many, rfl, D, h1, hb, q⟩ := h
    obtain ⟨cells, pos, pend, seed, cnt, hp, hc, g1, g2, g3, g4, g5⟩ := D
    have hu := hu_of hr
    have hu20 := hu20_of hr
    have hu40 := hu40_of hr
    have hb2 : many.natAbs < 2 ^ 200 := by
      have : (10 : Int) ^ 40 < 2 ^ 200 := by decide
      omega
    have hcp : c ≠ p := fun e => by rw [e, hp] at hc; cases cells <;> simp at hc
    refine ⟨_, (C8.pss_cut (ps_if (PW.pt (pw_and (pt_cmpR (op_eqU (K := K) hu40) (pe_ix (ix_listK (K := K)) (pv 0) pe_int (fun _ _ => rfl)) pe_int (nomark _)) (pw_and1 (pt_cmpR (op_ltU (K := K) hu40) (pe_ix (ix_listK (K := K)) (pv 0) pe_int (fun _ _ => rfl)) (pe_callB (call_lenU (P := P) (w := w) (K := K)) (by rfl) T.len_ PySem.boot_len (pa_cons (pe_ix (ix_listK (K := K)) (pv 0) pe_int (fun _ _ => rfl)) pa_nil)) (nomark _))))) (pss_cons (ps_set (i := 2) sc_l_draw.nd rfl (.inl rfl) (pe_ix (ix_listK (K := K)) (pe_ix (ix_listK (K := K)) (pv 0) pe_int (fun _ _ => rfl)) (pe_ix (ix_listK (K := K)) (pv 0) pe_int (fun _ _ => rfl)) (fun _ _ => rfl)))
  (pss_cons (ps_asg (pe_op (op_addU (K := K)) (pe_ix (ix_listK (K := K)) (pv 0) pe_int (fun _ _ => rfl)) pe_int) (pg_sub (pv 0) pe_int set_list))
  (pss_one (ps_if (pt_cmpR op_ge (pv 2) (pe_op op_pow pe_int pe_int) (nomark _)) (pss_one (ps_asg (pv 2) (pg_sub (pv 0) pe_int set_list))) (pss_one (ps_asg (pe_op op_modN (pe_callTy call_intC (by rfl) T.int_ (by decide +kernel) (pa_cons (pe_op (op_addU (K := K)) (pe_op (op_addU (K := K)) (pe_op op_mul (pe_ix (ix_listK (K := K)) (pv 0) pe_int (fun _ _ => rfl)) pe_int) (pe_op op_mul (pv 2) pe_int)) (pe_ix (ix_listK (K := K)) (pv 0) pe_int (fun _ _ => rfl))) pa_nil)) pe_int) (pg_sub (pv 0) pe_int set_list))))))) pss_nil)
  (pss_cons (ps_if (pt_cmpR op_gt (pe_ix (ix_listK (K := K)) (pv 0) pe_int (fun _ _ => rfl)) pe_int (nomark _)) (pss_cons (ps_set (i := 3) sc_l_draw.nd rfl (.inl rfl) (pe_op op_modN (pe_callTy call_intC (by rfl) T.int_ (by decide +kernel) (pa_cons (pe_ix (ix_listK (K := K)) (pv 0) pe_int (fun _ _ => rfl)) pa_nil)) (pv 1)))
  (pss_cons (ps_asg (pe_op op_fdivW (pe_ix (ix_listK (K := K)) (pv 0) pe_int (fun _ _ => rfl)) (pv 1)) (pg_sub (pv 0) pe_int set_list))
  (pss_one (ps_ret (pv 3))))) pss_nil)
  (pss_cons (ps_asg (pe_op (op_addU (K := K)) (pe_ix (ix_listK (K := K)) (pv 0) pe_int (fun _ _ => rfl)) pe_int) (pg_sub (pv 0) pe_int set_list))
  (pss_cons (ps_asg (pe_op op_modN (pe_callTy call_intC (by rfl) T.int_ (by decide +kernel) (pa_cons (pe_op (op_addU (K := K)) (pe_op (op_addU (K := K)) (pe_op op_mul (pe_ix (ix_listK (K := K)) (pv 0) pe_int (fun _ _ => rfl)) pe_int) (pe_op op_mul (pe_ix (ix_listK (K := K)) (pv 0) pe_int (fun _ _ => rfl)) pe_int)) pe_int) pa_nil)) pe_int) (pg_sub (pv 0) pe_int set_list))
  (pss_cons (ps_set (i := 4) sc_l_draw.nd rfl (.inl rfl) (pe_op op_modN (pe_callTy call_intC (by rfl) T.int_ (by decide +kernel) (pa_cons (pe_op op_mul (pe_ix (ix_listK (K := K)) (pv 0) pe_int (fun _ _ => rfl)) (pe_op (op_addU (K := K)) (pe_op op_fdivW (pe_ix (ix_listK (K := K)) (pv 0) pe_int (fun _ _ => rfl)) pe_int) pe_int)) pa_nil)) pe_int))
  (pss_cons (ps_set (i := 4) sc_l_draw.nd rfl (.inl rfl) (pe_op op_modN (pe_callTy call_intC (by rfl) T.int_ (by decide +kernel) (pa_cons (pe_op op_mul (pv 4) (pe_op (op_addU (K := K)) (pe_op op_fdivW (pv 4) pe_int) pe_int)) pa_nil)) pe_int))
  (pss_one (ps_ret (pe_op op_modN (pe_callTy call_intC (by rfl) T.int_ (by decide +kernel) (pa_cons (pe_op op_fdivW (pv 4) pe_int) pa_nil)) (pv 1)))))))))), ?_⟩
    rw [show L2.start N_l_draw [V.ref p, V.int many] = [some (V.ref p), some (V.int many), none, none, none] from rfl]
    (try dsimp only [cxOf, Cx.nox, Cx.wish])
    walk_at "h"
    refine rd_cut (fun σ' H' => ∃ (v2 : Option V) (pos pend seed : Int), σ' = [some (V.ref p), some (V.int many), v2, none, none] ∧ H' p = some (.lst [.ref c, .int pos, .int pend, .int seed, .int cnt]) ∧ (∀ b, b ≠ p → H' b = H b) ∧ 0 ≤ pos ∧ 0 ≤ pend ∧ 0 ≤ seed ∧ seed < 2147483648) ?_ ?_
    · walk_at "h"
      refine rd_ixl (sql hp) rfl ?_
      walk_at "h"
      refine ite2 (fun e1 => ?_) (fun e1 => ?_)
      · walk_at "h"
        refine rd_ixl (sql hp) rfl ?_
        walk_at "h"
        refine rd_ixl (sql hp) rfl ?_
        walk_at "h"
        refine rd_lenL (sql hc) ?_
        walk_at "h"
        refine ite2 (fun e2 => ?_) (fun e2 => ?_)
        · have e3 : pos < cells.length := by simpa using e2
          have e4 : pos.toNat < cells.length := by omega
          have ex : atI (cells.map V.int) pos = some (.int cells[pos.toNat]) := by
            have := atI_nat (xs := cells.map V.int) (j := pos.toNat) (v := .int cells[pos.toNat]) (by rw [List.getElem?_map, List.getElem?_eq_getElem e4]; rfl)
            rwa [Int.toNat_of_nonneg g1] at this
          have c0 : 0 ≤ cells[pos.toNat] := g2 _ (List.getElem_mem e4)
          generalize cells[pos.toNat] = x at ex c0
          walk_at "h"
          refine rd_ixl (sql hp) rfl ?_
          walk_at "h"
          refine rd_ixl (sql hp) rfl ?_
          walk_at "h"
          refine rd_ixl (sql hc) ex ?_
          walk_at "h"
          refine rd_ixl (sql hp) rfl ?_
          walk_at "h"
          refine rd_setl' hp rfl fun H1 hp1 f1 => ?_
          walk_at "h"
          refine ite2 (fun e5 => ?_) (fun e5 => ?_)
          · walk_at "h"
            refine rd_setl' hp1 rfl fun H2 hp2 f2 => ?_
            walk_at "h"
            exact ⟨_, _, _, _, rfl, hp2, fun b hb => (f2 b hb).trans (f1 b hb), by omega, c0, g4, g5⟩
          · walk_at "h"
            refine rd_ixl (sql hp1) rfl ?_
            walk_at "h"
            refine rd_ixl (sql hp1) rfl ?_
            walk_at "h"
            refine rd_setl' hp1 rfl fun H2 hp2 f2 => ?_
            walk_at "h"
            exact ⟨_, _, _, _, rfl, hp2, fun b hb => (f2 b hb).trans (f1 b hb), by omega, g3, Int.fmod_nonneg_of_pos (b := 2147483647) _ (by decide), Int.lt_trans (Int.fmod_lt_of_pos (b := 2147483647) _ (by decide)) (by decide)⟩
        · walk_at "h"
          exact ⟨_, _, _, _, rfl, hp, fun b hb => rfl, g1, g3, g4, g5⟩
      · walk_at "h"
        exact ⟨_, _, _, _, rfl, hp, fun b hb => rfl, g1, g3, g4, g5⟩
    · rintro σ' H' ⟨v2, pos, pend, seed, rfl, hp', f', g1, g3, g4, g5⟩
      have hc' : H' c = some (.lst (cells.map V.int)) := by rw [f' c hcp]; exact hc
      have hH : Fr p H H' := fun b o hb e => by rw [f' b hb]; exact e
      clear hp hc f'
      walk_at "h"
      refine rd_ixl (sql hp') rfl ?_
      walk_at "h"
      refine ite2 (fun e1 => ?_) (fun e1 => ?_)
      · have e2 : 0 < pend := of_decide_eq_true e1
        walk_at "h"
        refine rd_ixl (sql hp') rfl ?_
        walk_at "h"
        refine rd_mod (by omega) ?_
        walk_at "h"
        refine rd_ixl (sql hp') rfl ?_
        walk_at "h"
        refine rd_divW (n := 200) (by omega) hb2 (by decide) (by decide) ?_
        walk_at "h"
        refine rd_setl' hp' rfl fun H1 hp1 f1 => ?_
        walk_at "h"
        exact q _ _ (Int.fmod_nonneg_of_pos _ (by omega)) (Int.fmod_lt_of_pos _ (by omega)) ⟨cells, _, _, _, _, hp1, by rw [f1 c hcp]; exact hc', g1, g2, Int.ediv_nonneg g3 (by omega), g4, g5⟩ (hH.trans fun b o hb' e => by rw [f1 b hb']; exact e)
      · walk_at "h"
        refine rd_ixl (sql hp') rfl ?_
        walk_at "h"
        refine rd_setl' hp' rfl fun H1 hp1 f1 => ?_
        walk_at "h"
        refine rd_ixl (sql hp1) rfl ?_
        walk_at "h"
        refine rd_ixl (sql hp1) rfl ?_
        walk_at "h"
        refine rd_setl' hp1 rfl fun H2 hp2 f2 => ?_
        walk_at "h"
        refine rd_ixl (sql hp2) rfl ?_
        walk_at "h"
        refine rd_ixl (sql hp2) rfl ?_
        walk_at "h"
        have s0 := Int.fmod_nonneg_of_pos (b := 2147483647) (seed * 48271 + (cnt + 1) * 7919 + 1) (by decide)
        have s1 := Int.fmod_lt_of_pos (b := 2147483647) (seed * 48271 + (cnt + 1) * 7919 + 1) (by decide)
        refine rd_mulL (by omega) (by omega) ?_
        walk_at "h"
        generalize (seed * 48271 + (cnt + 1) * 7919 + 1).fmod 2147483647 = z at s0 s1 hp2 ⊢
        have s2 := Int.fmod_nonneg_of_pos (b := 2147483399) (z * (z / 1009 + 69623)) (by decide)
        have s3 := Int.fmod_lt_of_pos (b := 2147483399) (z * (z / 1009 + 69623)) (by decide)
        refine rd_mulL (by omega) (by omega) ?_
        walk_at "h"
        refine rd_mod (by omega) ?_
        walk_at "h"
        exact q _ _ (Int.fmod_nonneg_of_pos _ (by omega)) (Int.fmod_lt_of_pos _ (by omega)) ⟨cells, _, _, _, _, hp2, by rw [f2 c hcp, f1 c hcp]; exact hc', g1, g2, g3, s0, by omega⟩ (hH.trans fun b o hb' e => by rw [f2 b hb', f1 b hb']; exact e)
end
end K41
namespace K41
open PySem PySem.Spec PyProof.Rows L2 HH
local macro_rules | `(tactic| walk_at "h1") => `(tactic| first
  | with_reducible refine rd_seq ?_ | with_reducible refine rd_asg ?_ | with_reducible refine rd_op ?_
  | ((with_reducible refine' rd_var ?hv ?_); (case hv => exact rfl)) | with_reducible refine rd_c ?_
  | ((with_reducible refine rd_name ?_); dsimp only [List.set_cons_zero, List.set_cons_succ])
  | with_reducible refine rd_I0 ?_ | ((with_reducible refine rd_pow ?_ ?_ ?_ ?_); (· decide); (· decide); (· decide)) | ((with_reducible refine rd_mod ?_ ?_); (· decide)) | ((with_reducible refine rd_mulR ?_ ?_ ?_); (· decide); (· decide)) | ((with_reducible refine rd_divW (n := 64) ?_ ?_ ?_ ?_ ?_); (· decide); (· decide); (· decide); (· decide)) | with_reducible refine rd_addI ?_ | with_reducible refine rd_eqI ?_ | with_reducible refine rd_eqS ?_ | with_reducible refine rd_eqB ?_ | with_reducible refine rd_ltI ?_
  | with_reducible refine rd_callS ?_ | with_reducible refine rd_xf ?_ | with_reducible refine rd_cons ?_ | with_reducible refine rd_nil ?_ | with_reducible refine rd_cb ?_ | with_reducible refine rd_call ?_
  | with_reducible refine rd_ifs ?_ | with_reducible refine rd_test ?_ | with_reducible refine rd_tB ?_ | with_reducible refine rd_blQ ?_ | with_reducible refine iteT ?_ | with_reducible refine iteF ?_ | with_reducible refine iteNotF ?_ | with_reducible refine iteNotT ?_
  | with_reducible refine rd_and ?_ | with_reducible refine rd_or ?_ | with_reducible refine rd_not ?_ | with_reducible refine rd_andV ?_ | with_reducible refine rd_orV ?_ | with_reducible refine rd_notV ?_ | with_reducible refine rd_if ?_
  | with_reducible refine rd_un ?_ | with_reducible refine rd_U ?_ | with_reducible refine rd_sub ?_ | with_reducible refine rd_tup ?_ | with_reducible refine rd_lst ?_
  | with_reducible refine rd_intI ?_ | with_reducible refine rd_absI ?_ | with_reducible refine rd_drop ?_ | with_reducible refine rd_ret ?_ | with_reducible refine rd_retN ?_ | with_reducible refine rd_next ?_ | with_reducible refine rd_bm ?_
  | with_reducible refine rd_tDGet2 ?_ | with_reducible refine rd_tDGet ?_ | with_reducible refine rd_sDPut ?_ | with_reducible refine rd_dnewK ?_ | with_reducible refine rd_nnew ?_ | with_reducible refine rd_nget ?_ | with_reducible refine rd_nget2 ?_ | with_reducible refine rd_npop ?_ | with_reducible refine rd_nput ?_ | with_reducible refine rd_dcn ?_ | with_reducible refine rd_gtup ?_ | with_reducible refine rd_gcons ?_ | with_reducible refine rd_gnil ?_ | with_reducible refine rd_lc ?_ | with_reducible refine rd_yes ?_ | with_reducible refine rd_for ?_ | with_reducible refine rd_iL ?_ | with_reducible refine rd_neS ?_ | with_reducible refine rd_neN ?_ | with_reducible refine rd_neB ?_ | with_reducible refine rd_chain ?_ | with_reducible refine rd_bm0 ?_ | with_reducible refine rd_dc ?_ | with_reducible refine rd_iN ?_ | with_reducible refine rd_iZ ?_ | with_reducible refine rd_ngetF ?_ | with_reducible refine rd_iT ?_ | with_reducible refine rd_iR1 ?_ | with_reducible refine rd_iS ?_ | with_reducible refine rd_leafS ?_ | with_reducible refine rd_sl ?_ | with_reducible refine rd_noPart ?_ | with_reducible refine rd_part ?_ | with_reducible refine rd_leafI ?_)
local macro_rules | `(tactic| walk_at "h") => `(tactic| repeat walk_at "h1")

section
variable {P : Program} {w : World} {K : PySem.W.Frag} {mg : Str → Option Value} {base : Heap}
theorem ok_dice {f : Addr} {fd : FuncData} (F : Fun K "_law_dice" "_law_dice" s_l_dice f fd) (T : Bi mg) : FnOk P w K mg base CX0 1 f fd ["_law_script"] (spDice K) := by
  refine F.ok sc_l_dice (fun vs H Q E h => ?_) (fun cdv A outer s H vs Q E hr h => ?_)
  · obtain ⟨p, many, rfl, _⟩ := h
    rfl
  · obtain ⟨a, ns, rfl, ha, hl, q⟩ := h
    refine ⟨_, (pss_one (ps_ret (pe_lst (pa_cons (pe_lc (own := [("_law_cell", 1)]) rfl sc_l_dice.nd (pi_list (pe_slice (sl_listK (K := K)) (pv 0) po_none (po_some pe_int))) (blkOk_by (N := N_l_dice) (sc := defScope s_l_dice) (by decide +kernel)) (fun _ _ _ _ _ => (pg_name (i := 1) sc_l_dice.nd rfl (.inl rfl))) (fun _ _ _ _ _ => pts_nil) (fun _ _ _ _ _ => (pe_callB call_absC (by rfl) T.abs_ (by decide +kernel) (pa_cons (pe_callTy call_intC (by rfl) T.int_ (by decide +kernel) (pa_cons (pv 1) pa_nil)) pa_nil)))) (pa_cons pe_int (pa_cons pe_int (pa_cons pe_int (pa_cons pe_int pa_nil)))))))), ?_⟩
    rw [show L2.start N_l_dice [V.ref a] = [some (V.ref a), none] from rfl]
    (try dsimp only [cxOf, Cx.nox, Cx.wish])
    walk_at "h"
    refine rd_slL ha fun c0 n0 => ?_
    obtain ⟨ms, em, lm, _⟩ := cut_map V.int ns none (some 63)
    rw [em]
    generalize hH1 : upd H c0 (.lst (ms.map V.int)) = H1
    have s1 : Same H H1 := by rw [← hH1]; exact same_new n0
    have h1 : H1 c0 = some (.lst (ms.map V.int)) := by rw [← hH1]; exact upd_same
    refine rd_leafL (sql h1) fun D nD => ?_
    have ncD : c0 ≠ D := ne_of_none h1 nD
    refine lc_listW (xs := ms.map V.int) [some (V.ref a), none] rfl (fun i H2 => Same H1 H2 ∧ H2 D = some (.lst (((ms.take i).map fun x => if x < 0 then -x else x).map V.int))) ⟨same_new nD, by simp [upd_same]⟩ (fun i H2 _ h => sql (h.1 _ _ h1)) ?_ ?_
    · rintro i x H2 hx ⟨s2, h2⟩
      have hi : i < ms.length := by
        have := (List.getElem?_eq_some_iff.mp hx).1
        simpa using this
      obtain rfl : x = V.int ms[i] := by
        rw [List.getElem?_map, List.getElem?_eq_getElem hi] at hx
        exact (Option.some.inj hx).symm
      walk_at "h"
      refine ⟨rfl, ?_⟩
      walk_at "h"
      refine ⟨_, h2, ?_, same_mut s2 nD, ?_⟩
      · simp only [List.length_map, List.length_take]; exact sz_lt (by omega)
      · rw [upd_same, List.take_add_one, List.getElem?_eq_getElem hi, List.map_append, List.map_append]
        rfl
    · rintro H2 ⟨s2, h2⟩
      walk_at "h"
      refine ⟨sz_le (by simp only [List.length_cons, List.length_nil]; omega), fun p np => ?_⟩
      rw [List.length_map, List.take_length] at h2
      refine q p D _ (s1.free (s2.free np)) ⟨_, 0, 0, 1, 0, upd_same, by rw [upd_ne (ne_of_none h2 np)]; exact h2, by decide, ?_, by decide, by decide, by decide⟩ (s1.trans (s2.trans (same_new np)))
      intro x hx
      obtain ⟨y, _, rfl⟩ := List.mem_map.mp hx
      split <;> omega
end
end K41
namespace K41
open PySem PySem.Spec PyProof.Rows L2 HH
local macro_rules | `(tactic| walk_at "h1") => `(tactic| first
  | with_reducible refine rd_seq ?_ | with_reducible refine rd_asg ?_ | with_reducible refine rd_op ?_
  | ((with_reducible refine' rd_var ?hv ?_); (case hv => exact rfl)) | with_reducible refine rd_c ?_
  | ((with_reducible refine rd_name ?_); dsimp only [List.set_cons_zero, List.set_cons_succ])
  | with_reducible refine rd_I0 ?_ | ((with_reducible refine rd_pow ?_ ?_ ?_ ?_); (· decide); (· decide); (· decide)) | ((with_reducible refine rd_mod ?_ ?_); (· decide)) | ((with_reducible refine rd_mulR ?_ ?_ ?_); (· decide); (· decide)) | ((with_reducible refine rd_divW (n := 64) ?_ ?_ ?_ ?_ ?_); (· decide); (· decide); (· decide); (· decide)) | with_reducible refine rd_addI ?_ | with_reducible refine rd_eqI ?_ | with_reducible refine rd_eqS ?_ | with_reducible refine rd_eqB ?_ | with_reducible refine rd_ltI ?_
  | with_reducible refine rd_callS ?_ | with_reducible refine rd_xf ?_ | with_reducible refine rd_cons ?_ | with_reducible refine rd_nil ?_ | with_reducible refine rd_cb ?_ | with_reducible refine rd_call ?_
  | with_reducible refine rd_ifs ?_ | with_reducible refine rd_test ?_ | with_reducible refine rd_tB ?_ | with_reducible refine rd_blQ ?_ | with_reducible refine iteT ?_ | with_reducible refine iteF ?_ | with_reducible refine iteNotF ?_ | with_reducible refine iteNotT ?_
  | with_reducible refine rd_and ?_ | with_reducible refine rd_or ?_ | with_reducible refine rd_not ?_ | with_reducible refine rd_andV ?_ | with_reducible refine rd_orV ?_ | with_reducible refine rd_notV ?_ | with_reducible refine rd_if ?_
  | with_reducible refine rd_un ?_ | with_reducible refine rd_U ?_ | with_reducible refine rd_sub ?_ | with_reducible refine rd_tup ?_ | with_reducible refine rd_lst ?_
  | with_reducible refine rd_intI ?_ | with_reducible refine rd_absI ?_ | with_reducible refine rd_drop ?_ | with_reducible refine rd_ret ?_ | with_reducible refine rd_retN ?_ | with_reducible refine rd_next ?_ | with_reducible refine rd_bm ?_
  | with_reducible refine rd_tDGet2 ?_ | with_reducible refine rd_tDGet ?_ | with_reducible refine rd_sDPut ?_ | with_reducible refine rd_dnewK ?_ | with_reducible refine rd_nnew ?_ | with_reducible refine rd_nget ?_ | with_reducible refine rd_nget2 ?_ | with_reducible refine rd_npop ?_ | with_reducible refine rd_nput ?_ | with_reducible refine rd_dcn ?_ | with_reducible refine rd_gtup ?_ | with_reducible refine rd_gcons ?_ | with_reducible refine rd_gnil ?_ | with_reducible refine rd_lc ?_ | with_reducible refine rd_yes ?_ | with_reducible refine rd_for ?_ | with_reducible refine rd_iL ?_ | with_reducible refine rd_neS ?_ | with_reducible refine rd_neN ?_ | with_reducible refine rd_neB ?_ | with_reducible refine rd_chain ?_ | with_reducible refine rd_bm0 ?_ | with_reducible refine rd_dc ?_ | with_reducible refine rd_iN ?_ | with_reducible refine rd_iZ ?_ | with_reducible refine rd_ngetF ?_ | with_reducible refine rd_iT ?_ | with_reducible refine rd_iR1 ?_ | with_reducible refine rd_iS ?_ | with_reducible refine rd_leafS ?_ | with_reducible refine rd_sl ?_ | with_reducible refine rd_noPart ?_ | with_reducible refine rd_part ?_ | with_reducible refine rd_leafI ?_)
local macro_rules | `(tactic| walk_at "h") => `(tactic| repeat walk_at "h1")

section
variable {P : Program} {w : World} {K : PySem.W.Frag} {mg : Str → Option Value} {base : Heap}
theorem ok_word {f : Addr} {fd : FuncData} (F : Fun K "_law_word" "_law_word" s_l_word f fd) (T : Bi mg) (G_l_draw : Callee P w K mg base 1 "_law_draw" ["_law_dice_here", "_law_many"] spDraw) : FnOk P w K mg base CX0 2 f fd ["_law_dice_here", "_law_most"] spWord := by
  refine F.ok sc_l_word (fun vs H Q E h => ?_) (fun cdv A outer s H vs Q E hr h => ?_)
  · obtain ⟨p, c, many, rfl, _⟩ := h
    rfl
  · obtain ⟨p, c, most, rfl, D, h1, h2, q⟩ := h
    have hu := hu_of hr
    have hu20 := hu20_of hr
    have hu40 := hu40_of hr
    obtain ⟨f_l_draw, fd_l_draw, F_l_draw, m_l_draw, k_l_draw, b_l_draw⟩ := G_l_draw
    refine ⟨_, (pss_cons (ps_set (i := 2) sc_l_word.nd rfl (.inl rfl) pe_str)
  (pss_cons (ps_set (i := 3) sc_l_word.nd rfl (.inl rfl) pe_str)
  (pss_cons (ps_for PassesOwn.never rfl (pi_range1 (by rfl) T.range (pa_cons (pe_op (op_addU (K := K)) pe_int (pe_call F_l_draw (hr.mono (by decide)) (by rfl) m_l_draw k_l_draw b_l_draw .nil pass0 (pa_cons (pv 0) (pa_cons (pv 1) pa_nil)))) pa_nil)) (pg_name (i := 4) sc_l_word.nd rfl (.inl rfl))
    (pss_one (ps_set (i := 3) sc_l_word.nd rfl (.inl rfl) (pe_op (op_addU (K := K)) (pv 3) (pe_ix ix_str (pv 2) (pe_call F_l_draw (hr.mono (by decide)) (by rfl) m_l_draw k_l_draw b_l_draw .nil pass0 (pa_cons (pv 0) (pa_cons pe_int pa_nil))) (fun _ _ => rfl))))))
  (pss_one (ps_ret (pv 3)))))), ?_⟩
    rw [show L2.start N_l_word [V.ref p, V.int most] = [some (V.ref p), some (V.int most), none, none, none] from rfl]
    (try dsimp only [cxOf, Cx.nox, Cx.wish])
    walk_at "h"
    refine use_draw D h1 (by omega) fun r H1 r0 r1 D1 f1 => ?_
    walk_at "h"
    refine rd_leafR (by omega) (by omega) ?_
    refine for_range (fun i σ H' => ∃ (z : Str) (v4 : Option V), σ = [some (V.ref p), some (V.int most), some (V.str "abcdefghijklmnopqrstuvwxyz"), some (V.str z), v4] ∧ z.length = i ∧ Low z ∧ DiceAt H' p c ∧ Fr p H H') ⟨"", none, rfl, rfl, fun c hc => (by cases hc), D1, f1⟩ ?_ ?_
    · rintro i σ H2 hi ⟨z, v4, rfl, hz, lz, D2, f2⟩
      walk_at "h"
      refine use_draw D2 (by decide) (by decide) fun r2 H3 s0 s1 D3 f3 => ?_
      walk_at "h"
      refine rd_ixs (sz_le (by decide)) (letters_at s0 s1) ?_
      refine rd_addS (sz_le ?_) ?_
      · show z.length + 1 ≤ _
        omega
      walk_at "h"
      exact ⟨_, _, rfl, by rw [Str.length_append, hz]; rfl, lz.app (Low.one (by omega) (by omega)), D3, f2.trans f3⟩
    · rintro σ H2 ⟨z, v4, rfl, hz, lz, D2, f2⟩
      walk_at "h"
      exact q z H2 (by omega) (by omega) lz D2 f2
end
end K41
namespace K41
open PySem PySem.Spec PyProof.Rows L2 HH
local macro_rules | `(tactic| walk_at "h1") => `(tactic| first
  | with_reducible refine rd_seq ?_ | with_reducible refine rd_asg ?_ | with_reducible refine rd_op ?_
  | ((with_reducible refine' rd_var ?hv ?_); (case hv => exact rfl)) | with_reducible refine rd_c ?_
  | ((with_reducible refine rd_name ?_); dsimp only [List.set_cons_zero, List.set_cons_succ])
  | with_reducible refine rd_I0 ?_ | ((with_reducible refine rd_pow ?_ ?_ ?_ ?_); (· decide); (· decide); (· decide)) | ((with_reducible refine rd_mod ?_ ?_); (· decide)) | ((with_reducible refine rd_mulR ?_ ?_ ?_); (· decide); (· decide)) | ((with_reducible refine rd_divW (n := 64) ?_ ?_ ?_ ?_ ?_); (· decide); (· decide); (· decide); (· decide)) | with_reducible refine rd_addI ?_ | with_reducible refine rd_eqI ?_ | with_reducible refine rd_eqS ?_ | with_reducible refine rd_eqB ?_ | with_reducible refine rd_ltI ?_
  | with_reducible refine rd_callS ?_ | with_reducible refine rd_xf ?_ | with_reducible refine rd_cons ?_ | with_reducible refine rd_nil ?_ | with_reducible refine rd_cb ?_ | with_reducible refine rd_call ?_
  | with_reducible refine rd_ifs ?_ | with_reducible refine rd_test ?_ | with_reducible refine rd_tB ?_ | with_reducible refine rd_blQ ?_ | with_reducible refine iteT ?_ | with_reducible refine iteF ?_ | with_reducible refine iteNotF ?_ | with_reducible refine iteNotT ?_
  | with_reducible refine rd_and ?_ | with_reducible refine rd_or ?_ | with_reducible refine rd_not ?_ | with_reducible refine rd_andV ?_ | with_reducible refine rd_orV ?_ | with_reducible refine rd_notV ?_ | with_reducible refine rd_if ?_
  | with_reducible refine rd_un ?_ | with_reducible refine rd_U ?_ | with_reducible refine rd_sub ?_ | with_reducible refine rd_tup ?_ | with_reducible refine rd_lst ?_
  | with_reducible refine rd_intI ?_ | with_reducible refine rd_absI ?_ | with_reducible refine rd_drop ?_ | with_reducible refine rd_ret ?_ | with_reducible refine rd_retN ?_ | with_reducible refine rd_next ?_ | with_reducible refine rd_bm ?_
  | with_reducible refine rd_tDGet2 ?_ | with_reducible refine rd_tDGet ?_ | with_reducible refine rd_sDPut ?_ | with_reducible refine rd_dnewK ?_ | with_reducible refine rd_nnew ?_ | with_reducible refine rd_nget ?_ | with_reducible refine rd_nget2 ?_ | with_reducible refine rd_npop ?_ | with_reducible refine rd_nput ?_ | with_reducible refine rd_dcn ?_ | with_reducible refine rd_gtup ?_ | with_reducible refine rd_gcons ?_ | with_reducible refine rd_gnil ?_ | with_reducible refine rd_lc ?_ | with_reducible refine rd_yes ?_ | with_reducible refine rd_for ?_ | with_reducible refine rd_iL ?_ | with_reducible refine rd_neS ?_ | with_reducible refine rd_neN ?_ | with_reducible refine rd_neB ?_ | with_reducible refine rd_chain ?_ | with_reducible refine rd_bm0 ?_ | with_reducible refine rd_dc ?_ | with_reducible refine rd_iN ?_ | with_reducible refine rd_iZ ?_ | with_reducible refine rd_ngetF ?_ | with_reducible refine rd_iT ?_ | with_reducible refine rd_iR1 ?_ | with_reducible refine rd_iS ?_ | with_reducible refine rd_leafS ?_ | with_reducible refine rd_sl ?_ | with_reducible refine rd_noPart ?_ | with_reducible refine rd_part ?_ | with_reducible refine rd_leafI ?_)
local macro_rules | `(tactic| walk_at "h") => `(tactic| repeat walk_at "h1")

section
variable {P : Program} {w : World} {K : PySem.W.Frag} {mg : Str → Option Value} {base : Heap}
/-- a word that stands among the names after so many signs has met so many of them -/
def Met (N : List Str) (i : Nat) (z : Str) : Prop := z ∉ N ∨ ∃ S : List Str, S.Nodup ∧ S.length = i ∧ (∀ x ∈ S, x ∈ N) ∧ ∀ x ∈ S, ∃ c, (cds x).getLast? = some c ∧ c < 97 + i
theorem Met.start (N : List Str) (z : Str) : Met N 0 z := .inr ⟨[], List.nodup_nil, rfl, (by simp), (by simp)⟩
theorem Met.stay {N : List Str} {i : Nat} {z : Str} (h : z ∉ N) : Met N (i + 1) z := .inl h
theorem Met.next {N : List Str} {i : Nat} {z z' : Str} (h : Met N i z) (hz : z ∈ N) (e : (cds z').getLast? = some (97 + i)) : Met N (i + 1) z' := by
  rcases h with h | ⟨S, nd, l, s, c⟩
  · exact absurd hz h
  · by_cases hm : z' ∈ N
    · refine .inr ⟨z' :: S, List.nodup_cons.mpr ⟨fun m => ?_, nd⟩, by rw [List.length_cons, l], fun x hx => ?_, fun x hx => ?_⟩
      · obtain ⟨d, e1, e2⟩ := c _ m
        rw [e] at e1
        have := Option.some.inj e1
        omega
      · rcases List.mem_cons.mp hx with r | r
        · rw [r]; exact hm
        · exact s x r
      · rcases List.mem_cons.mp hx with r | r
        · rw [r]; exact ⟨_, e, by omega⟩
        · obtain ⟨d, e1, e2⟩ := c x r
          exact ⟨d, e1, by omega⟩
    · exact .inl hm
theorem Met.done {N : List Str} {z : Str} (h : Met N 8 z) (hN : N.length < 8) : z ∉ N := by
  rcases h with h | ⟨S, nd, l, s, _⟩
  · exact h
  · have := List.Nodup.length_le_of_subset nd s
    omega
theorem sign_at {i c : Nat} (h : ("abcdefgh" : Str).cps[i]? = some c) : c = 97 + i ∧ i < 8 := by
  rw [← Array.getElem?_toList, show ("abcdefgh" : Str).cps.toList = List.range' 97 8 by decide +kernel] at h
  have hi : i < 8 := by
    have := (List.getElem?_eq_some_iff.mp h).1
    simpa using this
  rw [List.getElem?_range' hi] at h
  have := Option.some.inj h
  omega
theorem ok_names {f : Addr} {fd : FuncData} (F : Fun K "_law_names" "_law_names" s_l_names f fd) (T : Bi mg) (G_l_draw : Callee P w K mg base 1 "_law_draw" ["_law_dice_here", "_law_many"] spDraw) (G_l_word : Callee P w K mg base 2 "_law_word" ["_law_dice_here", "_law_most"] spWord) :
    FnOk P w K mg base CX0 3 f fd ["_law_dice_here", "_law_many"] spNames := by
  refine F.ok sc_l_names (fun vs H Q E h => ?_) (fun cdv A outer s H vs Q E hr h => ?_)
  · obtain ⟨p, c, many, rfl, _⟩ := h
    rfl
  · obtain ⟨p, c, many, rfl, D, h1, h2, q⟩ := h
    have hu := hu_of hr
    have hu20 := hu20_of hr
    have hu40 := hu40_of hr
    obtain ⟨f_l_draw, fd_l_draw, F_l_draw, m_l_draw, k_l_draw, b_l_draw⟩ := G_l_draw; obtain ⟨f_l_word, fd_l_word, F_l_word, m_l_word, k_l_word, b_l_word⟩ := G_l_word
    refine ⟨_, (pss_cons (ps_set (i := 2) sc_l_names.nd rfl (.inl rfl) (pe_call F_l_draw (hr.mono (by decide)) (by rfl) m_l_draw k_l_draw b_l_draw .nil pass0 (pa_cons (pv 0) (pa_cons pe_int pa_nil))))
  (pss_cons (ps_set (i := 3) sc_l_names.nd rfl (.inl rfl) (pe_call F_l_word (hr.mono (by decide)) (by rfl) m_l_word k_l_word b_l_word .nil pass0 (pa_cons (pv 0) (pa_cons pe_int pa_nil))))
  (pss_cons (ps_set (i := 4) sc_l_names.nd rfl (.inl rfl) (pe_lst pa_nil))
  (pss_cons (ps_for PassesOwn.never rfl (pi_range1 (by rfl) T.range (pa_cons (pv 1) pa_nil)) (pg_name (i := 5) sc_l_names.nd rfl (.inl rfl))
    (pss_cons (ps_set (i := 6) sc_l_names.nd rfl (.inl rfl) (pe_call F_l_word (hr.mono (by decide)) (by rfl) m_l_word k_l_word b_l_word .nil pass0 (pa_cons (pv 0) (pa_cons pe_int pa_nil))))
  (C8.pss_cut (ps_if (pt_cmpR (op_eqU (K := K) hu40) (pv 2) pe_int (nomark _)) (pss_cons (ps_set (i := 7) sc_l_names.nd rfl (.inl rfl) (pe_call F_l_draw (hr.mono (by decide)) (by rfl) m_l_draw k_l_draw b_l_draw .nil pass0 (pa_cons (pv 0) (pa_cons (pe_callB (call_lenU (P := P) (w := w) (K := K)) (by rfl) T.len_ PySem.boot_len (pa_cons (pv 3) pa_nil)) pa_nil))))
  (pss_one (ps_set (i := 6) sc_l_names.nd rfl (.inl rfl) (pe_op (op_addU (K := K)) (pe_op (op_addU (K := K)) (pe_slice sl_str (pv 3) po_none (po_some (pv 7))) (pe_ix ix_str (pv 6) pe_int (fun _ _ => rfl))) (pe_slice sl_str (pv 3) (po_some (pe_op (op_addU (K := K)) (pv 7) pe_int)) po_none))))) pss_nil)
  (pss_cons (ps_for PassesOwn.never rfl (pi_str pe_str) (pg_name (i := 8) sc_l_names.nd rfl (.inl rfl))
    (pss_one (ps_if (pt_cmpR (op_inU (P := P) (w := w) (K := K) hu20) (pv 6) (pv 4) (by rfl)) (pss_one (ps_set (i := 6) sc_l_names.nd rfl (.inl rfl) (pe_op (op_addU (K := K)) (pe_slice sl_str (pv 6) po_none (po_some pe_int)) (pv 8)))) pss_nil)))
  (pss_one (ps_expr (pe_bm PySem.F.plainAttrs_list PySem.F.slot_list_append PySem.F.type_list_append mt_append (pv 4) (pa_cons (pv 6) pa_nil))))))))
  (pss_one (ps_ret (pe_callB (cr_sortedSK (K := K)) (by rfl) T.sorted_ (by decide +kernel) (pa_cons (pv 4) pa_nil)))))))), ?_⟩
    rw [show L2.start N_l_names [V.ref p, V.int many] = [some (V.ref p), some (V.int many), none, none, none, none, none, none, none] from rfl]
    (try dsimp only [cxOf, Cx.nox, Cx.wish])
    walk_at "h"
    refine use_draw D (by decide) (by decide) fun al H1 a0 a1 D1 f1 => ?_
    walk_at "h"
    refine use_word D1 (by decide) (by decide) fun bs H2 b0 b1 lb D2 f2 => ?_
    walk_at "h"
    refine ⟨Nat.zero_le _, fun l nl => ?_⟩
    obtain ⟨npl, ncl⟩ := D2.new nl
    generalize hH3 : upd H2 l (.lst []) = H3
    have s3 : Same H2 H3 := by rw [← hH3]; exact same_new nl
    have h3 : H3 l = some (.lst (([] : List Str).map V.str)) := by rw [← hH3]; exact upd_same
    walk_at "h"
    refine rd_leafR (by omega) (by omega) ?_
    have f3 : Fr p H H3 := f1.trans (f2.trans (Fr.of s3))
    have nl0 : H l = none := (f1.trans f2).back npl nl
    refine for_range (fun i σ H' => ∃ (N : List Str) (v5 v6 v7 v8 : Option V), σ = [some (V.ref p), some (V.int many), some (V.int al), some (V.str bs), some (V.ref l), v5, v6, v7, v8] ∧ N.length = i ∧ (∀ y ∈ N, 1 ≤ y.length ∧ y.length ≤ 8 ∧ Low y) ∧ N.Nodup ∧ H' l = some (.lst (N.map V.str)) ∧ DiceAt H' p c ∧ Fr p H H')
      ⟨[], none, none, none, none, rfl, rfl, (by simp), List.nodup_nil, h3, D2.keep s3, f3⟩ ?_ ?_
    · rintro i σ H4 hi ⟨N, v5, v6, v7, v8, rfl, lN, oN, nN, hl, D4, f4⟩
      walk_at "h"
      refine use_word D4 (by decide) (by decide) fun wd H5 w0 w1 lw D5 f5 => ?_
      walk_at "h"
      refine rd_cut (fun σ' H' => ∃ (wd : Str) (v7 : Option V), σ' = [some (V.ref p), some (V.int many), some (V.int al), some (V.str bs), some (V.ref l), some (V.int (0 + i)), some (V.str wd), v7, v8] ∧ 1 ≤ wd.length ∧ wd.length ≤ 8 ∧ Low wd ∧ DiceAt H' p c ∧ Fr p H4 H') ?_ ?_
      · walk_at "h"
        refine ite2 (fun e1 => ?_) (fun e1 => ?_)
        · walk_at "h"
          refine rd_lenS (sz_le (by omega)) ?_
          walk_at "h"
          refine use_draw D5 (by omega) (by omega) fun k H6 k0 k1 D6 f6 => ?_
          walk_at "h"
          refine rd_slS (sz_le (by omega)) ?_
          walk_at "h"
          have wn : 0 < (cds wd).length := by rw [← len_cds]; omega
          obtain ⟨c0, hc0⟩ : ∃ c0, (cds wd)[0]? = some c0 := ⟨_, List.getElem?_eq_getElem wn⟩
          refine rd_ixs (sz_le (by omega)) (atI_nat (j := 0) hc0) ?_
          have lc : 97 ≤ c0 ∧ c0 ≤ 122 := lw c0 (List.mem_of_getElem? hc0)
          have lb1 : (cds (cutS bs none (some k))).length = k.toNat := by
            rw [cds_upto _ k0, List.length_take, ← len_cds]; omega
          have lb2 : (cds (cutS bs (some (k + 1)) none)).length = bs.length - (k.toNat + 1) := by
            rw [cds_from _ (by omega), List.length_drop, ← len_cds]
            congr 1
            omega
          refine rd_addS (sz_le ?_) ?_
          · rw [len_cds, len_cds, lb1, cds_one]; simp only [List.length_cons, List.length_nil]; omega
          walk_at "h"
          refine rd_slS (sz_le (by omega)) ?_
          refine rd_addS (sz_le ?_) ?_
          · rw [len_cds, len_cds, cds_app, List.length_append, lb1, lb2, cds_one]; simp only [List.length_cons, List.length_nil]; omega
          walk_at "h"
          refine ⟨_, _, rfl, ?_, ?_, ((lb.cut _ _).app (Low.one lc.1 lc.2)).app (lb.cut _ _), D6, f5.trans f6⟩
          · rw [len_cds, cds_app, cds_app, List.length_append, List.length_append, lb1, lb2, cds_one]; simp only [List.length_cons, List.length_nil]; omega
          · rw [len_cds, cds_app, cds_app, List.length_append, List.length_append, lb1, lb2, cds_one]; simp only [List.length_cons, List.length_nil]; omega
        · walk_at "h"
          exact ⟨wd, v7, rfl, w0, by omega, lw, D5, f5⟩
      · rintro σ' H6 ⟨wd, v7, rfl, w0, w1, lw, D6, f6⟩
        have hl6 : H6 l = some (.lst (N.map V.str)) := f6 _ _ npl hl
        walk_at "h"
        refine for_it walk_str (fun j σ H' => ∃ (z : Str) (v8 : Option V), σ = [some (V.ref p), some (V.int many), some (V.int al), some (V.str bs), some (V.ref l), some (V.int (0 + i)), some (V.str z), v7, v8] ∧ 1 ≤ z.length ∧ z.length ≤ 8 ∧ Low z ∧ Met N j z ∧ H' = H6)
          ⟨wd, v8, rfl, w0, w1, lw, Met.start N wd, rfl⟩ (fun _ _ _ _ _ => True.intro) ?_ ?_
        · rintro j x σ H7 H8 hj ⟨z, v8, rfl, z0, z1, lz, mz, rfl⟩ ⟨rfl, c, hc, rfl⟩
          obtain ⟨rfl, hj8⟩ := sign_at hc
          walk_at "h"
          refine rd_inS (sql hl6) ?_
          walk_at "h"
          refine ite2 (fun e1 => ?_) (fun e1 => ?_)
          · have zN : z ∈ N := of_decide_eq_true e1
            walk_at "h"
            refine rd_slS (sz_le (by omega)) ?_
            have l7 : (cds (cutS z none (some 7))).length ≤ 7 := by
              rw [cds_upto _ (by decide), List.length_take]; exact Nat.min_le_left _ _
            walk_at "h"
            refine rd_addS (sz_le ?_) ?_
            · rw [len_cds, len_cds, cds_one]; simp only [List.length_cons, List.length_nil]; omega
            walk_at "h"
            have le : (cutS z none (some 7) ++ (⟨#[97 + j]⟩ : Str)).length = (cds (cutS z none (some 7))).length + 1 := by
              rw [len_cds, cds_app, List.length_append, cds_one]; rfl
            exact ⟨_, _, rfl, by omega, by omega, (lz.cut _ _).app (Low.one (by omega) (by omega)), mz.next zN (by rw [cds_app, cds_one]; simp), rfl⟩
          · have zN : z ∉ N := of_decide_eq_false (by simpa using e1)
            walk_at "h"
            exact ⟨_, _, rfl, z0, z1, lz, .inl zN, rfl⟩
        · rintro σ H7 ⟨z, v8, rfl, z0, z1, lz, mz, rfl⟩
          have zN : z ∉ N := Met.done (by rw [show ("abcdefgh" : Str).cps.size = 8 by decide +kernel] at mz; exact mz) (by omega)
          walk_at "h"
          refine ⟨.inl ⟨rfl, _, sql hl6⟩, ?_⟩
          walk_at "h"
          refine rd_app hl6 (by rw [List.length_map]; exact sz_lt (by omega)) ?_
          walk_at "h"
          refine ⟨N ++ [z], _, _, _, _, rfl, by rw [List.length_append, lN]; rfl, fun y hy => ?_, List.nodup_append.mpr ⟨nN, List.nodup_cons.mpr ⟨List.not_mem_nil, List.nodup_nil⟩, fun a ha b hb e => ?_⟩, by rw [upd_same, List.map_append]; rfl, ?_, ?_⟩
          · rcases List.mem_append.mp hy with r | r
            · exact oN y r
            · rw [List.mem_singleton.mp r]; exact ⟨z0, z1, lz⟩
          · rw [List.mem_singleton.mp hb] at e
            rw [e] at ha
            exact zN ha
          · exact D6.mut npl ncl
          · exact (f4.trans f6).mut nl0
    · rintro σ H4 ⟨N, v5, v6, v7, v8, rfl, lN, oN, nN, hl, D4, f4⟩
      walk_at "h"
      refine rd_sortS (sql hl) (by omega) fun ys m pm so nm => ?_
      have npm := (D4.new nm).1
      exact q ys m _ (by rw [pm.length_eq]; omega) ⟨fun y hy => oN y (pm.mem_iff.mp hy), pm.nodup_iff.mpr nN, so⟩ (f4.back npm nm) upd_same (D4.keep (same_new nm)) (f4.trans (Fr.new nm))
end
end K41
namespace K41
open PySem PySem.Spec PyProof.Rows L2 HH
local macro_rules | `(tactic| walk_at "h1") => `(tactic| first
  | with_reducible refine rd_seq ?_ | with_reducible refine rd_asg ?_ | with_reducible refine rd_op ?_
  | ((with_reducible refine' rd_var ?hv ?_); (case hv => exact rfl)) | with_reducible refine rd_c ?_
  | ((with_reducible refine rd_name ?_); dsimp only [List.set_cons_zero, List.set_cons_succ])
  | with_reducible refine rd_I0 ?_ | ((with_reducible refine rd_pow ?_ ?_ ?_ ?_); (· decide); (· decide); (· decide)) | ((with_reducible refine rd_mod ?_ ?_); (· decide)) | ((with_reducible refine rd_mulR ?_ ?_ ?_); (· decide); (· decide)) | ((with_reducible refine rd_divW (n := 64) ?_ ?_ ?_ ?_ ?_); (· decide); (· decide); (· decide); (· decide)) | with_reducible refine rd_addI ?_ | with_reducible refine rd_eqI ?_ | with_reducible refine rd_eqS ?_ | with_reducible refine rd_eqB ?_ | with_reducible refine rd_ltI ?_
  | with_reducible refine rd_callS ?_ | with_reducible refine rd_xf ?_ | with_reducible refine rd_cons ?_ | with_reducible refine rd_nil ?_ | with_reducible refine rd_cb ?_ | with_reducible refine rd_call ?_
  | with_reducible refine rd_ifs ?_ | with_reducible refine rd_test ?_ | with_reducible refine rd_tB ?_ | with_reducible refine rd_blQ ?_ | with_reducible refine iteT ?_ | with_reducible refine iteF ?_ | with_reducible refine iteNotF ?_ | with_reducible refine iteNotT ?_
  | with_reducible refine rd_and ?_ | with_reducible refine rd_or ?_ | with_reducible refine rd_not ?_ | with_reducible refine rd_andV ?_ | with_reducible refine rd_orV ?_ | with_reducible refine rd_notV ?_ | with_reducible refine rd_if ?_
  | with_reducible refine rd_un ?_ | with_reducible refine rd_U ?_ | with_reducible refine rd_sub ?_ | with_reducible refine rd_tup ?_ | with_reducible refine rd_lst ?_
  | with_reducible refine rd_intI ?_ | with_reducible refine rd_absI ?_ | with_reducible refine rd_drop ?_ | with_reducible refine rd_ret ?_ | with_reducible refine rd_retN ?_ | with_reducible refine rd_next ?_ | with_reducible refine rd_bm ?_
  | with_reducible refine rd_tDGet2 ?_ | with_reducible refine rd_tDGet ?_ | with_reducible refine rd_sDPut ?_ | with_reducible refine rd_dnewK ?_ | with_reducible refine rd_nnew ?_ | with_reducible refine rd_nget ?_ | with_reducible refine rd_nget2 ?_ | with_reducible refine rd_npop ?_ | with_reducible refine rd_nput ?_ | with_reducible refine rd_dcn ?_ | with_reducible refine rd_gtup ?_ | with_reducible refine rd_gcons ?_ | with_reducible refine rd_gnil ?_ | with_reducible refine rd_lc ?_ | with_reducible refine rd_yes ?_ | with_reducible refine rd_for ?_ | with_reducible refine rd_iL ?_ | with_reducible refine rd_neS ?_ | with_reducible refine rd_neN ?_ | with_reducible refine rd_neB ?_ | with_reducible refine rd_chain ?_ | with_reducible refine rd_bm0 ?_ | with_reducible refine rd_dc ?_ | with_reducible refine rd_iN ?_ | with_reducible refine rd_iZ ?_ | with_reducible refine rd_ngetF ?_ | with_reducible refine rd_iT ?_ | with_reducible refine rd_iR1 ?_ | with_reducible refine rd_iS ?_ | with_reducible refine rd_leafS ?_ | with_reducible refine rd_sl ?_ | with_reducible refine rd_noPart ?_ | with_reducible refine rd_part ?_ | with_reducible refine rd_leafI ?_)
local macro_rules | `(tactic| walk_at "h") => `(tactic| repeat walk_at "h1")

section
variable {P : Program} {w : World} {K : PySem.W.Frag} {mg : Str → Option Value} {base : Heap}
theorem ok_product {f : Addr} {fd : FuncData} (F : Fun K "_law_product" "_law_product" s_l_product f fd) (T : Bi mg) (G_l_draw : Callee P w K mg base 1 "_law_draw" ["_law_dice_here", "_law_many"] spDraw) :
    FnOk P w K mg base CX0 2 f fd ["_law_dice_here", "_law_names_here", "_law_most"] (spProduct K) := by
  refine F.ok sc_l_product (fun vs H Q E h => ?_) (fun cdv A outer s H vs Q E hr h => ?_)
  · obtain ⟨p, c, l, xs, most, rfl, _⟩ := h
    rfl
  · obtain ⟨p, c, l, xs, most, rfl, D, hl, npl, x1, x2, m0, m1, q⟩ := h
    have hu := hu_of hr
    have hu20 := hu20_of hr
    have hu40 := hu40_of hr
    obtain ⟨f_l_draw, fd_l_draw, F_l_draw, m_l_draw, k_l_draw, b_l_draw⟩ := G_l_draw
    refine ⟨_, (pss_cons (ps_set (i := 3) sc_l_product.nd rfl (.inr rfl) pe_dnewK)
  (pss_cons (ps_for PassesOwn.never rfl (pi_range1 (by rfl) T.range (pa_cons (pe_call F_l_draw (hr.mono (by decide)) (by rfl) m_l_draw k_l_draw b_l_draw .nil pass0 (pa_cons (pv 0) (pa_cons (pe_op (op_addU (K := K)) (pv 2) pe_int) pa_nil))) pa_nil)) (pg_name (i := 4) sc_l_product.nd rfl (.inl rfl))
    (pss_cons (ps_set (i := 5) sc_l_product.nd rfl (.inl rfl) (pe_ix (ix_listK (K := K)) (pv 1) (pe_call F_l_draw (hr.mono (by decide)) (by rfl) m_l_draw k_l_draw b_l_draw .nil pass0 (pa_cons (pv 0) (pa_cons (pe_callB (call_lenU (P := P) (w := w) (K := K)) (by rfl) T.len_ PySem.boot_len (pa_cons (pv 1) pa_nil)) pa_nil))) (fun _ _ => rfl)))
  (pss_one (ps_dput hu (pv 3) (pv 5) (pe_op (op_addU (K := K)) (pe_dget2 hu (pv 3) (pv 5) pe_int ⟨rfl, rfl, rfl, rfl⟩) pe_int) rfl))))
  (pss_one (ps_ret (pe_callTy (call_tupC (K := K)) (by rfl) T.tuple_ (by decide +kernel) (pa_cons (pe_lc (own := [("_law_name", 5)]) rfl sc_l_product.nd (pi_list (pe_callB (cr_sortD rfl) (by rfl) T.sorted_ (by decide +kernel) (pa_cons (pv 3) pa_nil))) (blkOk_by (N := N_l_product) (sc := defScope s_l_product) (by decide +kernel)) (fun _ _ _ _ _ => (pg_name (i := 5) sc_l_product.nd rfl (.inl rfl))) (fun _ _ _ _ _ => pts_nil) (fun _ _ _ _ _ => (pe_tup (pa_cons (pv 5) (pa_cons (pe_dget hu (pv 3) (pv 5) (fun _ _ => rfl)) pa_nil))))) pa_nil)))))), ?_⟩
    rw [show L2.start N_l_product [V.ref p, V.ref l, V.int most] = [some (V.ref p), some (V.ref l), some (V.int most), none, none, none] from rfl]
    (try dsimp only [cxOf, Cx.nox, Cx.wish])
    walk_at "h"
    intro d nd
    obtain ⟨dp, dc⟩ := D.new nd
    have ndl : l ≠ d := ne_of_none hl nd
    generalize hH1 : upd H d (.dK []) = H1
    have s1 : Same H H1 := by rw [← hH1]; exact same_new nd
    have hd : H1 d = some (.dK (tabV [])) := by rw [← hH1]; exact upd_same
    walk_at "h"
    refine use_draw (D.keep s1) (by omega) (by omega) fun r H2 r0 r1 D2 f2 => ?_
    walk_at "h"
    refine rd_leafR (by omega) (by omega) ?_
    refine for_range (fun i σ H' => ∃ (m : Tab) (v4 v5 : Option V), σ = [some (V.ref p), some (V.ref l), some (V.int most), some (V.ref d), v4, v5] ∧ (∀ q ∈ m, q.1 ∈ xs ∧ 1 ≤ q.2) ∧ (m.map (·.1)).Nodup ∧ (m.map (·.2)).sum = i ∧ m.length ≤ i ∧ H' d = some (.dK (tabV m)) ∧ DiceAt H' p c ∧ Fr p H H')
      ⟨[], none, none, rfl, by simp, List.nodup_nil, rfl, Nat.le_refl _, f2 _ _ dp hd, D2, (Fr.of s1).trans f2⟩ ?_ ?_
    · rintro i σ H3 hi ⟨m, v4, v5, rfl, om, nm, sm, lm, hd3, D3, f3⟩
      walk_at "h"
      refine rd_lenL (sql (f3 _ _ npl hl)) ?_
      walk_at "h"
      refine use_draw D3 (by rw [List.length_map]; omega) (by rw [List.length_map]; omega) fun k H4 k0 k1 D4 f4 => ?_
      rw [List.length_map] at k1
      have hk : k.toNat < xs.length := by omega
      have hx : atI (xs.map V.str) k = some (.str xs[k.toNat]) := by
        have := atI_nat (xs := xs.map V.str) (j := k.toNat) (v := .str xs[k.toNat]) (by rw [List.getElem?_map, List.getElem?_eq_getElem hk]; rfl)
        rwa [Int.toNat_of_nonneg k0] at this
      have mx : xs[k.toNat] ∈ xs := List.getElem_mem hk
      generalize xs[k.toNat] = z at hx mx
      refine rd_ixl (sql ((f3.trans f4) _ _ npl hl)) hx ?_
      have hd4 : H4 d = some (.dK (tabV m)) := f4 _ _ dp hd3
      walk_at "h"
      refine rd_isD hd4 ?_
      walk_at "h"
      refine ⟨_, DGet.k (k := Sum.inr z) hd4, ?_⟩
      rw [valV_tab]
      obtain ⟨n0, e0, n0p, n0s⟩ : ∃ n0 : Int, ((tget m z).map V.int).getD (.int 0) = .int n0 ∧ 0 ≤ n0 ∧ (((tput m z (n0 + 1)).map (·.2)).sum = (m.map (·.2)).sum + 1) := by
        have ts := fun n0 : Int => tput_sum nm z (n0 + 1)
        cases e : tget m z with
        | none => exact ⟨0, rfl, by omega, by rw [ts, e]; simp⟩
        | some n => exact ⟨n, rfl, by have := (om _ (tget_mem e)).2; simp only at this; omega, by rw [ts, e]; simp only [Option.getD_some]; omega⟩
      rw [e0]
      walk_at "h"
      refine rd_dputT hd4 (by omega) fun H5 hd5 f5 => ?_
      walk_at "h"
      refine ⟨_, _, _, rfl, fun q hq => ?_, tput_nodup nm, by rw [n0s, sm]; omega, by have := tput_len m z (n0 + 1); omega, hd5, D4.oth dp dc f5, (f3.trans f4).oth nd f5⟩
      rcases mem_tput hq with r | r
      · exact om q r
      · rw [r]; exact ⟨mx, by simp only; omega⟩
    · rintro σ H3 ⟨m, v4, v5, rfl, om, nm, sm, lm, hd3, D3, f3⟩
      walk_at "h"
      refine rd_sortD hd3 (by omega) fun ys e pm so ne => ?_
      generalize hH4 : upd H3 e (.lst (ys.map V.str)) = H4
      have s4 : Same H3 H4 := by rw [← hH4]; exact same_new ne
      have he : H4 e = some (.lst (ys.map V.str)) := by rw [← hH4]; exact upd_same
      have my : ∀ y ∈ ys, ∃ n, tget m y = some n := fun y hy => by
        have := tget_some.mpr (pm.mem_iff.mp hy)
        exact Option.isSome_iff_exists.mp this
      have ly : ys.length ≤ 100 := by rw [pm.length_eq, List.length_map]; omega
      let ps : Tab := ys.map fun y => (y, (tget m y).getD 0)
      have lps : ps.length = ys.length := List.length_map _
      refine rd_leafL (sql he) fun D nD => ?_
      refine lc_listW (xs := ys.map V.str) [some (V.ref p), some (V.ref l), some (V.int most), some (V.ref d), v4, none] rfl
        (fun i H' => Same H4 H' ∧ ∃ ts : List V, H' D = some (.lst ts) ∧ ts.length = i ∧ IsKs K H' ((ps.take i).map fun q => .tup [.text q.1, .num q.2]) ts) ⟨same_new nD, [], upd_same, rfl, rfl⟩ (fun i H' _ h => sql (h.1 _ _ he)) ?_ ?_
      · rintro i x H5 hx ⟨s5, ts, ht, lt, kt⟩
        have hi : i < ys.length := by
          have := (List.getElem?_eq_some_iff.mp hx).1
          simpa using this
        obtain rfl : x = V.str ys[i] := by
          rw [List.getElem?_map, List.getElem?_eq_getElem hi] at hx
          exact (Option.some.inj hx).symm
        obtain ⟨n, en⟩ := my _ (List.getElem_mem hi)
        walk_at "h"
        refine ⟨rfl, ?_⟩
        walk_at "h"
        refine ⟨d, .int n, rfl, dget_tab (s5 _ _ (s4 _ _ hd3)) en, ?_⟩
        walk_at "h"
        refine ⟨sz_le (by simp only [List.length_cons, List.length_nil]; omega), fun u nu => ?_⟩
        have nuD : D ≠ u := ne_of_none ht nu
        refine ⟨ts, by rw [upd_ne nuD]; exact ht, sz_lt (by omega), same_mut (s5.trans (same_new nu)) nD, _, upd_same, by rw [List.length_append, lt]; rfl, ?_⟩
        have hps : ps[i]? = some (ys[i], n) := by
          show (ys.map _)[i]? = _
          rw [List.getElem?_map, List.getElem?_eq_getElem hi, Option.map_some, en]
          rfl
        rw [List.take_add_one, hps, List.map_append]
        have tp : Tup K H5 (upd (upd H5 u (.tup [V.str ys[i], V.int n])) D (.lst (ts ++ [V.ref u]))) :=
          (tup_new nu).trans (tup_upd (o := .lst ts) (by rw [upd_ne nuD]; exact ht) (fun _ z => nomatch z) (fun _ _ z => nomatch z))
        refine IsKs.app (IsKs.keep tp _ _ kt) ⟨_, [], rfl, ⟨u, _, rfl, sqt (by rw [upd_ne nuD.symm, upd_same]), ⟨_, _, rfl, rfl, _, _, rfl, rfl, rfl⟩⟩, rfl⟩
      · rintro H5 ⟨s5, ts, ht, lt, kt⟩
        walk_at "h"
        refine rd_tupL (sql ht) fun t nt => ?_
        have np := (D3.keep (s4.trans s5)).new nt
        rw [List.length_map, ← lps, List.take_length] at kt
        have dn : H t = none := (f3.trans (Fr.of (s4.trans s5))).back np.1 nt
        refine q ps t _ ⟨fun r hr => ?_, ?_, ?_, ?_⟩ dn ⟨t, ts, rfl, sqt upd_same, IsKs.keep (tup_new nt) _ _ kt⟩ ((D3.keep (s4.trans s5)).keep (same_new nt)) ((f3.trans (Fr.of (s4.trans s5))).trans (Fr.new nt))
        · obtain ⟨y, hy, rfl⟩ := List.mem_map.mp hr
          obtain ⟨n, en⟩ := my y hy
          have := om _ (tget_mem en)
          rw [en]
          exact this
        · have e1 : ps.map (·.1) = ys := by show (ys.map _).map _ = _; rw [List.map_map]; exact List.map_id' _
          rw [e1]; exact pm.nodup_iff.mpr nm
        · have e1 : ps.map (·.1) = ys := by show (ys.map _).map _ = _; rw [List.map_map]; exact List.map_id' _
          rw [e1]; exact so
        · rw [perm_sum ((tab_perm nm pm).map (·.2)), sm]; omega
end
end K41
namespace K41
open PySem PySem.Spec PyProof.Rows L2 HH
local macro_rules | `(tactic| walk_at "h1") => `(tactic| first
  | with_reducible refine rd_seq ?_ | with_reducible refine rd_asg ?_ | with_reducible refine rd_op ?_
  | ((with_reducible refine' rd_var ?hv ?_); (case hv => exact rfl)) | with_reducible refine rd_c ?_
  | ((with_reducible refine rd_name ?_); dsimp only [List.set_cons_zero, List.set_cons_succ])
  | with_reducible refine rd_I0 ?_ | ((with_reducible refine rd_pow ?_ ?_ ?_ ?_); (· decide); (· decide); (· decide)) | ((with_reducible refine rd_mod ?_ ?_); (· decide)) | ((with_reducible refine rd_mulR ?_ ?_ ?_); (· decide); (· decide)) | ((with_reducible refine rd_divW (n := 64) ?_ ?_ ?_ ?_ ?_); (· decide); (· decide); (· decide); (· decide)) | with_reducible refine rd_addI ?_ | with_reducible refine rd_eqI ?_ | with_reducible refine rd_eqS ?_ | with_reducible refine rd_eqB ?_ | with_reducible refine rd_ltI ?_
  | with_reducible refine rd_callS ?_ | with_reducible refine rd_xf ?_ | with_reducible refine rd_cons ?_ | with_reducible refine rd_nil ?_ | with_reducible refine rd_cb ?_ | with_reducible refine rd_call ?_
  | with_reducible refine rd_ifs ?_ | with_reducible refine rd_test ?_ | with_reducible refine rd_tB ?_ | with_reducible refine rd_blQ ?_ | with_reducible refine iteT ?_ | with_reducible refine iteF ?_ | with_reducible refine iteNotF ?_ | with_reducible refine iteNotT ?_
  | with_reducible refine rd_and ?_ | with_reducible refine rd_or ?_ | with_reducible refine rd_not ?_ | with_reducible refine rd_andV ?_ | with_reducible refine rd_orV ?_ | with_reducible refine rd_notV ?_ | with_reducible refine rd_if ?_
  | with_reducible refine rd_un ?_ | with_reducible refine rd_U ?_ | with_reducible refine rd_sub ?_ | with_reducible refine rd_tup ?_ | with_reducible refine rd_lst ?_
  | with_reducible refine rd_intI ?_ | with_reducible refine rd_absI ?_ | with_reducible refine rd_drop ?_ | with_reducible refine rd_ret ?_ | with_reducible refine rd_retN ?_ | with_reducible refine rd_next ?_ | with_reducible refine rd_bm ?_
  | with_reducible refine rd_tDGet2 ?_ | with_reducible refine rd_tDGet ?_ | with_reducible refine rd_sDPut ?_ | with_reducible refine rd_dnewK ?_ | with_reducible refine rd_nnew ?_ | with_reducible refine rd_nget ?_ | with_reducible refine rd_nget2 ?_ | with_reducible refine rd_npop ?_ | with_reducible refine rd_nput ?_ | with_reducible refine rd_dcn ?_ | with_reducible refine rd_gtup ?_ | with_reducible refine rd_gcons ?_ | with_reducible refine rd_gnil ?_ | with_reducible refine rd_lc ?_ | with_reducible refine rd_yes ?_ | with_reducible refine rd_for ?_ | with_reducible refine rd_iL ?_ | with_reducible refine rd_neS ?_ | with_reducible refine rd_neN ?_ | with_reducible refine rd_neB ?_ | with_reducible refine rd_chain ?_ | with_reducible refine rd_bm0 ?_ | with_reducible refine rd_dc ?_ | with_reducible refine rd_iN ?_ | with_reducible refine rd_iZ ?_ | with_reducible refine rd_ngetF ?_ | with_reducible refine rd_iT ?_ | with_reducible refine rd_iR1 ?_ | with_reducible refine rd_iS ?_ | with_reducible refine rd_leafS ?_ | with_reducible refine rd_sl ?_ | with_reducible refine rd_noPart ?_ | with_reducible refine rd_part ?_ | with_reducible refine rd_leafI ?_)
local macro_rules | `(tactic| walk_at "h") => `(tactic| repeat walk_at "h1")

section
variable {P : Program} {w : World} {K : PySem.W.Frag} {mg : Str → Option Value} {base : Heap}
theorem ok_order {f : Addr} {fd : FuncData} (F : Fun K "_law_order" "_law_order" s_l_order f fd) (T : Bi mg) (G_l_draw : Callee P w K mg base 1 "_law_draw" ["_law_dice_here", "_law_many"] spDraw) :
    FnOk P w K mg base CX0 2 f fd ["_law_dice_here", "_law_names_here"] (spOrderV K) := by
  refine F.ok sc_l_order (fun vs H Q E h => ?_) (fun cdv A outer s H vs Q E hr h => ?_)
  · obtain ⟨p, c, t, xs, rfl, _⟩ := h
    rfl
  · obtain ⟨p, c, t, xs, rfl, D, ht, ntp, lx, q⟩ := h
    have hu := hu_of hr
    have hu20 := hu20_of hr
    have hu40 := hu40_of hr
    obtain ⟨f_l_draw, fd_l_draw, F_l_draw, m_l_draw, k_l_draw, b_l_draw⟩ := G_l_draw
    refine ⟨_, (pss_cons (ps_set (i := 2) sc_l_order.nd rfl (.inl rfl) (pe_callTy call_list_of (by rfl) T.list_ (by decide +kernel) (pa_cons (pv 1) pa_nil)))
  (pss_cons (ps_set (i := 3) sc_l_order.nd rfl (.inl rfl) (pe_lst pa_nil))
  (pss_cons (ps_for PassesOwn.never rfl (pi_range1 (by rfl) T.range (pa_cons (pe_callB (call_lenU (P := P) (w := w) (K := K)) (by rfl) T.len_ PySem.boot_len (pa_cons (pv 1) pa_nil)) pa_nil)) (pg_name (i := 4) sc_l_order.nd rfl (.inl rfl))
    (pss_one (ps_expr (pe_bm PySem.F.plainAttrs_list PySem.F.slot_list_append PySem.F.type_list_append mt_append (pv 3) (pa_cons (pe_bm PySem.F.plainAttrs_list PySem.F.slot_list_pop PySem.F.type_list_pop mt_popAt (pv 2) (pa_cons (pe_call F_l_draw (hr.mono (by decide)) (by rfl) m_l_draw k_l_draw b_l_draw .nil pass0 (pa_cons (pv 0) (pa_cons (pe_callB (call_lenU (P := P) (w := w) (K := K)) (by rfl) T.len_ PySem.boot_len (pa_cons (pv 2) pa_nil)) pa_nil))) pa_nil)) pa_nil)))))
  (pss_one (ps_ret (pv 3)))))), ?_⟩
    rw [show L2.start N_l_order [V.ref p, V.ref t] = [some (V.ref p), some (V.ref t), none, none, none] from rfl]
    (try dsimp only [cxOf, Cx.nox, Cx.wish])
    walk_at "h"
    refine ⟨t, xs, rfl, ht, fun l nl => ?_⟩
    obtain ⟨lp, lc⟩ := D.new nl
    generalize hH1 : upd H l (.lst (xs)) = H1
    have s1 : Same H H1 := by rw [← hH1]; exact same_new nl
    have hl1 : H1 l = some (.lst (xs)) := by rw [← hH1]; exact upd_same
    walk_at "h"
    refine ⟨Nat.zero_le _, fun m nm => ?_⟩
    obtain ⟨mp, mc⟩ := (D.keep s1).new nm
    have lm : l ≠ m := ne_of_none hl1 nm
    generalize hH2 : upd H1 m (.lst []) = H2
    have s2 : Same H1 H2 := by rw [← hH2]; exact same_new nm
    have hm2 : H2 m = some (.lst (([] : List V))) := by rw [← hH2]; exact upd_same
    walk_at "h"
    have ht2 : SqL K H2 t (xs) ∨ SqT K H2 t (xs) := ht.imp (fun h => same_seq (s1.trans s2) h) (fun h => same_tup (s1.trans s2) _ _ h)
    refine rd_lenA ht2 ?_
    walk_at "h"
    refine rd_leafR (by omega) (by omega) ?_
    refine for_range (fun i σ H' => ∃ (ls fs : List V) (v4 : Option V), σ = [some (V.ref p), some (V.ref t), some (V.ref l), some (V.ref m), v4] ∧ fs.length = i ∧ (fs ++ ls).Perm xs ∧ H' l = some (.lst (ls)) ∧ H' m = some (.lst (fs)) ∧ DiceAt H' p c ∧ Fr p H H')
      ⟨xs, [], none, rfl, rfl, List.Perm.refl _, s2 _ _ hl1, hm2, (D.keep s1).keep s2, Fr.of (s1.trans s2)⟩ ?_ ?_
    · rintro i σ H3 hi ⟨ls, fs, v4, rfl, lf, pm, hl3, hm3, D3, f3⟩
      have le : fs.length + ls.length = xs.length := by rw [← pm.length_eq, List.length_append]
      walk_at "h"
      refine ⟨.inl ⟨rfl, _, sql hm3⟩, ?_⟩
      walk_at "h"
      refine ⟨.inl ⟨rfl, _, sql hl3⟩, ?_⟩
      walk_at "h"
      refine rd_lenL (sql hl3) ?_
      walk_at "h"
      refine use_draw D3 (by omega) (by omega) fun k H4 k0 k1 D4 f4 => ?_
      have hk : k.toNat < ls.length := by omega
      have hl4 := f4 _ _ lp hl3
      have hm4 := f4 _ _ mp hm3
      walk_at "h"
      refine ⟨l, _, k, k.toNat, ls[k.toNat], rfl, rfl, hl4, by omega, by omega, seqIx_nat k0 hk, List.getElem?_eq_getElem hk, ?_⟩
      generalize hH5 : upd H4 l (.lst (ls.eraseIdx k.toNat)) = H5
      have hl5 : H5 l = some (.lst (ls.eraseIdx k.toNat)) := by rw [← hH5]; exact upd_same
      have hm5 : H5 m = some (.lst (fs)) := by rw [← hH5, upd_ne lm.symm]; exact hm4
      have D5 : DiceAt H5 p c := by rw [← hH5]; exact D4.mut lp lc
      have f5 : Fr p H H5 := by rw [← hH5]; exact (f3.trans f4).mut nl
      walk_at "h"
      refine rd_app hm5 (sz_lt (by omega)) ?_
      walk_at "h"
      refine ⟨ls.eraseIdx k.toNat, fs ++ [ls[k.toNat]], _, rfl, by rw [List.length_append, lf]; rfl, ?_, by rw [upd_ne lm]; exact hl5, upd_same, D5.mut mp mc, f5.mut (s1.free nm)⟩
      rw [List.append_assoc]
      exact (List.Perm.append_left fs (erase_perm hk)).trans pm
    · rintro σ H3 ⟨ls, fs, v4, rfl, lf, pm, hl3, hm3, D3, f3⟩
      have le : fs.length + ls.length = xs.length := by rw [← pm.length_eq, List.length_append]
      have e : ls = [] := List.eq_nil_of_length_eq_zero (by omega)
      rw [e, List.append_nil] at pm
      walk_at "h"
      exact q fs m H3 pm (s1.free nm) hm3 D3 f3
end
end K41
namespace K41
open PySem PySem.Spec PyProof.Rows L2 HH
local macro_rules | `(tactic| walk_at "h1") => `(tactic| first
  | with_reducible refine rd_seq ?_ | with_reducible refine rd_asg ?_ | with_reducible refine rd_op ?_
  | ((with_reducible refine' rd_var ?hv ?_); (case hv => exact rfl)) | with_reducible refine rd_c ?_
  | ((with_reducible refine rd_name ?_); dsimp only [List.set_cons_zero, List.set_cons_succ])
  | with_reducible refine rd_I0 ?_ | ((with_reducible refine rd_pow ?_ ?_ ?_ ?_); (· decide); (· decide); (· decide)) | ((with_reducible refine rd_mod ?_ ?_); (· decide)) | ((with_reducible refine rd_mulR ?_ ?_ ?_); (· decide); (· decide)) | ((with_reducible refine rd_divW (n := 64) ?_ ?_ ?_ ?_ ?_); (· decide); (· decide); (· decide); (· decide)) | with_reducible refine rd_addI ?_ | with_reducible refine rd_eqI ?_ | with_reducible refine rd_eqS ?_ | with_reducible refine rd_eqB ?_ | with_reducible refine rd_ltI ?_
  | with_reducible refine rd_callS ?_ | with_reducible refine rd_xf ?_ | with_reducible refine rd_cons ?_ | with_reducible refine rd_nil ?_ | with_reducible refine rd_cb ?_ | with_reducible refine rd_call ?_
  | with_reducible refine rd_ifs ?_ | with_reducible refine rd_test ?_ | with_reducible refine rd_tB ?_ | with_reducible refine rd_blQ ?_ | with_reducible refine iteT ?_ | with_reducible refine iteF ?_ | with_reducible refine iteNotF ?_ | with_reducible refine iteNotT ?_
  | with_reducible refine rd_and ?_ | with_reducible refine rd_or ?_ | with_reducible refine rd_not ?_ | with_reducible refine rd_andV ?_ | with_reducible refine rd_orV ?_ | with_reducible refine rd_notV ?_ | with_reducible refine rd_if ?_
  | with_reducible refine rd_un ?_ | with_reducible refine rd_U ?_ | with_reducible refine rd_sub ?_ | with_reducible refine rd_tup ?_ | with_reducible refine rd_lst ?_
  | with_reducible refine rd_intI ?_ | with_reducible refine rd_absI ?_ | with_reducible refine rd_drop ?_ | with_reducible refine rd_ret ?_ | with_reducible refine rd_retN ?_ | with_reducible refine rd_next ?_ | with_reducible refine rd_bm ?_
  | with_reducible refine rd_tDGet2 ?_ | with_reducible refine rd_tDGet ?_ | with_reducible refine rd_sDPut ?_ | with_reducible refine rd_dnewK ?_ | with_reducible refine rd_nnew ?_ | with_reducible refine rd_nget ?_ | with_reducible refine rd_nget2 ?_ | with_reducible refine rd_npop ?_ | with_reducible refine rd_nput ?_ | with_reducible refine rd_dcn ?_ | with_reducible refine rd_gtup ?_ | with_reducible refine rd_gcons ?_ | with_reducible refine rd_gnil ?_ | with_reducible refine rd_lc ?_ | with_reducible refine rd_yes ?_ | with_reducible refine rd_for ?_ | with_reducible refine rd_iL ?_ | with_reducible refine rd_neS ?_ | with_reducible refine rd_neN ?_ | with_reducible refine rd_neB ?_ | with_reducible refine rd_chain ?_ | with_reducible refine rd_bm0 ?_ | with_reducible refine rd_dc ?_ | with_reducible refine rd_iN ?_ | with_reducible refine rd_iZ ?_ | with_reducible refine rd_ngetF ?_ | with_reducible refine rd_iT ?_ | with_reducible refine rd_iR1 ?_ | with_reducible refine rd_iS ?_ | with_reducible refine rd_leafS ?_ | with_reducible refine rd_sl ?_ | with_reducible refine rd_noPart ?_ | with_reducible refine rd_part ?_ | with_reducible refine rd_leafI ?_)
local macro_rules | `(tactic| walk_at "h") => `(tactic| repeat walk_at "h1")

section
variable {P : Program} {w : World} {K : PySem.W.Frag} {mg : Str → Option Value} {base : Heap}
/-- such a table's things -/
def FtOk (xs : List Str) (top : Int) (m : Ft) : Prop := (∀ q ∈ m, q.1.1 ∈ xs ∧ ProdOk xs 2 q.1.2 ∧ 1 ≤ q.2 ∧ q.2 ≤ top) ∧ (m.map (·.1)).Nodup
theorem FtOk.put {xs : List Str} {top : Int} {m : Ft} (h : FtOk xs top m) {nm : Str} {ps : Tab} {n : Int} (h1 : nm ∈ xs) (h2 : ProdOk xs 2 ps) (h3 : 1 ≤ n) (h4 : n ≤ top) : FtOk xs top (tput m (nm, ps) n) := by
  refine ⟨fun q hq => ?_, tput_nodup h.2⟩
  rcases mem_tput hq with r | r
  · exact h.1 q r
  · rw [r]; exact ⟨h1, h2, h3, h4⟩
theorem ProdOk.sub {xs ys : List Str} {n : Int} {ps : Tab} (h : ProdOk ys n ps) (s : ∀ y ∈ ys, y ∈ xs) : ProdOk xs n ps := ⟨fun q hq => ⟨s _ (h.nm q hq).1, (h.nm q hq).2⟩, h.nd, h.so, h.dg⟩
theorem FtOk.rows {xs : List Str} {top : Int} {m : Ft} (h : FtOk xs top m) (b : Bool) : ∀ r ∈ rowsOf b m, r.nm ∈ xs ∧ 1 ≤ r.co ∧ r.co ≤ top ∧ ProdOk xs 2 r.ps := by
  intro r hr
  obtain ⟨q, hq, rfl⟩ := List.mem_map.mp hr
  obtain ⟨h1, h2, h3, h4⟩ := h.1 q hq
  rw [mem_tget h.2 (show (q.1, q.2) ∈ m from hq)]
  exact ⟨h1, h3, h4, h2⟩
theorem ok_flat {f : Addr} {fd : FuncData} (F : Fun K "_law_flat" "_law_flat" s_l_flat f fd) (T : Bi mg) (G_l_draw : Callee P w K mg base 1 "_law_draw" ["_law_dice_here", "_law_many"] spDraw) (G_l_product : Callee P w K mg base 2 "_law_product" ["_law_dice_here", "_law_names_here", "_law_most"] (spProduct K))
    (G_l_order : Callee P w K mg base 2 "_law_order" ["_law_dice_here", "_law_names_here"] (spOrder K)) : FnOk P w K mg base CX0 3 f fd ["_law_dice_here", "_law_names_here", "_law_most", "_law_top", "_law_wild"] (spFlat K) := by
  refine F.ok sc_l_flat (fun vs H Q E h => ?_) (fun cdv A outer s H vs Q E hr h => ?_)
  · obtain ⟨p, c, t, xs, most, top, wild, rfl, _⟩ := h
    rfl
  · obtain ⟨p, c, t, xs, most, top, wild, rfl, D, ht, ntp, x1, x2, m1, m2, t1, t2, q⟩ := h
    have hu := hu_of hr
    have hu20 := hu20_of hr
    have hu40 := hu40_of hr
    obtain ⟨f_l_order, fd_l_order, F_l_order, m_l_order, k_l_order, b_l_order⟩ := G_l_order; obtain ⟨f_l_draw, fd_l_draw, F_l_draw, m_l_draw, k_l_draw, b_l_draw⟩ := G_l_draw; obtain ⟨f_l_product, fd_l_product, F_l_product, m_l_product, k_l_product, b_l_product⟩ := G_l_product
    refine ⟨_, (pss_cons (ps_set (i := 5) sc_l_flat.nd rfl (.inl rfl) (pe_call F_l_order (hr.mono (by decide)) (by rfl) m_l_order k_l_order b_l_order .nil pass0 (pa_cons (pv 0) (pa_cons (pv 1) pa_nil))))
  (pss_cons (ps_set (i := 6) sc_l_flat.nd rfl (.inl rfl) (pe_op (op_addU (K := K)) pe_int (pe_call F_l_draw (hr.mono (by decide)) (by rfl) m_l_draw k_l_draw b_l_draw .nil pass0 (pa_cons (pv 0) (pa_cons pe_int pa_nil)))))
  (pss_cons (ps_set (i := 7) sc_l_flat.nd rfl (.inr rfl) (pe_nnew (K := K)))
  (pss_cons (ps_set (i := 8) sc_l_flat.nd rfl (.inr rfl) (pe_nnew (K := K)))
  (pss_cons (ps_for PassesOwn.never rfl (pi_range1 (by rfl) T.range (pa_cons (pe_op (op_addU (K := K)) pe_int (pe_call F_l_draw (hr.mono (by decide)) (by rfl) m_l_draw k_l_draw b_l_draw .nil pass0 (pa_cons (pv 0) (pa_cons (pv 2) pa_nil)))) pa_nil)) (pg_name (i := 9) sc_l_flat.nd rfl (.inl rfl))
    (pss_cons (ps_set (i := 10) sc_l_flat.nd rfl (.inl rfl) (pe_call F_l_draw (hr.mono (by decide)) (by rfl) m_l_draw k_l_draw b_l_draw .nil pass0 (pa_cons (pv 0) (pa_cons (pe_callB (call_lenU (P := P) (w := w) (K := K)) (by rfl) T.len_ PySem.boot_len (pa_cons (pv 5) pa_nil)) pa_nil))))
  (pss_cons (ps_set (i := 11) sc_l_flat.nd rfl (.inl rfl) (pe_ix (ix_listK (K := K)) (pv 5) (pv 10) (fun _ _ => rfl)))
  (pss_cons (ps_set (i := 12) sc_l_flat.nd rfl (.inl rfl) (pe_slice (sl_listK (K := K)) (pv 5) po_none (po_some (pe_op op_mul (pe_op op_fdivW (pv 10) (pv 6)) (pv 6)))))
  (C8.pss_cut (ps_if (pt_val (pv 4)) (pss_one (ps_set (i := 12) sc_l_flat.nd rfl (.inl rfl) (pv 5))) pss_nil)
  (pss_cons (ps_set (i := 13) sc_l_flat.nd rfl (.inl rfl) (pe_call F_l_draw (hr.mono (by decide)) (by rfl) m_l_draw k_l_draw b_l_draw .nil pass0 (pa_cons (pv 0) (pa_cons pe_int pa_nil))))
  (pss_cons (ps_set (i := 14) sc_l_flat.nd rfl (.inl rfl) (pe_tup pa_nil))
  (C8.pss_cut (ps_if (pt_cmpR op_gt (pe_callB (call_lenU (P := P) (w := w) (K := K)) (by rfl) T.len_ PySem.boot_len (pa_cons (pv 12) pa_nil)) pe_int (nomark _)) (pss_one (ps_set (i := 14) sc_l_flat.nd rfl (.inl rfl) (pe_call F_l_product (hr.mono (by decide)) (by rfl) m_l_product k_l_product b_l_product .nil pass0 (pa_cons (pv 0) (pa_cons (pv 12) (pa_cons pe_int pa_nil)))))) pss_nil)
  (pss_one (ps_if (pt_cmpR (op_eqU (K := K) hu40) (pv 13) pe_int (nomark _)) (pss_cons (ps_set (i := 15) sc_l_flat.nd rfl (.inl rfl) (pe_callB (call_min2 rfl) (by rfl) T.min_ (by decide +kernel) (pa_cons (pe_op (op_addU (K := K)) (pe_op op_mul (pe_op op_fdivW (pv 10) (pv 6)) (pv 6)) (pe_call F_l_draw (hr.mono (by decide)) (by rfl) m_l_draw k_l_draw b_l_draw .nil pass0 (pa_cons (pv 0) (pa_cons (pv 6) pa_nil)))) (pa_cons (pe_op op_sub (pe_callB (call_lenU (P := P) (w := w) (K := K)) (by rfl) T.len_ PySem.boot_len (pa_cons (pv 5) pa_nil)) pe_int) pa_nil))))
  (pss_one (ps_nput (P := P) (w := w) (K := K) hu20 (pv 8) (pe_tup (pa_cons (pv 11) (pa_cons (pe_tup (pa_cons (pe_tup (pa_cons (pe_ix (ix_listK (K := K)) (pv 5) (pv 15) (fun _ _ => rfl)) (pa_cons pe_int pa_nil))) pa_nil)) pa_nil))) pe_int rfl))) (pss_one (ps_if (pt_cmpR (op_eqU (K := K) hu40) (pv 13) pe_int (nomark _)) (pss_one (ps_nput (P := P) (w := w) (K := K) hu20 (pv 8) (pe_tup (pa_cons (pv 11) (pa_cons (pv 14) pa_nil))) (pe_op (op_addU (K := K)) pe_int (pe_call F_l_draw (hr.mono (by decide)) (by rfl) m_l_draw k_l_draw b_l_draw .nil pass0 (pa_cons (pv 0) (pa_cons (pv 3) pa_nil)))) rfl)) (pss_one (ps_nput (P := P) (w := w) (K := K) hu20 (pv 7) (pe_tup (pa_cons (pv 11) (pa_cons (pv 14) pa_nil))) (pe_op (op_addU (K := K)) pe_int (pe_call F_l_draw (hr.mono (by decide)) (by rfl) m_l_draw k_l_draw b_l_draw .nil pass0 (pa_cons (pv 0) (pa_cons (pv 3) pa_nil)))) rfl))))))))))))))
  (pss_cons (ps_lock (ps_setLc (i := 17) (own := [("_law_key", 16)]) rfl sc_l_flat.nd rfl rfl (sw_true rfl rfl rfl (by decide +kernel)) (pi_nkeys (P := P) (w := w) (pv 7)) (blkOk_by (N := N_l_flat) (sc := defScope s_l_flat) (by decide +kernel)) (fun _ _ _ _ _ => (pg_name (i := 16) sc_l_flat.nd rfl (.inl rfl))) (fun _ _ _ _ _ => pts_nil) (fun _ _ _ _ _ => (pe_tup (pa_cons pe_str (pa_cons (pe_ix (ix_tupK (K := K)) (pv 16) pe_int (fun _ _ => rfl)) (pa_cons (pe_ngetF (P := P) (w := w) (K := K) hu20 (pv 7) (pv 16) (fun _ _ => rfl)) (pa_cons (pe_ix (ix_tupK (K := K)) (pv 16) pe_int (fun _ _ => rfl)) pa_nil))))))))
  (pss_cons (ps_set (i := 17) sc_l_flat.nd rfl (.inl rfl) (pe_op (op_addU (K := K)) (pv 17) (pe_lock (pe_lc (own := [("_law_key", 16)]) rfl sc_l_flat.nd (pi_nkeys (P := P) (w := w) (pv 8)) (blkOk_by (N := N_l_flat) (sc := defScope s_l_flat) (by decide +kernel)) (fun _ _ _ _ _ => (pg_name (i := 16) sc_l_flat.nd rfl (.inl rfl))) (fun _ _ _ _ _ => pts_nil) (fun _ _ _ _ _ => (pe_tup (pa_cons pe_str (pa_cons (pe_ix (ix_tupK (K := K)) (pv 16) pe_int (fun _ _ => rfl)) (pa_cons (pe_ngetF (P := P) (w := w) (K := K) hu20 (pv 8) (pv 16) (fun _ _ => rfl)) (pa_cons (pe_ix (ix_tupK (K := K)) (pv 16) pe_int (fun _ _ => rfl)) pa_nil))))))))))
  (pss_one (ps_ret (pe_callTy (call_tupC (K := K)) (by rfl) T.tuple_ (by decide +kernel) (pa_cons (pe_callB (cr_sortK (K := K) hu20) (by rfl) T.sorted_ (by decide +kernel) (pa_cons (pv 17) pa_nil)) pa_nil))))))))))), ?_⟩
    rw [show L2.start N_l_flat [V.ref p, V.ref t, V.int most, V.int top, V.bl wild] = [some (V.ref p), some (V.ref t), some (V.int most), some (V.int top), some (V.bl wild), none, none, none, none, none, none, none, none, none, none, none, none, none] from rfl]
    (try dsimp only [cxOf, Cx.nox, Cx.wish])
    walk_at "h"
    refine ⟨p, c, t, xs, rfl, D, ht, ntp, by omega, fun ys l H1 pm nl hl1 D1 f1 => ?_⟩
    have lp : l ≠ p := fun e => by obtain ⟨_, z⟩ := D.lst; rw [e, z] at nl; cases nl
    have lys : ys.length = xs.length := pm.length_eq
    walk_at "h"
    refine use_draw D1 (by decide) (by decide) fun sz H2 z0 z1 D2 f2 => ?_
    walk_at "h"
    intro d1 nd1
    obtain ⟨d1p, d1c⟩ := D2.new nd1
    generalize hH3 : upd H2 d1 (NdO P w d1 []) = H3
    have s3 : Same H2 H3 := by rw [← hH3]; exact same_new nd1
    have n3 : NdAt P w K H3 d1 (ftV []) := by rw [← hH3]; exact ndat_empty
    walk_at "h"
    intro d2 nd2
    have D3 := D2.keep s3
    obtain ⟨d2p, d2c⟩ := D3.new nd2
    have d12 : d1 ≠ d2 := fun e => by obtain ⟨_, z⟩ := n3.at; rw [← e, z] at nd2; cases nd2
    generalize hH4 : upd H3 d2 (NdO P w d2 []) = H4
    have s4 : Same H3 H4 := by rw [← hH4]; exact same_new nd2
    have b4 : NdAt P w K H4 d2 (ftV []) := by rw [← hH4]; exact ndat_empty
    have a4 : NdAt P w K H4 d1 (ftV []) := n3.keep (fun o e => s4 _ _ e) (same_tup s4)
    have D4 := D3.keep s4
    have l2 := f2 _ _ lp hl1
    have l4 := s4 _ _ (s3 _ _ l2)
    have f4 : Fr p H H4 := f1.trans (f2.trans (Fr.of (s3.trans s4)))
    have nd1' : H d1 = none := (f1.trans f2).back d1p nd1
    have nd2' : H d2 = none := ((f1.trans f2).trans (Fr.of s3)).back d2p nd2
    have ld1 : l ≠ d1 := ne_of_none l2 nd1
    have ld2 : l ≠ d2 := ne_of_none (s3 _ _ l2) nd2
    have sub : ∀ y ∈ ys, y ∈ xs := fun y hy => pm.mem_iff.mp hy
    walk_at "h"
    refine use_draw D4 (by omega) (by omega) fun r H5 r0 r1 D5 f5 => ?_
    have t5 : Tup K H4 H5 := f5.tup D4.lst.choose_spec
    have a5 : NdAt P w K H5 d1 (ftV []) := a4.keep (fun o e => f5 _ _ d1p e) t5
    have b5 : NdAt P w K H5 d2 (ftV []) := b4.keep (fun o e => f5 _ _ d2p e) t5
    walk_at "h"
    refine rd_leafR (by omega) (by omega) ?_
    refine for_range (fun i σ H' => ∃ (ma mb : Ft) (v9 v10 v11 v12 v13 v14 v15 : Option V), σ = [some (V.ref p), some (V.ref t), some (V.int most), some (V.int top), some (V.bl wild), some (V.ref l), some (V.int (1 + sz)), some (V.ref d1), some (V.ref d2), v9, v10, v11, v12, v13, v14, v15, none, none] ∧
        FtOk xs top ma ∧ FtOk xs top mb ∧ ma.length + mb.length ≤ i ∧ NdAt P w K H' d1 (ftV ma) ∧ NdAt P w K H' d2 (ftV mb) ∧ DiceAt H' p c ∧ H' l = some (.lst (ys.map V.str)) ∧ Fr p H H')
      ⟨[], [], none, none, none, none, none, none, none, rfl, ⟨by simp, List.nodup_nil⟩, ⟨by simp, List.nodup_nil⟩, Nat.le_refl _, a5, b5, D5, f5 _ _ lp l4, f4.trans f5⟩ ?_ ?_
    · clear a5 b5 t5 D5 f5 D4 D3 D2 a4 b4 n3 l2 l4
      rintro i σ H6 hi ⟨ma, mb, v9, v10, v11, v12, v13, v14, v15, rfl, oa, ob, lab, a6, b6, D6, l6, f6⟩
      walk_at "h"
      refine rd_lenL (sql l6) ?_
      walk_at "h"
      refine use_draw D6 (by rw [List.length_map]; omega) (by rw [List.length_map]; omega) fun at_ H7 at0 at1 D7 f7 => ?_
      rw [List.length_map] at at1
      have t7 : Tup K H6 H7 := f7.tup D6.lst.choose_spec
      have a7 : NdAt P w K H7 d1 (ftV ma) := a6.keep (fun o e => f7 _ _ d1p e) t7
      have b7 : NdAt P w K H7 d2 (ftV mb) := b6.keep (fun o e => f7 _ _ d2p e) t7
      have l7 := f7 _ _ lp l6
      walk_at "h"
      have hk : at_.toNat < ys.length := by omega
      have hx : atI (ys.map V.str) at_ = some (.str ys[at_.toNat]) := by
        have := atI_nat (xs := ys.map V.str) (j := at_.toNat) (v := .str ys[at_.toNat]) (by rw [List.getElem?_map, List.getElem?_eq_getElem hk]; rfl)
        rwa [Int.toNat_of_nonneg at0] at this
      have mx : ys[at_.toNat] ∈ xs := sub _ (List.getElem_mem hk)
      generalize ys[at_.toNat] = nm at hx mx
      refine rd_ixl (sql l7) hx ?_
      walk_at "h"
      refine rd_divW (n := 64) (by omega) (by omega) (by decide) (by decide) ?_
      walk_at "h"
      refine rd_mulR (by omega) (by omega) ?_
      walk_at "h"
      refine rd_slL (sql l7) fun q0 nq0 => ?_
      obtain ⟨zs, ezs, lzs, szs⟩ := cut_map V.str ys none (some (at_ / (1 + sz) * (1 + sz)))
      rw [ezs]
      generalize hH8 : upd H7 q0 (.lst (zs.map V.str)) = H8
      have s8 : Same H7 H8 := by rw [← hH8]; exact same_new nq0
      have q8 : H8 q0 = some (.lst (zs.map V.str)) := by rw [← hH8]; exact upd_same
      have q0p := (D7.new nq0).1
      have D8 := D7.keep s8
      have a8 : NdAt P w K H8 d1 (ftV ma) := a7.keep (fun o e => s8 _ _ e) (same_tup s8)
      have b8 : NdAt P w K H8 d2 (ftV mb) := b7.keep (fun o e => s8 _ _ e) (same_tup s8)
      have l8 := s8 _ _ l7
      have f8 : Fr p H H8 := f6.trans (f7.trans (Fr.of s8))
      clear a6 b6 D6 l6 a7 b7 D7 l7
      walk_at "h"
      refine rd_cut (fun σ' H' => ∃ (q0 : Addr) (zs : List Str), σ' = [some (V.ref p), some (V.ref t), some (V.int most), some (V.int top), some (V.bl wild), some (V.ref l), some (V.int (1 + sz)), some (V.ref d1), some (V.ref d2), some (V.int (0 + i)), some (V.int at_), some (V.str nm), some (V.ref q0), v13, v14, v15, none, none] ∧ H' = H8 ∧ H8 q0 = some (.lst (zs.map V.str)) ∧ q0 ≠ p ∧ zs.length ≤ 20 ∧ ∀ z ∈ zs, z ∈ xs) ?_ ?_
      · walk_at "h"
        refine ite2 (fun e1 => ?_) (fun e1 => ?_)
        · walk_at "h"
          exact ⟨l, ys, rfl, rfl, l8, lp, by omega, sub⟩
        · walk_at "h"
          exact ⟨q0, zs, rfl, rfl, q8, q0p, by omega, fun z hz => sub z (szs z hz)⟩
      · clear q8 q0p szs lzs ezs
        rintro σ' H' ⟨q0, zs, rfl, rfl, q8, q0p, lzs, szs⟩
        walk_at "h"
        refine use_draw D8 (by decide) (by decide) fun kd H9 kd0 kd1 D9 f9 => ?_
        have t9 : Tup K H' H9 := f9.tup D8.lst.choose_spec
        have a9 : NdAt P w K H9 d1 (ftV ma) := a8.keep (fun o e => f9 _ _ d1p e) t9
        have b9 : NdAt P w K H9 d2 (ftV mb) := b8.keep (fun o e => f9 _ _ d2p e) t9
        walk_at "h"
        refine ⟨Nat.zero_le _, fun u0 nu0 => ?_⟩
        generalize hH10 : upd H9 u0 (.tup []) = H10
        have s10 : Same H9 H10 := by rw [← hH10]; exact same_new nu0
        have k10 : IsK K H10 (prodK []) (.ref u0) := ⟨u0, [], rfl, sqt (by rw [← hH10]; exact upd_same), rfl⟩
        have D10 := D9.keep s10
        have a10 : NdAt P w K H10 d1 (ftV ma) := a9.keep (fun o e => s10 _ _ e) (same_tup s10)
        have b10 : NdAt P w K H10 d2 (ftV mb) := b9.keep (fun o e => s10 _ _ e) (same_tup s10)
        have l10 := s10 _ _ (f9 _ _ lp l8)
        have q10 := s10 _ _ (f9 _ _ q0p q8)
        have f10 : Fr p H H10 := f8.trans (f9.trans (Fr.of s10))
        clear a8 b8 D8 l8 a9 b9 D9 q8
        walk_at "h"
        refine rd_cut (fun σ' H' => ∃ (u0 : Addr) (ps : Tab), σ' = [some (V.ref p), some (V.ref t), some (V.int most), some (V.int top), some (V.bl wild), some (V.ref l), some (V.int (1 + sz)), some (V.ref d1), some (V.ref d2), some (V.int (0 + i)), some (V.int at_), some (V.str nm), some (V.ref q0), some (V.int kd), some (V.ref u0), v15, none, none] ∧
            ProdOk xs 2 ps ∧ IsK K H' (prodK ps) (.ref u0) ∧ NdAt P w K H' d1 (ftV ma) ∧ NdAt P w K H' d2 (ftV mb) ∧ DiceAt H' p c ∧ H' l = some (.lst (ys.map V.str)) ∧ Fr p H H') ?_ ?_
        · walk_at "h"
          refine rd_lenL (sql q10) ?_
          walk_at "h"
          refine ite2 (fun e1 => ?_) (fun e1 => ?_)
          · have e2 := of_decide_eq_true e1
            rw [List.length_map] at e2
            walk_at "h"
            refine use_product D10 q10 q0p (by omega) (by omega) (by decide) (by decide) fun ps u1 H11 pok nu1 kp1 D11 f11 => ?_
            have t11 : Tup K H10 H11 := f11.tup D10.lst.choose_spec
            walk_at "h"
            exact ⟨u1, ps, rfl, pok.sub szs, kp1, a10.keep (fun o e => f11 _ _ d1p e) t11, b10.keep (fun o e => f11 _ _ d2p e) t11, D11, f11 _ _ lp l10, f10.trans f11⟩
          · walk_at "h"
            exact ⟨u0, [], rfl, ⟨by simp, List.nodup_nil, rfl, by decide⟩, k10, a10, b10, D10, l10, f10⟩
        · clear a10 b10 D10 l10 q10 k10 f10 szs
          rintro σ' H11 ⟨u0, ps, rfl, pok, kp, a11, b11, D11, l11, f11⟩
          walk_at "h"
          have keyput : ∀ (Hx : Hp) (u : Addr) (dd : Addr) (m : Ft) (n : Int) (R : Hp → Prop) (zz : Str) (qs : Tab) (tq : Addr), NdAt P w K Hx dd (ftV m) → IsK K Hx (prodK qs) (.ref tq) → Hx u = some (.tup [.str zz, .ref tq]) → m.length ≤ 1000 →
              (∀ xs', NdAt P w K (upd Hx dd (NdO P w dd xs')) dd (ftV (tput m (zz, qs) n)) → R (upd Hx dd (NdO P w dd xs'))) →
              ∃ d kvs k, V.ref dd = .ref d ∧ NdAt P w K Hx d kvs ∧ KeyAt K Hx k (.ref u) ∧ kvs.length < sizeLine ∧ NdTo P w K Hx d (putK kvs k (.int n)) R := by
            intro Hx u dd m n R zz qs tq h1 h2 h3 h4 h5
            refine ⟨dd, _, encF (zz, qs), rfl, h1, key_ft h3 h2, by rw [ftV_len]; exact sz_lt (by omega), fun xs' n' => ?_⟩
            rw [putK_ft] at n'
            exact h5 xs' n'
          refine ite2 (fun e1 => ?_) (fun e1 => ?_)
          · walk_at "h"
            refine rd_divW (n := 64) (by omega) (by omega) (by decide) (by decide) ?_
            walk_at "h"
            refine rd_mulR (by omega) (by omega) ?_
            walk_at "h"
            refine use_draw D11 (by omega) (by omega) fun k2 H12 k20 k21 D12 f12 => ?_
            have t12 : Tup K H11 H12 := f12.tup D11.lst.choose_spec
            have l12 := f12 _ _ lp l11
            walk_at "h"
            refine rd_lenL (sql l12) ?_
            rw [List.length_map]
            walk_at "h"
            refine ⟨_, _, rfl, ?_⟩
            have g0 : 0 ≤ at_ / (1 + sz) * (1 + sz) := Int.mul_nonneg (Int.ediv_nonneg at0 (by omega)) (by omega)
            generalize at_ / (1 + sz) * (1 + sz) = g at g0
            obtain ⟨o, eo, o0, o1⟩ : ∃ o : Int, (if (ys.length : Int) - 1 < g + k2 then (ys.length : Int) - 1 else g + k2) = o ∧ 0 ≤ o ∧ o < ys.length := ⟨_, rfl, by split <;> omega, by split <;> omega⟩
            rw [eo]
            have hk2 : o.toNat < ys.length := by omega
            have hx2 : atI (ys.map V.str) o = some (.str ys[o.toNat]) := by
              have := atI_nat (xs := ys.map V.str) (j := o.toNat) (v := .str ys[o.toNat]) (by rw [List.getElem?_map, List.getElem?_eq_getElem hk2]; rfl)
              rwa [Int.toNat_of_nonneg o0] at this
            have mx2 : ys[o.toNat] ∈ xs := sub _ (List.getElem_mem hk2)
            generalize ys[o.toNat] = nm2 at hx2 mx2
            walk_at "h"
            refine rd_ixl (sql l12) hx2 ?_
            walk_at "h"
            refine ⟨sz_le (by simp only [List.length_cons, List.length_nil]; omega), fun u1 nu1 => ?_⟩
            generalize hH13 : upd H12 u1 (.tup [V.str nm2, V.int 1]) = H13
            have s13 : Same H12 H13 := by rw [← hH13]; exact same_new nu1
            have hu1 : H13 u1 = some (.tup [V.str nm2, V.int 1]) := by rw [← hH13]; exact upd_same
            walk_at "h"
            refine ⟨sz_le (by simp only [List.length_cons, List.length_nil]; omega), fun u2 nu2 => ?_⟩
            generalize hH14 : upd H13 u2 (.tup [V.ref u1]) = H14
            have s14 : Same H13 H14 := by rw [← hH14]; exact same_new nu2
            have hu2 : H14 u2 = some (.tup [V.ref u1]) := by rw [← hH14]; exact upd_same
            have kp14 : IsK K H14 (prodK [(nm2, 1)]) (.ref u2) := ⟨u2, _, rfl, sqt hu2, ⟨_, _, rfl, ⟨u1, _, rfl, sqt (s14 _ _ hu1), ⟨_, _, rfl, rfl, _, _, rfl, rfl, rfl⟩⟩, rfl⟩⟩
            walk_at "h"
            refine ⟨sz_le (by simp only [List.length_cons, List.length_nil]; omega), fun u3 nu3 => ?_⟩
            generalize hH15 : upd H14 u3 (.tup [V.str nm, V.ref u2]) = H15
            have s15 : Same H14 H15 := by rw [← hH15]; exact same_new nu3
            have hu3 : H15 u3 = some (.tup [V.str nm, V.ref u2]) := by rw [← hH15]; exact upd_same
            have sx : Same H12 H15 := s13.trans (s14.trans s15)
            have a15 : NdAt P w K H15 d1 (ftV ma) := a11.keep (fun o e => sx _ _ (f12 _ _ d1p e)) (t12.trans (same_tup sx))
            have b15 : NdAt P w K H15 d2 (ftV mb) := b11.keep (fun o e => sx _ _ (f12 _ _ d2p e)) (t12.trans (same_tup sx))
            have f15 : Fr p H H15 := f11.trans (f12.trans (Fr.of sx))
            have D15 := D12.keep sx
            have l15 := sx _ _ l12
            refine keyput H15 u3 d2 mb 1 _ nm [(nm2, 1)] u2 b15 (kp14.keep (same_tup s15)) hu3 (by omega) fun xs' n' => ?_
            obtain ⟨xd, hxd⟩ := b15.at
            exact ⟨ma, _, _, _, _, _, _, _, _, rfl, oa, ob.put mx ⟨by simp [mx2], by simp, rfl, by simp⟩ (by decide) (by omega), by have := tput_len mb (nm, [(nm2, 1)]) 1; omega, a15.keep (fun o e => by rw [upd_ne d12]; exact e) (nd_tup hxd), n', D15.mut d2p d2c, by rw [upd_ne ld2]; exact l15, f15.mut nd2'⟩
          · walk_at "h"
            refine ite2 (fun e2 => ?_) (fun e2 => ?_)
            · walk_at "h"
              refine use_draw D11 (by omega) (by omega) fun k2 H12 k20 k21 D12 f12 => ?_
              have t12 : Tup K H11 H12 := f12.tup D11.lst.choose_spec
              have l12 := f12 _ _ lp l11
              walk_at "h"
              refine ⟨sz_le (by simp only [List.length_cons, List.length_nil]; omega), fun u3 nu3 => ?_⟩
              generalize hH15 : upd H12 u3 (.tup [V.str nm, V.ref u0]) = H15
              have sx : Same H12 H15 := by rw [← hH15]; exact same_new nu3
              have hu3 : H15 u3 = some (.tup [V.str nm, V.ref u0]) := by rw [← hH15]; exact upd_same
              have a15 : NdAt P w K H15 d1 (ftV ma) := a11.keep (fun o e => sx _ _ (f12 _ _ d1p e)) (t12.trans (same_tup sx))
              have b15 : NdAt P w K H15 d2 (ftV mb) := b11.keep (fun o e => sx _ _ (f12 _ _ d2p e)) (t12.trans (same_tup sx))
              have f15 : Fr p H H15 := f11.trans (f12.trans (Fr.of sx))
              have D15 := D12.keep sx
              have l15 := sx _ _ l12
              refine keyput H15 u3 d2 mb (1 + k2) _ nm ps u0 b15 (kp.keep (t12.trans (same_tup sx))) hu3 (by omega) fun xs' n' => ?_
              obtain ⟨xd, hxd⟩ := b15.at
              exact ⟨ma, _, _, _, _, _, _, _, _, rfl, oa, ob.put mx pok (by omega) (by omega), by have := tput_len mb (nm, ps) (1 + k2); omega, a15.keep (fun o e => by rw [upd_ne d12]; exact e) (nd_tup hxd), n', D15.mut d2p d2c, by rw [upd_ne ld2]; exact l15, f15.mut nd2'⟩
            · walk_at "h"
              refine use_draw D11 (by omega) (by omega) fun k2 H12 k20 k21 D12 f12 => ?_
              have t12 : Tup K H11 H12 := f12.tup D11.lst.choose_spec
              have l12 := f12 _ _ lp l11
              walk_at "h"
              refine ⟨sz_le (by simp only [List.length_cons, List.length_nil]; omega), fun u3 nu3 => ?_⟩
              generalize hH15 : upd H12 u3 (.tup [V.str nm, V.ref u0]) = H15
              have sx : Same H12 H15 := by rw [← hH15]; exact same_new nu3
              have hu3 : H15 u3 = some (.tup [V.str nm, V.ref u0]) := by rw [← hH15]; exact upd_same
              have a15 : NdAt P w K H15 d1 (ftV ma) := a11.keep (fun o e => sx _ _ (f12 _ _ d1p e)) (t12.trans (same_tup sx))
              have b15 : NdAt P w K H15 d2 (ftV mb) := b11.keep (fun o e => sx _ _ (f12 _ _ d2p e)) (t12.trans (same_tup sx))
              have f15 : Fr p H H15 := f11.trans (f12.trans (Fr.of sx))
              have D15 := D12.keep sx
              have l15 := sx _ _ l12
              refine keyput H15 u3 d1 ma (1 + k2) _ nm ps u0 a15 (kp.keep (t12.trans (same_tup sx))) hu3 (by omega) fun xs' n' => ?_
              obtain ⟨xd, hxd⟩ := a15.at
              exact ⟨_, mb, _, _, _, _, _, _, _, rfl, oa.put mx pok (by omega) (by omega), ob, by have := tput_len ma (nm, ps) (1 + k2); omega, n', b15.keep (fun o e => by rw [upd_ne d12.symm]; exact e) (nd_tup hxd), D15.mut d1p d1c, by rw [upd_ne ld1]; exact l15, f15.mut nd1'⟩
    · clear a5 b5 t5 D5 f5 D4 D3 D2 a4 b4 n3 l2 l4
      rintro σ H6 ⟨ma, mb, v9, v10, v11, v12, v13, v14, v15, rfl, oa, ob, lab, a6, b6, D6, l6, f6⟩
      have lab2 : ma.length + mb.length ≤ 20 := by omega
      walk_at "h"
      obtain ⟨nx, hdx, ekv, hkx⟩ := a6
      refine rd_lock hdx fun od => ?_
      generalize hHa : upd H6 d1 (.frz od (NdO P w d1 nx)) = Ha
      have hda : Ha d1 = some (.frz od (NdO P w d1 nx)) := by rw [← hHa]; exact upd_same
      have tpa : Tup K H6 Ha := by rw [← hHa]; exact nd_tup hdx
      have lnx : nx.length = ma.length := nx_len ekv
      have ota : ∀ b, b ≠ d1 → Ha b = H6 b := fun b hb => by rw [← hHa]; exact upd_ne hb
      walk_at "h"
      refine ⟨d1, od, nx, rfl, hda, fun D nD => ?_⟩
      refine lc_nkW [some (V.ref p), some (V.ref t), some (V.int most), some (V.int top), some (V.bl wild), some (V.ref l), some (V.int (1 + sz)), some (V.ref d1), some (V.ref d2), v9, v10, v11, v12, v13, v14, v15, none, none] rfl (fun i H' => Same Ha H' ∧ ∃ ts : List V, H' D = some (.lst ts) ∧ ts.length = i ∧ IsKs K H' (((rowsOf true ma).take i).map rowK) ts) ⟨same_new nD, [], upd_same, rfl, rfl⟩ (fun i H' _ h => h.1 _ _ hda) ?_ ?_
      · rintro i q Hb hi hq ⟨sb, ts, ht, lt, kt⟩
        obtain ⟨z, hz, eq⟩ := nx_at ekv hq
        have hi2 : i < ma.length := by omega
        obtain rfl : z = ma[i] := by rw [List.getElem?_eq_getElem hi2] at hz; exact (Option.some.inj hz).symm
        obtain ⟨kq, _⟩ := hkx q (List.mem_of_getElem? hq)
        rw [eq] at kq
        have tpb := tpa.trans (same_tup (K := K) sb)
        have kqb := kq.keep tpb
        obtain ⟨qa, t, eqa, sqa, kpa⟩ := encF_at kqb
        obtain ⟨n, en⟩ : ∃ n, tget ma ma[i].1 = some n := Option.isSome_iff_exists.mp (tget_some.mpr (List.mem_map_of_mem (List.getElem_mem hi2)))
        rw [V.ref.inj eqa]
        rw [eqa] at kqb
        walk_at "h"
        refine ⟨rfl, ?_⟩
        walk_at "h"
        refine rd_ixt sqa (atI_nat (j := 0) rfl) ?_
        walk_at "h"
        refine ⟨d1, od, nx, encF ma[i].1, .int n, rfl, ⟨sb _ _ hda, fun x hx => ⟨(hkx x hx).1.keep tpb, (hkx x hx).2⟩⟩, ⟨qa, rfl, kqb, depth_encF _⟩, by rw [ekv, valV_ft, en]; rfl, ?_⟩
        walk_at "h"
        refine rd_ixt sqa (atI_nat (j := 1) rfl) ?_
        walk_at "h"
        refine ⟨sz_le (by simp only [List.length_cons, List.length_nil]; omega), fun u nu => ?_⟩
        have nuD : D ≠ u := ne_of_none ht nu
        refine ⟨ts, by rw [upd_ne nuD]; exact ht, sz_lt (by omega), same_mut (sb.trans (same_new nu)) nD, _, upd_same, by rw [List.length_append, lt]; rfl, ?_⟩
        have hS : (rowsOf true ma)[i]? = some ⟨true, ma[i].1.1, n, ma[i].1.2⟩ := by
          show (ma.map _)[i]? = _
          rw [List.getElem?_map, List.getElem?_eq_getElem hi2, Option.map_some, en]
          rfl
        rw [List.take_add_one, hS, List.map_append]
        have tp : Tup K Hb (upd (upd Hb u (.tup [V.str (wordK true), V.str ma[i].1.1, V.int n, V.ref t])) D (.lst (ts ++ [V.ref u]))) :=
          (tup_new nu).trans (tup_upd (o := .lst ts) (by rw [upd_ne nuD]; exact ht) (fun _ z => nomatch z) (fun _ _ z => nomatch z))
        refine IsKs.app (IsKs.keep tp _ _ kt) ⟨_, [], rfl, ⟨u, _, rfl, sqt (by rw [upd_ne nuD.symm, upd_same]; rfl), ⟨_, _, rfl, rfl, _, _, rfl, rfl, _, _, rfl, rfl, _, _, rfl, kpa.keep tp, rfl⟩⟩, rfl⟩
      · rintro Hb ⟨sb, ts, ht, lt, kt⟩
        rw [lnx, ← rowsOf_len true ma, List.take_length] at kt
        walk_at "h"
        refine ⟨sb _ _ hda, ?_⟩
        have nD6 : H6 D = none := by
          by_cases e : D = d1
          · rw [e, hda] at nD; cases nD
          · rw [← ota _ e]; exact nD
        have Dd1 : D ≠ d1 := fun e => by rw [e, hda] at nD; cases nD
        have Dp : D ≠ p := (D6.new nD6).1
        have nDH : H D = none := f6.back Dp nD6
        generalize hHc : upd Hb d1 (NdO P w d1 nx) = Hc
        have otc : ∀ b, b ≠ d1 → Hc b = Hb b := fun b hb => by rw [← hHc]; exact upd_ne hb
        have tpc : Tup K Hb Hc := by rw [← hHc]; exact tup_upd (sb _ _ hda) (fun _ z => nomatch z) (fun _ _ z => by injection z with _ z; exact nomatch z)
        have s6c : Same H6 Hc := fun b o e => by
          by_cases hb : b = d1
          · rw [hb, hdx] at e; rw [hb, ← hHc, upd_same]; exact e
          · rw [otc _ hb]; exact sb _ _ (by rw [ota _ hb]; exact e)
        have htc : Hc D = some (.lst ts) := by rw [otc _ Dd1]; exact ht
        have ktc : IsKs K Hc ((rowsOf true ma).map rowK) ts := IsKs.keep tpc _ _ kt
        have bc : NdAt P w K Hc d2 (ftV mb) := b6.keep (fun o e => s6c _ _ e) (same_tup s6c)
        have Dc := D6.keep s6c
        have fc : Fr p H Hc := f6.trans (Fr.of s6c)
        have ltm : ts.length = ma.length := by rw [IsKs.length ktc, List.length_map, rowsOf_len]
        clear hdx ekv hkx hda ota tpa hHa hHc otc tpc lt lnx kt ht sb nD
        walk_at "h"
        obtain ⟨ny, hdx, ekv, hkx⟩ := bc
        refine rd_lockE hdx fun od => ?_
        generalize hHa : upd Hc d2 (.frz od (NdO P w d2 ny)) = Ha
        have hda : Ha d2 = some (.frz od (NdO P w d2 ny)) := by rw [← hHa]; exact upd_same
        have tpa : Tup K Hc Ha := by rw [← hHa]; exact nd_tup hdx
        have lny : ny.length = mb.length := nx_len ekv
        have ota : ∀ b, b ≠ d2 → Ha b = Hc b := fun b hb => by rw [← hHa]; exact upd_ne hb
        walk_at "h"
        refine ⟨d2, od, ny, rfl, hda, fun E2 nE => ?_⟩
        refine lc_nkW [some (V.ref p), some (V.ref t), some (V.int most), some (V.int top), some (V.bl wild), some (V.ref l), some (V.int (1 + sz)), some (V.ref d1), some (V.ref d2), v9, v10, v11, v12, v13, v14, v15, none, some (V.ref D)] rfl (fun i H' => Same Ha H' ∧ ∃ ts : List V, H' E2 = some (.lst ts) ∧ ts.length = i ∧ IsKs K H' (((rowsOf false mb).take i).map rowK) ts) ⟨same_new nE, [], upd_same, rfl, rfl⟩ (fun i H' _ h => h.1 _ _ hda) ?_ ?_
        · rintro i q Hb hi hq ⟨sb, ts, ht, lt, kt⟩
          obtain ⟨z, hz, eq⟩ := nx_at ekv hq
          have hi2 : i < mb.length := by omega
          obtain rfl : z = mb[i] := by rw [List.getElem?_eq_getElem hi2] at hz; exact (Option.some.inj hz).symm
          obtain ⟨kq, _⟩ := hkx q (List.mem_of_getElem? hq)
          rw [eq] at kq
          have tpb := tpa.trans (same_tup (K := K) sb)
          have kqb := kq.keep tpb
          obtain ⟨qa, t, eqa, sqa, kpa⟩ := encF_at kqb
          obtain ⟨n, en⟩ : ∃ n, tget mb mb[i].1 = some n := Option.isSome_iff_exists.mp (tget_some.mpr (List.mem_map_of_mem (List.getElem_mem hi2)))
          rw [V.ref.inj eqa]
          rw [eqa] at kqb
          walk_at "h"
          refine ⟨rfl, ?_⟩
          walk_at "h"
          refine rd_ixt sqa (atI_nat (j := 0) rfl) ?_
          walk_at "h"
          refine ⟨d2, od, ny, encF mb[i].1, .int n, rfl, ⟨sb _ _ hda, fun x hx => ⟨(hkx x hx).1.keep tpb, (hkx x hx).2⟩⟩, ⟨qa, rfl, kqb, depth_encF _⟩, by rw [ekv, valV_ft, en]; rfl, ?_⟩
          walk_at "h"
          refine rd_ixt sqa (atI_nat (j := 1) rfl) ?_
          walk_at "h"
          refine ⟨sz_le (by simp only [List.length_cons, List.length_nil]; omega), fun u nu => ?_⟩
          have nuD : E2 ≠ u := ne_of_none ht nu
          refine ⟨ts, by rw [upd_ne nuD]; exact ht, sz_lt (by omega), same_mut (sb.trans (same_new nu)) nE, _, upd_same, by rw [List.length_append, lt]; rfl, ?_⟩
          have hS : (rowsOf false mb)[i]? = some ⟨false, mb[i].1.1, n, mb[i].1.2⟩ := by
            show (mb.map _)[i]? = _
            rw [List.getElem?_map, List.getElem?_eq_getElem hi2, Option.map_some, en]
            rfl
          rw [List.take_add_one, hS, List.map_append]
          have tp : Tup K Hb (upd (upd Hb u (.tup [V.str (wordK false), V.str mb[i].1.1, V.int n, V.ref t])) E2 (.lst (ts ++ [V.ref u]))) :=
            (tup_new nu).trans (tup_upd (o := .lst ts) (by rw [upd_ne nuD]; exact ht) (fun _ z => nomatch z) (fun _ _ z => nomatch z))
          refine IsKs.app (IsKs.keep tp _ _ kt) ⟨_, [], rfl, ⟨u, _, rfl, sqt (by rw [upd_ne nuD.symm, upd_same]; rfl), ⟨_, _, rfl, rfl, _, _, rfl, rfl, _, _, rfl, rfl, _, _, rfl, kpa.keep tp, rfl⟩⟩, rfl⟩
        · rintro Hb ⟨sb, us, hu', lt, kt⟩
          rw [lny, ← rowsOf_len false mb, List.take_length] at kt
          walk_at "h"
          refine ⟨sb _ _ hda, ?_⟩
          have nE6 : Hc E2 = none := by
            by_cases e : E2 = d2
            · rw [e, hda] at nE; cases nE
            · rw [← ota _ e]; exact nE
          have Ed2 : E2 ≠ d2 := fun e => by rw [e, hda] at nE; cases nE
          generalize hHd : upd Hb d2 (NdO P w d2 ny) = Hd
          have otc : ∀ b, b ≠ d2 → Hd b = Hb b := fun b hb => by rw [← hHd]; exact upd_ne hb
          have tpc : Tup K Hb Hd := by rw [← hHd]; exact tup_upd (sb _ _ hda) (fun _ z => nomatch z) (fun _ _ z => by injection z with _ z; exact nomatch z)
          have scd : Same Hc Hd := fun b o e => by
            by_cases hb : b = d2
            · rw [hb, hdx] at e; rw [hb, ← hHd, upd_same]; exact e
            · rw [otc _ hb]; exact sb _ _ (by rw [ota _ hb]; exact e)
          have hud : Hd E2 = some (.lst us) := by rw [otc _ Ed2]; exact hu'
          have kud : IsKs K Hd ((rowsOf false mb).map rowK) us := IsKs.keep tpc _ _ kt
          have lum : us.length = mb.length := by rw [IsKs.length kud, List.length_map, rowsOf_len]
          walk_at "h"
          refine rd_addL (scd _ _ htc) hud (sz_le (by omega)) fun rl nrl => ?_
          generalize hHe : upd Hd rl (.lst (ts ++ us)) = He
          have se : Same Hd He := by rw [← hHe]; exact same_new nrl
          have hre : He rl = some (.lst (ts ++ us)) := by rw [← hHe]; exact upd_same
          have kre : IsKs K He ((rowsOf true ma ++ rowsOf false mb).map rowK) (ts ++ us) := by
            rw [List.map_append]
            exact IsKs.app (IsKs.keep (same_tup (scd.trans se)) _ _ ktc) (IsKs.keep (same_tup se) _ _ kud)
          walk_at "h"
          refine ⟨rl, _, _, rfl, sql hre, kre, fun a ha b hb => ?_, depthAll_le fun k hk => ?_, fun vs ls so pm so_ kv nso => ?_⟩
          · obtain ⟨a, _, rfl⟩ := List.mem_map.mp ha
            obtain ⟨b, _, rfl⟩ := List.mem_map.mp hb
            exact cm_row a b
          · obtain ⟨a, _, rfl⟩ := List.mem_map.mp hk
            have := depth_row a
            omega
          · obtain ⟨R, rfl, pR⟩ := rows_back pm
            generalize hHf : upd He so (.lst vs) = Hf
            have sf : Same He Hf := by rw [← hHf]; exact same_new nso
            have hf : Hf so = some (.lst vs) := by rw [← hHf]; exact upd_same
            walk_at "h"
            refine rd_tupL (sql hf) fun u nu => ?_
            have sall : Same Hc Hf := scd.trans (se.trans sf)
            have Df := Dc.keep sall
            have ff : Fr p H Hf := fc.trans (Fr.of sall)
            refine q R u _ ⟨?_, fun r hr => ?_⟩ (ff.back (Df.new nu).1 nu) ⟨u, vs, rfl, sqt upd_same, IsKs.keep (tup_new nu) _ _ (IsKs.keep (same_tup sf) _ _ kv)⟩ (Df.keep (same_new nu)) (ff.trans (Fr.new nu))
            · rw [pR.length_eq, List.length_append, rowsOf_len, rowsOf_len]; omega
            · rcases List.mem_append.mp (pR.mem_iff.mp hr) with z | z
              · exact oa.rows true r z
              · exact ob.rows false r z
end
end K41
namespace K41
open PySem PySem.Spec PyProof.Rows L2 HH
local macro_rules | `(tactic| walk_at "h1") => `(tactic| first
  | with_reducible refine rd_seq ?_ | with_reducible refine rd_asg ?_ | with_reducible refine rd_op ?_
  | ((with_reducible refine' rd_var ?hv ?_); (case hv => exact rfl)) | with_reducible refine rd_c ?_
  | ((with_reducible refine rd_name ?_); dsimp only [List.set_cons_zero, List.set_cons_succ])
  | with_reducible refine rd_I0 ?_ | ((with_reducible refine rd_pow ?_ ?_ ?_ ?_); (· decide); (· decide); (· decide)) | ((with_reducible refine rd_mod ?_ ?_); (· decide)) | ((with_reducible refine rd_mulR ?_ ?_ ?_); (· decide); (· decide)) | ((with_reducible refine rd_divW (n := 64) ?_ ?_ ?_ ?_ ?_); (· decide); (· decide); (· decide); (· decide)) | with_reducible refine rd_addI ?_ | with_reducible refine rd_eqI ?_ | with_reducible refine rd_eqS ?_ | with_reducible refine rd_eqB ?_ | with_reducible refine rd_ltI ?_
  | with_reducible refine rd_callS ?_ | with_reducible refine rd_xf ?_ | with_reducible refine rd_cons ?_ | with_reducible refine rd_nil ?_ | with_reducible refine rd_cb ?_ | with_reducible refine rd_call ?_
  | with_reducible refine rd_ifs ?_ | with_reducible refine rd_test ?_ | with_reducible refine rd_tB ?_ | with_reducible refine rd_blQ ?_ | with_reducible refine iteT ?_ | with_reducible refine iteF ?_ | with_reducible refine iteNotF ?_ | with_reducible refine iteNotT ?_
  | with_reducible refine rd_and ?_ | with_reducible refine rd_or ?_ | with_reducible refine rd_not ?_ | with_reducible refine rd_andV ?_ | with_reducible refine rd_orV ?_ | with_reducible refine rd_notV ?_ | with_reducible refine rd_if ?_
  | with_reducible refine rd_un ?_ | with_reducible refine rd_U ?_ | with_reducible refine rd_sub ?_ | with_reducible refine rd_tup ?_ | with_reducible refine rd_lst ?_
  | with_reducible refine rd_intI ?_ | with_reducible refine rd_absI ?_ | with_reducible refine rd_drop ?_ | with_reducible refine rd_ret ?_ | with_reducible refine rd_retN ?_ | with_reducible refine rd_next ?_ | with_reducible refine rd_bm ?_
  | with_reducible refine rd_tDGet2 ?_ | with_reducible refine rd_tDGet ?_ | with_reducible refine rd_sDPut ?_ | with_reducible refine rd_dnewK ?_ | with_reducible refine rd_nnew ?_ | with_reducible refine rd_nget ?_ | with_reducible refine rd_nget2 ?_ | with_reducible refine rd_npop ?_ | with_reducible refine rd_nput ?_ | with_reducible refine rd_dcn ?_ | with_reducible refine rd_gtup ?_ | with_reducible refine rd_gcons ?_ | with_reducible refine rd_gnil ?_ | with_reducible refine rd_lc ?_ | with_reducible refine rd_yes ?_ | with_reducible refine rd_for ?_ | with_reducible refine rd_iL ?_ | with_reducible refine rd_neS ?_ | with_reducible refine rd_neN ?_ | with_reducible refine rd_neB ?_ | with_reducible refine rd_chain ?_ | with_reducible refine rd_bm0 ?_ | with_reducible refine rd_dc ?_ | with_reducible refine rd_iN ?_ | with_reducible refine rd_iZ ?_ | with_reducible refine rd_ngetF ?_ | with_reducible refine rd_iT ?_ | with_reducible refine rd_iR1 ?_ | with_reducible refine rd_iS ?_ | with_reducible refine rd_leafS ?_ | with_reducible refine rd_sl ?_ | with_reducible refine rd_noPart ?_ | with_reducible refine rd_part ?_ | with_reducible refine rd_leafI ?_)
local macro_rules | `(tactic| walk_at "h") => `(tactic| repeat walk_at "h1")

section
variable {P : Program} {w : World} {K : PySem.W.Frag} {mg : Str → Option Value} {base : Heap}
theorem ok_givers {f : Addr} {fd : FuncData} (F : Fun K "givers" "givers" s_givers f fd) (T : Bi mg) : FnOk P w K mg base CX0 1 f fd ["names", "flat"] (spGivers K) := by
  refine F.ok sc_givers (fun vs H Q E h => ?_) (fun cdv A outer s H vs Q E hr h => ?_)
  · obtain ⟨nm, fl, xs, R, rfl, _⟩ := h
    rfl
  · obtain ⟨nm, fl, xs, R, rfl, hn, kR, rin, rn, nd, lx, q⟩ := h
    have hu := hu_of hr
    have hu20 := hu20_of hr
    have hu40 := hu40_of hr
    obtain ⟨_, vR, ea, sR, tR, nR⟩ := rows_at kR
    obtain rfl := V.ref.inj ea
    refine ⟨_, (pss_cons (ps_set (i := 3) sc_givers.nd rfl (.inr rfl) (pe_dc (own := [("name", 2)]) rfl sc_givers.nd (pi_or (pi_listK (K := K) (pv 0)) (pi_tupK (K := K) (pv 0))) (blkOk_by (N := N_givers) (sc := defScope s_givers) (by decide +kernel)) (fun _ _ _ _ _ => (pg_name (i := 2) sc_givers.nd rfl (.inl rfl))) (fun _ _ _ _ _ => pts_nil) (fun _ _ _ _ _ => (pv 2)) (fun _ _ _ _ _ => (pe_lst pa_nil))))
  (pss_cons (ps_setLc2 (i := 7) (own := [("_", 4), ("name", 2), ("product", 5), ("giver", 6)]) (vs1 := [6, 4]) rfl sc_givers.nd rfl rfl (sw_true rfl rfl rfl (by decide +kernel)) (pi_tup (pv 1)) (blkOk_by (N := N_givers) (sc := defScope s_givers) (by decide +kernel)) (by decide) (fun _ _ _ _ _ => (pg_tupK (K := K) 4 rfl (pgs_cons (pg_name (i := 4) sc_givers.nd rfl (.inl rfl)) (pgs_cons (pg_name (i := 2) sc_givers.nd rfl (.inl rfl)) (pgs_cons (pg_name (i := 4) sc_givers.nd rfl (.inl rfl)) (pgs_cons (pg_name (i := 5) sc_givers.nd rfl (.inl rfl)) pgs_nil)))))) (fun _ _ _ _ _ => pts_nil) (fun _ _ _ _ _ => (pi_tupK (K := K) (pv 5))) (fun _ _ _ _ _ => (pg_tupK (K := K) 2 rfl (pgs_cons (pg_name (i := 6) sc_givers.nd rfl (.inl rfl)) (pgs_cons (pg_name (i := 4) sc_givers.nd rfl (.inl rfl)) pgs_nil)))) (fun _ _ _ _ _ => pts_nil) (fun _ _ _ _ _ => (pe_tup (pa_cons (pv 2) (pa_cons (pv 6) pa_nil)))))
  (pss_cons (ps_while PassesOwn.never (pt_truth (pv 7) (by intro _; rfl)) (pss_cons (ps_asg (pe_bm0 PySem.F.plainAttrs_list PySem.F.slot_list_pop PySem.F.type_list_pop mt_pop (pv 7)) (pg_tupK (K := K) 2 rfl (pgs_cons (pg_name (i := 2) sc_givers.nd rfl (.inr rfl)) (pgs_cons (pg_name (i := 6) sc_givers.nd rfl (.inr rfl)) pgs_nil))))
  (pss_one (ps_if (pt_cmpR (op_ninU (P := P) (w := w) (K := K) hu20) (pv 6) (pe_dget hu (pv 3) (pv 2) (fun _ _ => rfl)) (by rfl)) (pss_cons (ps_expr (pe_bm PySem.F.plainAttrs_list PySem.F.slot_list_append PySem.F.type_list_append mt_append (pe_dget hu (pv 3) (pv 2) (fun _ _ => rfl)) (pa_cons (pv 6) pa_nil)))
  (pss_cons (ps_expr (pe_bm PySem.F.plainAttrs_list PySem.F.slot_list_extend PySem.F.type_list_extend mt_extend (pv 7) (pa_cons (pe_lc (own := [("further", 8)]) rfl sc_givers.nd (pi_list (pe_dget hu (pv 3) (pv 6) (fun _ _ => rfl))) (blkOk_by (N := N_givers) (sc := defScope s_givers) (by decide +kernel)) (fun _ _ _ _ _ => (pg_name (i := 8) sc_givers.nd rfl (.inl rfl))) (fun _ _ _ _ _ => pts_nil) (fun _ _ _ _ _ => (pe_tup (pa_cons (pv 2) (pa_cons (pv 8) pa_nil))))) pa_nil)))
  (pss_one (ps_expr (pe_bm PySem.F.plainAttrs_list PySem.F.slot_list_extend PySem.F.type_list_extend mt_extend (pv 7) (pa_cons (pe_lc (own := [("further", 8)]) rfl sc_givers.nd (pi_or (pi_listK (K := K) (pv 0)) (pi_tupK (K := K) (pv 0))) (blkOk_by (N := N_givers) (sc := defScope s_givers) (by decide +kernel)) (fun _ _ _ _ _ => (pg_name (i := 8) sc_givers.nd rfl (.inl rfl))) (fun _ _ _ _ _ => (pts_one (pt_cmpR (op_inU (P := P) (w := w) (K := K) hu20) (pv 2) (pe_dget hu (pv 3) (pv 8) (fun _ _ => rfl)) (by rfl)))) (fun _ _ _ _ _ => (pe_tup (pa_cons (pv 8) (pa_cons (pv 6) pa_nil))))) pa_nil)))))) pss_nil))))
  (pss_one (ps_ret (pv 3)))))), ?_⟩
    rw [show L2.start N_givers [V.ref nm, V.ref fl] = [some (V.ref nm), some (V.ref fl), none, none, none, none, none, none, none] from rfl]
    (try dsimp only [cxOf, Cx.nox, Cx.wish])
    walk_at "h"
    refine rd_iO rfl hn fun J G gs wk => ?_
    rw [List.length_map] at wk
    intro d nd0
    refine dc_itW wk [some (V.ref nm), some (V.ref fl), none, none, none, none, none, none, none] rfl (fun i H' => Same H H' ∧ ∃ ad : Str → Addr, H' d = some (.dK ((xs.take i).map fun x => (Sum.inr x, V.ref (ad x)))) ∧ (∀ x ∈ xs.take i, H' (ad x) = some (.lst []) ∧ H (ad x) = none) ∧ ∀ x ∈ xs.take i, ∀ y ∈ xs.take i, ad x = ad y → x = y)
      ⟨same_new nd0, fun _ => 0, upd_same, by simp, by simp⟩ (fun i H' _ h => gs _ h.1) ?_ ?_
    · rintro i x H1 H1' hi ⟨s1, ad, hd1, al, inj⟩ ⟨rfl, hx⟩
      have hx0 : x = V.str xs[i] := by
        rw [List.getElem?_map, List.getElem?_eq_getElem hi] at hx
        exact (Option.some.inj hx).symm
      subst hx0
      walk_at "h"
      refine ⟨rfl, ?_⟩
      walk_at "h"
      refine ⟨Nat.zero_le _, fun l nl => ?_⟩
      have hnew : xs[i] ∉ xs.take i := fun m => by
        obtain ⟨j, hj, e⟩ := List.getElem_of_mem m
        rw [List.length_take] at hj
        rw [List.getElem_take] at e
        exact (List.pairwise_iff_getElem.mp nd) j i (by omega) hi (by omega) e
      have dl : d ≠ l := ne_of_none hd1 nl
      refine ⟨_, Sum.inr xs[i], rfl, by rw [upd_ne dl]; exact hd1, by rw [List.length_map, List.length_take]; exact sz_lt (by omega), same_mut (s1.trans (same_new nl)) nd0, fun y => if y = xs[i] then l else ad y, ?_, fun y hy => ?_, fun y hy z hz e => ?_⟩
      · rw [upd_same, putK_dl hnew, List.take_add_one, List.getElem?_eq_getElem hi]
        rfl
      · rw [List.take_add_one, List.getElem?_eq_getElem hi, Option.toList_some] at hy
        dsimp only
        by_cases c : y = xs[i]
        · rw [if_pos c, upd_ne dl.symm, upd_same]
          exact ⟨rfl, s1.free nl⟩
        · rw [if_neg c]
          have hy' : y ∈ xs.take i := by
            rcases List.mem_append.mp hy with z | z
            · exact z
            · exact absurd (List.mem_singleton.mp z) c
          obtain ⟨a1, a2⟩ := al y hy'
          have n1 : ad y ≠ d := fun z => by rw [z, hd1] at a1; cases a1
          exact ⟨by rw [upd_ne n1, upd_ne (ne_of_none a1 nl)]; exact a1, a2⟩
      · rw [List.take_add_one, List.getElem?_eq_getElem hi, Option.toList_some] at hy hz
        have cs : ∀ {u : Str}, u ∈ xs.take i ++ [xs[i]] → u ≠ xs[i] → u ∈ xs.take i := fun {u} m c => by
          rcases List.mem_append.mp m with z | z
          · exact z
          · exact absurd (List.mem_singleton.mp z) c
        dsimp only at e
        by_cases cy : y = xs[i]
        · by_cases cz : z = xs[i]
          · rw [cy, cz]
          · rw [if_pos cy, if_neg cz] at e
            have := (al z (cs hz cz)).1
            rw [← e, nl] at this
            cases this
        · by_cases cz : z = xs[i]
          · rw [if_neg cy, if_pos cz] at e
            have := (al y (cs hy cy)).1
            rw [e, nl] at this
            cases this
          · rw [if_neg cy, if_neg cz] at e
            exact inj y (cs hy cy) z (cs hz cz) e
    · rintro H1 ⟨s1, ad, hd1, al, inj⟩
      rw [List.take_length] at hd1 al inj
      have D1 : DL H1 d xs ad (fun _ => []) := ⟨hd1, fun x hx => (al x hx).1, inj⟩
      have fr : ∀ x ∈ xs, H (ad x) = none := fun x hx => (al x hx).2
      clear al inj
      walk_at "h"
      refine rd_lc2 ?_
      walk_at "h"
      refine rd_leafT (same_tup s1 _ _ sR) fun tl ntl => ?_
      have tl0 : H tl = none := s1.free ntl
      refine lc2_tupW (xs := vR) [some (V.ref nm), some (V.ref fl), none, some (V.ref d), none, none, none, none, none] rfl (fun i H' => Same H1 H' ∧ ∃ T : PR, H' tl = some (.lst (refsR T)) ∧ T.map (·.2) = prs0 (R.take i) ∧ PRs K H' T) ⟨same_new ntl, [], upd_same, rfl, by simp [PRs]⟩ (fun i H' _ h => same_tup (s1.trans h.1) _ _ sR) ?_ ?_
      · rintro i x H2 hx ⟨s2, T, ht, eT, pT⟩
        have hi : i < R.length := by rw [← nR]; exact (List.getElem?_eq_some_iff.mp hx).1
        obtain ⟨x', ex, kx⟩ := IsKs.get (i := i) (k := rowK R[i]) tR (by rw [List.getElem?_map, List.getElem?_eq_getElem hi]; rfl)
        obtain rfl : x = x' := Option.some.inj (hx.symm.trans ex)
        obtain ⟨ra, pa, rfl, sr, kp⟩ := row_at kx
        obtain ⟨pa', ws, epa, sp, kws, nws⟩ := prod_at kp
        obtain rfl := V.ref.inj epa
        have s12 := s1.trans s2
        have tp := same_tup (K := K) s12
        walk_at "h"
        refine ⟨ra, _, rfl, tp _ _ sr, rfl, ?_⟩
        walk_at "h"
        refine ⟨rfl, ?_⟩
        walk_at "h"
        refine rd_leafT (tp _ _ sp) ?_
        refine in_tup (ys := ws) [some (V.ref nm), some (V.ref fl), some (V.str R[i].nm), some (V.ref d), none, some (V.ref pa), none, none, none] rfl (fun j H' => Same H1 H' ∧ ∃ T : PR, H' tl = some (.lst (refsR T)) ∧ T.map (·.2) = prs0 (R.take i) ++ (R[i].ps.take j).map (fun q => (R[i].nm, q.1)) ∧ PRs K H' T) ⟨s2, T, ht, by rw [List.take_zero, List.map_nil, List.append_nil]; exact eT, pT⟩ (fun j H' h => same_tup (s1.trans h.1) _ _ sp) ?_ ?_
        · rintro j y H3 hy ⟨s3, T, ht, eT, pT⟩
          have hj : j < R[i].ps.length := by rw [← nws]; exact (List.getElem?_eq_some_iff.mp hy).1
          obtain ⟨qa, rfl, sq⟩ := pair_get kws hj hy
          walk_at "h"
          refine ⟨qa, _, rfl, same_tup (s1.trans s3) _ _ sq, rfl, ?_⟩
          walk_at "h"
          refine ⟨rfl, ?_⟩
          walk_at "h"
          refine ⟨sz_le (by simp only [List.length_cons, List.length_nil]; omega), fun u nu => ?_⟩
          have nut : tl ≠ u := ne_of_none ht nu
          have lT : T.length ≤ 1000 := by
            have h1 := congrArg List.length eT
            rw [List.length_map, List.length_append, List.length_map, List.length_take] at h1
            have h2 := len_prs0 rin.1 rin.2 i
            have h3 := rin.2 _ (List.getElem_mem hi)
            have := rin.1
            omega
          have tw : Tup K H3 (upd (upd H3 u (.tup [V.str R[i].nm, V.str R[i].ps[j].1])) tl (.lst (refsR T ++ [V.ref u]))) := (tup_new nu).trans (tup_upd (o := .lst (refsR T)) (by rw [upd_ne nut]; exact ht) (fun _ z => nomatch z) (fun _ _ z => nomatch z))
          refine ⟨refsR T, by rw [upd_ne nut]; exact ht, by rw [List.length_map]; exact sz_lt (by omega), same_mut (s3.trans (same_new nu)) ntl, T ++ [(u, R[i].nm, R[i].ps[j].1)], by rw [upd_same]; simp [refsR], ?_, fun q hq => ?_⟩
          · rw [List.map_append, eT, List.take_add_one, List.getElem?_eq_getElem hj, Option.toList_some, List.map_append, List.append_assoc]; rfl
          · rcases List.mem_append.mp hq with z | z
            · exact tw _ _ (pT q z)
            · rw [List.mem_singleton.mp z]
              exact sqt (by rw [upd_ne nut.symm, upd_same])
        · rintro H3 ⟨s3, T, ht, eT, pT⟩
          rw [nws, List.take_length, ← prs0_snoc R hi] at eT
          exact ⟨s3, T, ht, eT, pT⟩
      · rintro H2 ⟨s2, T0, ht, eT, pT⟩
        rw [nR, List.take_length] at eT
        have D2 := D1.keep s2
        have tld : tl ≠ d := fun z => by rw [z, D1.d] at ntl; cases ntl
        have tla : ∀ x ∈ xs, tl ≠ ad x := fun x hx z => by rw [z, D1.l x hx] at ntl; cases ntl
        have hx10 : tot xs (fun _ => ([] : List Str)) = 0 := by
          have := tot_le (xs := xs) (L := fun _ => ([] : List Str)) (n := 0) (fun x _ => Nat.le_refl _)
          omega
        walk_at "h"
        refine ⟨fun m σ H' => ∃ (L : Str → List Str) (T : PR) (v2 v4 v5 v6 v8 : Option V), σ = [some (V.ref nm), some (V.ref fl), v2, some (V.ref d), v4, v5, v6, some (V.ref tl), v8] ∧ DL H' d xs ad L ∧ H' tl = some (.lst (refsR T)) ∧ PRs K H' T ∧ CL R xs L (T.map (·.2)) ∧ m = T.length + 21 * (100 - tot xs L) ∧ m ≤ 3000 ∧ Same H H', ⟨_, fun _ => [], T0, _, _, _, _, _, rfl, D2, ht, pT, by rw [eT]; exact CL.begin rn, rfl, ?_, s1.trans s2⟩, ?_⟩
        · have h1 := len_prs0 rin.1 rin.2 R.length
          rw [List.take_length, ← eT, List.length_map] at h1
          have := rin.1
          omega
        · clear D2 eT pT ht hx10 s2
          rintro m σ H3 ⟨L, T, v2, v4, v5, v6, v8, rfl, D3, ht, pT, cl, em, bm, s3⟩
          have lT : T.length ≤ 3000 := by omega
          have tl10 : tot xs L ≤ 100 := by
            have h1 := tot_le (xs := xs) (L := L) (n := xs.length) (fun x hx => cl.len hx)
            have h2 : xs.length * xs.length ≤ 10 * 10 := Nat.mul_le_mul lx lx
            omega
          walk_at "h"
          refine ⟨!(refsR T).isEmpty, .inl ⟨_, sql ht, rfl⟩, ?_⟩
          rcases List.eq_nil_or_concat T with rfl | ⟨T', pr, rfl⟩
          · rw [show (!(refsR []).isEmpty) = false from rfl]
            walk_at "h"
            exact q d ad L H3 D3 (fun x hx g => cl.done rn hx) (fun x hx => by have := cl.len hx; omega) s3
          · obtain ⟨pa, x, g⟩ := pr
            rw [List.concat_eq_append] at *
            rw [show (!(refsR (T' ++ [(pa, x, g)])).isEmpty) = true by simp [refsR]]
            rw [if_pos rfl]
            refine ⟨fun σ' H'' => ∃ (L : Str → List Str) (T : PR) (v2 v4 v5 v6 v8 : Option V), σ' = [some (V.ref nm), some (V.ref fl), v2, some (V.ref d), v4, v5, v6, some (V.ref tl), v8] ∧ DL H'' d xs ad L ∧ H'' tl = some (.lst (refsR T)) ∧ PRs K H'' T ∧ CL R xs L (T.map (·.2)) ∧ T.length + 21 * (100 - tot xs L) < m ∧ Same H H'', fun σ' H'' ⟨L, T, v2, v4, v5, v6, v8, e, h1, h2, h3, h4, h5, h6⟩ => ⟨_, h5, L, T, v2, v4, v5, v6, v8, e, h1, h2, h3, h4, rfl, by omega, h6⟩, ?_⟩
            have hT : H3 tl = some (.lst (refsR T' ++ [V.ref pa])) := by rw [ht]; simp [refsR]
            have spa := pT (pa, x, g) (List.mem_append_right _ List.mem_cons_self)
            have cl0 : CL R xs L (T'.map (·.2) ++ [(x, g)]) := by simpa using cl
            obtain ⟨xm, gm, _⟩ := cl0.td (x, g) (List.mem_append_right _ List.mem_cons_self)
            dsimp only at xm gm
            walk_at "h"
            refine ⟨.inl ⟨rfl, _, sql hT⟩, ?_⟩
            refine ⟨tl, _, V.ref pa, rfl, rfl, hT, by simp, ?_⟩
            rw [List.dropLast_concat]
            generalize hH4 : upd H3 tl (.lst (refsR T')) = H4
            have h4 : H4 tl = some (.lst (refsR T')) := by rw [← hH4]; exact upd_same
            have t4 : Tup K H3 H4 := by rw [← hH4]; exact tup_upd hT (fun _ z => nomatch z) (fun _ _ z => nomatch z)
            have D4 : DL H4 d xs ad L := by rw [← hH4]; exact D3.oth tld tla
            have s4 : Same H H4 := by rw [← hH4]; exact same_mut s3 tl0
            have p4 : PRs K H4 T' := fun q hq => t4 _ _ (pT q (List.mem_append_left _ hq))
            walk_at "h"
            refine ⟨pa, _, rfl, t4 _ _ spa, rfl, ?_⟩
            walk_at "h"
            refine ⟨d, _, rfl, D4.get xm, ?_⟩
            refine rd_ninS (sql (D4.l x xm)) ?_
            walk_at "h"
            cases c : decide (g ∈ L x) with
            | true =>
              walk_at "h"
              refine ⟨L, T', _, _, _, _, _, rfl, D4, h4, p4, cl0.skip (of_decide_eq_true c), ?_, s4⟩
              rw [em, List.length_append, List.length_singleton]
              omega
            | false =>
              have c' : g ∉ L x := of_decide_eq_false c
              walk_at "h"
              refine ⟨d, _, rfl, D4.get xm, ?_⟩
              refine ⟨.inl ⟨rfl, _, sql (D4.l x xm)⟩, ?_⟩
              walk_at "h"
              have lLx := cl0.len xm
              refine rd_app (D4.l x xm) (by rw [List.length_map]; exact sz_lt (by omega)) ?_
              have D5 := D4.app xm g
              generalize hH5 : upd H4 (ad x) (.lst ((L x).map V.str ++ [V.str g])) = H5 at D5
              have h5 : H5 tl = some (.lst (refsR T')) := by rw [← hH5, upd_ne (tla x xm)]; exact h4
              have t5 : Tup K H4 H5 := by rw [← hH5]; exact tup_upd (D4.l x xm) (fun _ z => nomatch z) (fun _ _ z => nomatch z)
              have s5 : Same H H5 := by rw [← hH5]; exact same_mut s4 (fr x xm)
              have cl1 := cl0.step c' rfl rfl
              have tot1 : tot xs (addL L x g) = tot xs L + 1 := tot_add nd xm
              have tot2 : tot xs (addL L x g) ≤ 100 := by
                have h1 := tot_le (xs := xs) (L := addL L x g) (n := xs.length) (fun x hx => cl1.len hx)
                have h2 : xs.length * xs.length ≤ 10 * 10 := Nat.mul_le_mul lx lx
                omega
              have lLg := cl1.len gm
              walk_at "h"
              refine ⟨.inl ⟨rfl, _, sql h5⟩, ?_⟩
              walk_at "h"
              refine ⟨d, _, rfl, D5.get gm, ?_⟩
              refine ⟨_, rfl, ⟨_, sql (D5.l g gm)⟩, ?_⟩
              intro e1 ne1
              have e1t : tl ≠ e1 := ne_of_none h5 ne1
              refine lc_listW (xs := (addL L x g g).map V.str) [some (V.ref nm), some (V.ref fl), some (V.str x), some (V.ref d), v4, v5, some (V.str g), some (V.ref tl), none] rfl
                (fun i H' => Same H5 H' ∧ ∃ A : PR, H' e1 = some (.lst (refsR A)) ∧ A.map (·.2) = ((addL L x g g).take i).map (fun f => (x, f)) ∧ PRs K H' A) ⟨same_new ne1, [], upd_same, by simp, by simp [PRs]⟩ (fun i H' _ h => sql (h.1 _ _ (D5.l g gm))) ?_ ?_
              · rintro i y H6 hy ⟨s6, A, hA, eA, pA⟩
                have hi : i < (addL L x g g).length := by
                  have := (List.getElem?_eq_some_iff.mp hy).1
                  simpa using this
                obtain rfl : y = V.str (addL L x g g)[i] := by
                  rw [List.getElem?_map, List.getElem?_eq_getElem hi] at hy
                  exact (Option.some.inj hy).symm
                walk_at "h"
                refine ⟨rfl, ?_⟩
                walk_at "h"
                refine ⟨sz_le (by simp only [List.length_cons, List.length_nil]; omega), fun u nu => ?_⟩
                have nue : e1 ≠ u := ne_of_none hA nu
                have lA : A.length = i := by
                  have h1 := congrArg List.length eA
                  rw [List.length_map, List.length_map, List.length_take] at h1
                  omega
                have tw : Tup K H6 (upd (upd H6 u (.tup [V.str x, V.str (addL L x g g)[i]])) e1 (.lst (refsR A ++ [V.ref u]))) := (tup_new nu).trans (tup_upd (o := .lst (refsR A)) (by rw [upd_ne nue]; exact hA) (fun _ z => nomatch z) (fun _ _ z => nomatch z))
                refine ⟨refsR A, by rw [upd_ne nue]; exact hA, by rw [List.length_map]; exact sz_lt (by omega), same_mut (s6.trans (same_new nu)) ne1, A ++ [(u, x, (addL L x g g)[i])], by rw [upd_same]; simp [refsR], ?_, fun q hq => ?_⟩
                · rw [List.map_append, eA, List.take_add_one, List.getElem?_eq_getElem hi, Option.toList_some, List.map_append]; rfl
                · rcases List.mem_append.mp hq with z | z
                  · exact tw _ _ (pA q z)
                  · rw [List.mem_singleton.mp z]
                    exact sqt (by rw [upd_ne nue.symm, upd_same])
              · rintro H6 ⟨s6, A, hA, eA, pA⟩
                rw [List.length_map, List.take_length] at eA
                have lA : A.length ≤ 10 := by
                  have h1 := congrArg List.length eA
                  rw [List.length_map, List.length_map] at h1
                  omega
                walk_at "h"
                refine ⟨tl, e1, _, _, rfl, rfl, s6 _ _ h5, hA, sz_le (by rw [List.length_map, List.length_map]; simp at lT; omega), ?_⟩
                have h6 := s6 _ _ h5
                rw [← List.map_append]
                generalize hH7 : upd H6 tl (.lst (refsR (T' ++ A))) = H7
                have h7 : H7 tl = some (.lst (refsR (T' ++ A))) := by rw [← hH7]; exact upd_same
                have t7 : Tup K H6 H7 := by rw [← hH7]; exact tup_upd h6 (fun _ z => nomatch z) (fun _ _ z => nomatch z)
                have D7 : DL H7 d xs ad (addL L x g) := by rw [← hH7]; exact (D5.keep s6).oth tld tla
                have s7 : Same H H7 := by rw [← hH7]; exact same_mut (s5.trans s6) tl0
                have p7 : PRs K H7 (T' ++ A) := fun q hq => by
                  rcases List.mem_append.mp hq with z | z
                  · exact t7 _ _ (same_tup s6 _ _ (t5 _ _ (p4 q z)))
                  · exact t7 _ _ (pA q z)
                walk_at "h"
                refine ⟨.inl ⟨rfl, _, sql h7⟩, ?_⟩
                walk_at "h"
                refine rd_iO rfl (hn.imp (fun z => same_seq s7 z) (fun z => same_tup s7 _ _ z)) fun J G gs wk => ?_
                rw [List.length_map] at wk
                intro e2 ne2
                have e2t : tl ≠ e2 := ne_of_none h7 ne2
                refine lc_itW wk [some (V.ref nm), some (V.ref fl), some (V.str x), some (V.ref d), v4, v5, some (V.str g), some (V.ref tl), none] rfl
                  (fun i H' => Same H7 H' ∧ ∃ B : PR, H' e2 = some (.lst (refsR B)) ∧ B.length ≤ i ∧ B.map (·.2) = ((xs.take i).filter fun f => decide (x ∈ addL L x g f)).map (fun f => (f, g)) ∧ PRs K H' B) ⟨same_new ne2, [], upd_same, Nat.le_refl _, by simp, by simp [PRs]⟩ (fun i H' _ h => gs _ h.1) ?_ ?_
                · rintro i y H8 H8' hi ⟨s8, B, hB, lB, eB, pB⟩ ⟨rfl, hy⟩
                  have hy0 : y = V.str xs[i] := by
                    rw [List.getElem?_map, List.getElem?_eq_getElem hi] at hy
                    exact (Option.some.inj hy).symm
                  subst hy0
                  have D8 := D7.keep s8
                  walk_at "h"
                  refine ⟨rfl, ?_⟩
                  walk_at "h"
                  refine ⟨d, _, rfl, D8.get (List.getElem_mem hi), ?_⟩
                  refine rd_inS (sql (D8.l _ (List.getElem_mem hi))) ?_
                  walk_at "h"
                  have eF : ((xs.take (i + 1)).filter fun f => decide (x ∈ addL L x g f)) = ((xs.take i).filter fun f => decide (x ∈ addL L x g f)) ++ if x ∈ addL L x g xs[i] then [xs[i]] else [] := by
                    rw [List.take_add_one, List.getElem?_eq_getElem hi, Option.toList_some, List.filter_append]
                    congr 1
                    by_cases w : x ∈ addL L x g xs[i]
                    · rw [if_pos w, List.filter_cons, if_pos (decide_eq_true w)]; rfl
                    · rw [if_neg w, List.filter_cons, if_neg (by simpa using w)]; rfl
                  refine ite2 (fun w => ?_) (fun w => ?_)
                  · have w' := of_decide_eq_true w
                    rw [if_pos w'] at eF
                    walk_at "h"
                    refine ⟨sz_le (by simp only [List.length_cons, List.length_nil]; omega), fun u nu => ?_⟩
                    have nue : e2 ≠ u := ne_of_none hB nu
                    have tw : Tup K H8' (upd (upd H8' u (.tup [V.str xs[i], V.str g])) e2 (.lst (refsR B ++ [V.ref u]))) := (tup_new nu).trans (tup_upd (o := .lst (refsR B)) (by rw [upd_ne nue]; exact hB) (fun _ z => nomatch z) (fun _ _ z => nomatch z))
                    refine ⟨refsR B, by rw [upd_ne nue]; exact hB, by rw [List.length_map]; exact sz_lt (by omega), same_mut (s8.trans (same_new nu)) ne2, B ++ [(u, xs[i], g)], by rw [upd_same]; simp [refsR], by rw [List.length_append]; exact Nat.succ_le_succ lB, ?_, fun q hq => ?_⟩
                    · rw [List.map_append, eB, eF, List.map_append]; rfl
                    · rcases List.mem_append.mp hq with z | z
                      · exact tw _ _ (pB q z)
                      · rw [List.mem_singleton.mp z]
                        exact sqt (by rw [upd_ne nue.symm, upd_same])
                  · have w' : x ∉ addL L x g xs[i] := fun z => w (decide_eq_true z)
                    rw [if_neg w', List.append_nil] at eF
                    exact ⟨s8, B, hB, by omega, by rw [eB, eF], pB⟩
                · rintro H8 ⟨s8, B, hB, lB, eB, pB⟩
                  rw [List.take_length] at eB
                  walk_at "h"
                  have h8 := s8 _ _ h7
                  refine ⟨tl, e2, _, _, rfl, rfl, h8, hB, sz_le (by rw [List.length_map, List.length_map, List.length_append]; simp at lT; omega), ?_⟩
                  rw [← List.map_append]
                  walk_at "h"
                  refine ⟨addL L x g, T' ++ A ++ B, _, _, _, _, _, rfl, (D7.keep s8).oth tld tla, upd_same, fun q hq => ?_, ?_, ?_, same_mut (s7.trans s8) tl0⟩
                  · have tw : Tup K H8 (upd H8 tl (.lst (refsR (T' ++ A ++ B)))) := tup_upd h8 (fun _ z => nomatch z) (fun _ _ z => nomatch z)
                    rcases List.mem_append.mp hq with z | z
                    · exact tw _ _ (same_tup s8 _ _ (p7 q z))
                    · exact tw _ _ (pB q z)
                  · rw [List.map_append, List.map_append, eA, eB]; exact cl1
                  · rw [em, List.length_append, List.length_append, List.length_append, List.length_singleton]
                    omega
end
end K41
namespace K41
open PySem PySem.Spec PyProof.Rows L2 HH
local macro_rules | `(tactic| walk_at "h1") => `(tactic| first
  | with_reducible refine rd_seq ?_ | with_reducible refine rd_asg ?_ | with_reducible refine rd_op ?_
  | ((with_reducible refine' rd_var ?hv ?_); (case hv => exact rfl)) | with_reducible refine rd_c ?_
  | ((with_reducible refine rd_name ?_); dsimp only [List.set_cons_zero, List.set_cons_succ])
  | with_reducible refine rd_I0 ?_ | ((with_reducible refine rd_pow ?_ ?_ ?_ ?_); (· decide); (· decide); (· decide)) | ((with_reducible refine rd_mod ?_ ?_); (· decide)) | ((with_reducible refine rd_mulR ?_ ?_ ?_); (· decide); (· decide)) | ((with_reducible refine rd_divW (n := 64) ?_ ?_ ?_ ?_ ?_); (· decide); (· decide); (· decide); (· decide)) | with_reducible refine rd_addI ?_ | with_reducible refine rd_eqI ?_ | with_reducible refine rd_eqS ?_ | with_reducible refine rd_eqB ?_ | with_reducible refine rd_ltI ?_
  | with_reducible refine rd_callS ?_ | with_reducible refine rd_xf ?_ | with_reducible refine rd_cons ?_ | with_reducible refine rd_nil ?_ | with_reducible refine rd_cb ?_ | with_reducible refine rd_call ?_
  | with_reducible refine rd_ifs ?_ | with_reducible refine rd_test ?_ | with_reducible refine rd_tB ?_ | with_reducible refine rd_blQ ?_ | with_reducible refine iteT ?_ | with_reducible refine iteF ?_ | with_reducible refine iteNotF ?_ | with_reducible refine iteNotT ?_
  | with_reducible refine rd_and ?_ | with_reducible refine rd_or ?_ | with_reducible refine rd_not ?_ | with_reducible refine rd_andV ?_ | with_reducible refine rd_orV ?_ | with_reducible refine rd_notV ?_ | with_reducible refine rd_if ?_
  | with_reducible refine rd_un ?_ | with_reducible refine rd_U ?_ | with_reducible refine rd_sub ?_ | with_reducible refine rd_tup ?_ | with_reducible refine rd_lst ?_
  | with_reducible refine rd_intI ?_ | with_reducible refine rd_absI ?_ | with_reducible refine rd_drop ?_ | with_reducible refine rd_ret ?_ | with_reducible refine rd_retN ?_ | with_reducible refine rd_next ?_ | with_reducible refine rd_bm ?_
  | with_reducible refine rd_tDGet2 ?_ | with_reducible refine rd_tDGet ?_ | with_reducible refine rd_sDPut ?_ | with_reducible refine rd_dnewK ?_ | with_reducible refine rd_nnew ?_ | with_reducible refine rd_nget ?_ | with_reducible refine rd_nget2 ?_ | with_reducible refine rd_npop ?_ | with_reducible refine rd_nput ?_ | with_reducible refine rd_dcn ?_ | with_reducible refine rd_gtup ?_ | with_reducible refine rd_gcons ?_ | with_reducible refine rd_gnil ?_ | with_reducible refine rd_lc ?_ | with_reducible refine rd_yes ?_ | with_reducible refine rd_for ?_ | with_reducible refine rd_iL ?_ | with_reducible refine rd_neS ?_ | with_reducible refine rd_neN ?_ | with_reducible refine rd_neB ?_ | with_reducible refine rd_chain ?_ | with_reducible refine rd_bm0 ?_ | with_reducible refine rd_dc ?_ | with_reducible refine rd_iN ?_ | with_reducible refine rd_iZ ?_ | with_reducible refine rd_ngetF ?_ | with_reducible refine rd_iT ?_ | with_reducible refine rd_iR1 ?_ | with_reducible refine rd_iS ?_ | with_reducible refine rd_leafS ?_ | with_reducible refine rd_sl ?_ | with_reducible refine rd_noPart ?_ | with_reducible refine rd_part ?_ | with_reducible refine rd_leafI ?_)
local macro_rules | `(tactic| walk_at "h") => `(tactic| repeat walk_at "h1")

section
variable {P : Program} {w : World} {K : PySem.W.Frag} {mg : Str → Option Value} {base : Heap}
theorem ok_parts {f : Addr} {fd : FuncData} (F : Fun K "parts" "parts" s_parts f fd) (T : Bi mg) (G_givers : Callee P w K mg base 1 "givers" ["names", "flat"] (spGivers K)) : FnOk P w K mg base CX0 2 f fd ["names", "flat"] (spParts K) := by
  refine F.ok (k := 1) sc_parts (fun vs H Q E h => ?_) (fun cdv A outer s H vs Q E hr h => ?_)
  · obtain ⟨nm, fl, xs, R, rfl, _⟩ := h
    rfl
  · obtain ⟨nm, fl, xs, R, rfl, hn, kR, rin, rn, so, low, lx, q⟩ := h
    have hu := hu_of hr
    have hu20 := hu20_of hr
    have hu40 := hu40_of hr
    have hu65 := hu65_of hr
    obtain ⟨f_givers, fd_givers, F_givers, m_givers, k_givers, b_givers⟩ := G_givers
    have nd : xs.Nodup := strict_nodup so
    refine ⟨_, (pss_cons (ps_set (i := 2) sc_parts.nd rfl (.inr rfl) (pe_call F_givers (hr.mono (by decide)) (by rfl) m_givers k_givers b_givers .nil pass0 (pa_cons (pv 0) (pa_cons (pv 1) pa_nil))))
  (pss_cons (ps_set (i := 3) sc_parts.nd rfl (.inl rfl) (pe_lst pa_nil))
  (pss_cons (ps_for PassesOwn.never rfl (pi_or (pi_listK (K := K) (pv 0)) (pi_tupK (K := K) (pv 0))) (pg_name (i := 4) sc_parts.nd rfl (.inr rfl))
    (pss_cons (ps_set (i := 6) sc_parts.nd rfl (.inl rfl) (pe_callTy (call_tupZ (K := K)) (by rfl) T.tuple_ (by decide +kernel) (pa_cons (pe_lc (own := [("other", 5)]) rfl sc_parts.nd (pi_or (pi_listK (K := K) (pv 0)) (pi_tupK (K := K) (pv 0))) (blkOk_by (N := N_parts) (sc := defScope s_parts) (by decide +kernel)) (fun _ _ _ _ _ => (pg_name (i := 5) sc_parts.nd rfl (.inl rfl))) (fun _ _ _ _ _ => (pts_one (PW.pt (pw_or (pt_cmpR (op_eqU (K := K) hu40) (pv 5) (pv 4) (nomark _)) (pw_or1 (PW.pt (pw_and (pt_cmpR (op_inU (P := P) (w := w) (K := K) hu20) (pv 5) (pe_dget hu (pv 2) (pv 4) (fun _ _ => rfl)) (by rfl)) (pw_and1 (pt_cmpR (op_inU (P := P) (w := w) (K := K) hu20) (pv 4) (pe_dget hu (pv 2) (pv 5) (fun _ _ => rfl)) (by rfl)))))))))) (fun _ _ _ _ _ => (pv 5))) pa_nil)))
  (pss_one (ps_if (pt_cmpR (op_notInDK (K := K) hu65) (pv 6) (pv 3) (by rfl)) (pss_one (ps_expr (pe_bm PySem.F.plainAttrs_list PySem.F.slot_list_append PySem.F.type_list_append mt_append (pv 3) (pa_cons (pv 6) pa_nil)))) pss_nil))))
  (pss_cons (ps_set (i := 7) sc_parts.nd rfl (.inl rfl) (pe_lst pa_nil))
  (pss_cons (ps_set (i := 8) sc_parts.nd rfl (.inr rfl) (pe_lst pa_nil))
  (pss_cons (ps_while PassesOwn.never (pt_truth (pv 3) (by intro _; rfl)) (pss_cons (ps_setLc (i := 10) (own := [("part", 6)]) rfl sc_parts.nd rfl rfl (sw_true rfl rfl rfl (by decide +kernel)) (pi_list (pv 3)) (blkOk_by (N := N_parts) (sc := defScope s_parts) (by decide +kernel)) (fun _ _ _ _ _ => (pg_name (i := 6) sc_parts.nd rfl (.inr rfl))) (fun _ _ _ _ _ => (pts_one (pt_val (pe_callB (cr_allK (K := K) rfl) (by rfl) T.all_ (by decide +kernel) (pa_cons (pe_lc (own := [("giver", 9)]) rfl sc_parts.nd (pi_listK (K := K) (pe_dget hu (pv 2) (pe_ix (ix_tupK (K := K)) (pv 6) pe_int (fun _ _ => rfl)) (fun _ _ => rfl))) (blkOk_by (N := N_parts) (sc := relS { kind := ScopeKind.function, names := [(Str.ofString ".0", NameKind.local), (Str.ofString "part", NameKind.cell), (Str.ofString "all", NameKind.globalImplicit), (Str.ofString "behind", NameKind.free), (Str.ofString "placed", NameKind.free)], isGenerator := false, isCoroutine := false } (defScope s_parts)) (by decide +kernel)) (fun _ _ _ _ _ => (pg_name (i := 9) sc_parts.nd rfl (.inl rfl))) (fun _ _ _ _ _ => pts_nil) (fun _ _ _ _ _ => (pe_or (pe_cmpR (op_inU (P := P) (w := w) (K := K) hu20) (pv 9) (pv 8) (by rfl)) (pe_one (pe_cmpR (op_inU (P := P) (w := w) (K := K) hu20) (pv 9) (pv 6) (by rfl)))))) pa_nil))))) (fun _ _ _ _ _ => (pv 6)))
  (pss_cons (ps_set (i := 11) sc_parts.nd rfl (.inl rfl) (pe_callB (cr_minP (K := K) hu20 rfl) (by rfl) T.min_ (by decide +kernel) (pa_cons (pv 10) pa_nil)))
  (pss_cons (ps_expr (pe_bm PySem.F.plainAttrs_list PySem.F.slot_list_append PySem.F.type_list_append mt_append (pv 7) (pa_cons (pv 11) pa_nil)))
  (pss_cons (ps_expr (pe_bm PySem.F.plainAttrs_list PySem.F.slot_list_extend PySem.F.type_list_extend mt_extendZ (pv 8) (pa_cons (pv 11) pa_nil)))
  (pss_one (ps_expr (pe_bm PySem.F.plainAttrs_list PySem.F.slot_list_remove PySem.F.type_list_remove (mt_remP (K := K) hu20) (pv 3) (pa_cons (pv 11) pa_nil)))))))))
  (pss_one (ps_ret (pv 7))))))))), ?_⟩
    rw [show L2.start N_parts [V.ref nm, V.ref fl] = [some (V.ref nm), some (V.ref fl), none, none, none, none, none, none, none, none, none, none] from rfl]
    (try dsimp only [cxOf, Cx.nox, Cx.wish])
    walk_at "h"
    refine ⟨nm, fl, xs, R, rfl, hn, kR, rin, rn, nd, lx, fun d ad L H1 D1 hTC hL s1 => ?_⟩
    have hTC' : ∀ x ∈ xs, ∀ y, decide (y ∈ L x) = true ↔ TC R x y := fun x hx y => by rw [decide_eq_true_eq]; exact hTC x hx y
    walk_at "h"
    refine ⟨Nat.zero_le _, fun wl nwl => ?_⟩
    have wl0 : H wl = none := s1.free nwl
    walk_at "h"
    refine rd_iOB rfl (s1.trans (same_new nwl)) hn fun J G gs wk => ?_
    rw [List.length_map] at wk
    refine for_it wk (fun i σ H' => ∃ (Lw : PL) (v4 v6 : Option V), σ = [some (V.ref nm), some (V.ref fl), some (V.ref d), some (V.ref wl), v4, none, v6, none, none, none, none, none] ∧ H' wl = some (.lst (refsP Lw)) ∧ Lw.map (·.2) = leftL (TC R) xs i ∧ PZ H' Lw ∧ Same H1 H')
      ⟨[], _, _, rfl, upd_same, rfl, by simp [PZ], same_new nwl⟩ (fun i σ H' _ ⟨Lw, _, _, _, _, _, _, s⟩ => gs _ (s1.trans s)) ?_ ?_
    · rintro i x σ H2 H2' hi ⟨Lw, v4, v6, rfl, hw, eW, zW, s2⟩ ⟨rfl, hx⟩
      obtain rfl : x = V.str xs[i] := by
        rw [List.getElem?_map, List.getElem?_eq_getElem hi] at hx
        exact (Option.some.inj hx).symm
      have xm : xs[i] ∈ xs := List.getElem_mem hi
      have D2 := D1.keep s2
      walk_at "h"
      refine rd_iOB rfl (s1.trans s2) hn fun J2 G2 gs2 wk2 => ?_
      rw [List.length_map] at wk2
      intro D0 nD0
      refine lc_itW wk2 [some (V.ref nm), some (V.ref fl), some (V.ref d), some (V.ref wl), some (V.str xs[i]), none, v6, none, none, none, none, none] rfl
        (fun j H' => Same H2' H' ∧ H' D0 = some (.lst (((xs.take j).filter (inPart L xs[i])).map V.str))) ⟨same_new nD0, upd_same⟩ (fun j H' _ h => gs2 _ ((s1.trans s2).trans h.1)) ?_ ?_
      · rintro j y H3 H3' hj ⟨s3, h3⟩ ⟨rfl, hy⟩
        obtain rfl : y = V.str xs[j] := by
          rw [List.getElem?_map, List.getElem?_eq_getElem hj] at hy
          exact (Option.some.inj hy).symm
        have ym : xs[j] ∈ xs := List.getElem_mem hj
        have D3 := D2.keep s3
        have eft := filter_take (inPart L xs[i]) hj
        have done : ∀ b : Bool, inPart L xs[i] xs[j] = b → if b = true then tVar 5 [some (V.ref nm), some (V.ref fl), some (V.ref d), some (V.ref wl), some (V.str xs[i]), some (V.str xs[j]), v6, none, none, none, none, none] H3' (fun y H4 => ∃ acc, H4 D0 = some (.lst acc) ∧ acc.length < sizeLine ∧ Same H2' (upd H4 D0 (.lst (acc ++ [y]))) ∧ upd H4 D0 (.lst (acc ++ [y])) D0 = some (.lst (((xs.take (j + 1)).filter (inPart L xs[i])).map V.str))) else Same H2' H3' ∧ H3' D0 = some (.lst (((xs.take (j + 1)).filter (inPart L xs[i])).map V.str)) := fun b hb => by
          cases b with
          | true =>
            rw [if_pos hb] at eft
            rw [if_pos rfl]
            walk_at "h"
            refine ⟨_, h3, ?_, same_mut s3 nD0, by rw [upd_same, eft, List.map_append]; rfl⟩
            have := List.length_filter_le (inPart L xs[i]) (xs.take j)
            rw [List.length_take] at this
            rw [List.length_map]
            exact sz_lt (by omega)
          | false =>
            rw [if_neg (by rw [hb]; exact Bool.false_ne_true), List.append_nil] at eft
            rw [if_neg Bool.false_ne_true, eft]
            exact ⟨s3, h3⟩
        walk_at "h"
        refine ⟨rfl, ?_⟩
        walk_at "h"
        refine ite2 (fun c1 => ?_) (fun c1 => ?_)
        · exact done true (by unfold inPart; rw [c1]; rfl)
        · have c1' : decide (xs[j] = xs[i]) = false := by simpa using c1
          walk_at "h"
          refine ⟨d, _, rfl, D3.get xm, ?_⟩
          refine rd_inS (sql (D3.l _ xm)) ?_
          walk_at "h"
          refine ite2 (fun c2 => ?_) (fun c2 => ?_)
          · walk_at "h"
            refine ⟨d, _, rfl, D3.get ym, ?_⟩
            refine rd_inS (sql (D3.l _ ym)) ?_
            walk_at "h"
            exact done _ (by unfold inPart; rw [c1', c2]; rfl)
          · have c2' : decide (xs[j] ∈ L xs[i]) = false := by simpa using c2
            exact done false (by unfold inPart; rw [c1', c2']; rfl)
      · rintro H3 ⟨s3, h3⟩
        rw [List.take_length, part_B hTC xm] at h3
        walk_at "h"
        refine ⟨D0, _, rfl, sql h3, fun pa o npa zo => ?_⟩
        have eL : leftL (TC R) xs (i + 1) = _ := leftL_succ hi
        have Z0 : ZT (upd H3 pa (.frz o (.tup ((partOf (TC R) xs xs[i]).map V.str)))) pa ((partOf (TC R) xs xs[i]).map V.str) := ⟨o, zo, upd_same⟩
        have lw : ∀ y ∈ partOf (TC R) xs xs[i], Low y := part_low low
        generalize hH4 : upd H3 pa (.frz o (.tup ((partOf (TC R) xs xs[i]).map V.str))) = H4 at Z0
        have s34 : Same H3 H4 := by rw [← hH4]; exact same_new npa
        have s4 : Same H2' H4 := s3.trans s34
        have hw4 := s4 _ _ hw
        have zW4 := zW.keep s4
        walk_at "h"
        refine rd_ninP Z0.seq lw (sql hw4) zW4.pls ?_
        walk_at "h"
        refine ite2 (fun c => ?_) (fun c => ?_)
        · have c' : partOf (TC R) xs xs[i] ∉ leftL (TC R) xs i := by
            rw [← eW]
            simpa using c
          rw [if_neg c'] at eL
          walk_at "h"
          refine ⟨.inl ⟨rfl, _, sql hw4⟩, ?_⟩
          walk_at "h"
          have lLw : Lw.length ≤ i := by
            have h1 := congrArg List.length eW
            rw [List.length_map] at h1
            have := (leftL_facts (r := TC R) (xs := xs) i (by omega)).2.1
            omega
          refine rd_app hw4 (by rw [List.length_map]; exact sz_lt (by omega)) ?_
          walk_at "h"
          refine ⟨Lw ++ [(pa, partOf (TC R) xs xs[i])], _, _, rfl, by rw [upd_same]; simp [refsP], by rw [List.map_append, eW, eL]; rfl, ((zW4.wr hw4).snoc (Z0.wr hw4) lw), same_mut (s2.trans s4) nwl⟩
        · have c' : partOf (TC R) xs xs[i] ∈ leftL (TC R) xs i := by
            rw [← eW]
            simpa using c
          rw [if_pos c'] at eL
          walk_at "h"
          exact ⟨Lw, _, _, rfl, hw4, by rw [eW, eL], zW4, s2.trans s4⟩
    · rintro σ H2 ⟨Lw0, v4, v6, rfl, hw0, eW0, zW0, s2⟩
      have AP : AllParts (TC R) xs (leftL (TC R) xs xs.length) := allParts (fun _ _ _ => TC.trans) (fun _ _ => TC.mem rn)
      generalize leftL (TC R) xs xs.length = W at *
      have W10 : W.length ≤ 10 := Nat.le_trans AP.le lx
      walk_at "h"
      refine ⟨Nat.zero_le _, fun fo nfo => ?_⟩
      walk_at "h"
      refine ⟨Nat.zero_le _, fun po npo => ?_⟩
      have fo1 : H1 fo = none := s2.free nfo
      have po1 : H1 po = none := s2.free ((same_new nfo).free npo)
      have wf : wl ≠ fo := ne_of_none hw0 nfo
      have wp : wl ≠ po := ne_of_none (by rw [upd_ne wf]; exact hw0) npo
      have fp : fo ≠ po := ne_of_none upd_same npo
      have s20 := (same_new (o := .lst []) nfo).trans (same_new (o := .lst []) npo)
      walk_at "h"
      refine ⟨fun m σ H' => ∃ (Lw Lf : PL) (pl : List Str) (v4 v6 v10 v11 : Option V), σ = [some (V.ref nm), some (V.ref fl), some (V.ref d), some (V.ref wl), v4, none, v6, some (V.ref fo), some (V.ref po), none, v10, v11] ∧
        H' wl = some (.lst (refsP Lw)) ∧ H' fo = some (.lst (refsP Lf)) ∧ H' po = some (.lst (pl.map V.str)) ∧ PZ H' Lw ∧ PZ H' Lf ∧ OI W (Lw.map (·.2)) pl ∧ Lf.map (·.2) ++ ordL (TC R) Lw.length (Lw.map (·.2)) pl = ordL (TC R) W.length W [] ∧ Lw.length + Lf.length = W.length ∧ pl.length ≤ 10 * Lf.length ∧ Same H1 H' ∧ m = Lw.length,
        ⟨_, Lw0, [], [], _, _, _, _, rfl, s20 _ _ hw0, by rw [upd_ne fp, upd_same]; rfl, upd_same, zW0.keep s20, by simp [PZ], ⟨fun p hp => by rw [eW0] at hp; exact hp, by rw [eW0]; exact AP.nd, fun p hp => .inl (by rw [eW0]; exact hp)⟩, ?_, ?_, Nat.zero_le _, s2.trans s20, rfl⟩, ?_⟩
      · have : Lw0.length = W.length := by rw [← eW0, List.length_map]
        rw [this, eW0]; rfl
      · rw [← eW0, List.length_map]; rfl
      · clear hw0 eW0 zW0 s20 s2 nfo npo
        rintro m σ H3 ⟨Lw, Lf, pl, v4, v6, v10, v11, rfl, hw, hf, hp, zW, zF, oi, eo, el, lp, s3, em⟩
        walk_at "h"
        refine ⟨!(refsP Lw).isEmpty, .inl ⟨_, sql hw, rfl⟩, ?_⟩
        cases hLw : Lw with
        | nil =>
          subst hLw
          rw [show (!(refsP []).isEmpty) = false from rfl]
          walk_at "h"
          refine q fo Lf H3 (s1.free fo1) hf ?_ zF (s1.trans s3)
          rw [← eo]; simp [ordL]
        | cons q0 Lw' =>
          rw [← hLw]
          have ne : Lw ≠ [] := by rw [hLw]; exact List.cons_ne_nil _ _
          have ne2 : Lw.map (·.2) ≠ [] := by rw [hLw]; exact List.cons_ne_nil _ _
          rw [show (!(refsP Lw).isEmpty) = true by rw [hLw]; rfl]
          rw [if_pos rfl]
          have mW : ∀ q ∈ Lw, ∃ x ∈ xs, q.2 = partOf (TC R) xs x := fun q hq => AP.is _ (oi.sub _ (List.mem_map_of_mem hq))
          have lLw : Lw.length ≤ 10 := by omega
          refine ⟨fun σ' H'' => ∃ (Lw2 Lf : PL) (pl : List Str) (v4 v6 v10 v11 : Option V), σ' = [some (V.ref nm), some (V.ref fl), some (V.ref d), some (V.ref wl), v4, none, v6, some (V.ref fo), some (V.ref po), none, v10, v11] ∧
            H'' wl = some (.lst (refsP Lw2)) ∧ H'' fo = some (.lst (refsP Lf)) ∧ H'' po = some (.lst (pl.map V.str)) ∧ PZ H'' Lw2 ∧ PZ H'' Lf ∧ OI W (Lw2.map (·.2)) pl ∧ Lf.map (·.2) ++ ordL (TC R) Lw2.length (Lw2.map (·.2)) pl = ordL (TC R) W.length W [] ∧ Lw2.length + Lf.length = W.length ∧ pl.length ≤ 10 * Lf.length ∧ Same H1 H'' ∧ Lw2.length < Lw.length,
            fun σ' H'' ⟨Lw2, Lf, pl, v4, v6, v10, v11, a1, a2, a3, a4, a5, a6, a7, a8, a9, b1, b2, b3⟩ => ⟨_, by rw [em]; exact b3, Lw2, Lf, pl, v4, v6, v10, v11, a1, a2, a3, a4, a5, a6, a7, a8, a9, b1, b2, rfl⟩, ?_⟩
          clear hLw
          have D3 := D1.keep s3
          walk_at "h"
          refine ⟨_, rfl, ⟨_, sql hw⟩, ?_⟩
          intro re nre
          have rw1 : re ≠ wl := (ne_of_none hw nre).symm
          refine lc_listW (xs := refsP Lw) [some (V.ref nm), some (V.ref fl), some (V.ref d), some (V.ref wl), v4, none, none, some (V.ref fo), some (V.ref po), none, v10, v11] rfl
            (fun i H' => Same H3 H' ∧ H' re = some (.lst (refsP ((Lw.take i).filter fun q => rdB L pl q.2)))) ⟨same_new nre, upd_same⟩ (fun i H' _ h => sql (h.1 _ _ hw)) ?_ ?_
          · rintro i x H4 hx ⟨s4, h4⟩
            have hi : i < Lw.length := by
              have := (List.getElem?_eq_some_iff.mp hx).1
              simpa using this
            obtain rfl : x = V.ref Lw[i].1 := by
              rw [List.getElem?_map, List.getElem?_eq_getElem hi] at hx
              exact (Option.some.inj hx).symm
            have qm : Lw[i] ∈ Lw := List.getElem_mem hi
            generalize hq : Lw[i] = q at qm
            obtain ⟨x0, x0m, e0⟩ := mW q qm
            have hdm : hd q.2 ∈ xs := by rw [e0]; exact part_hd x0m
            have ne0 : q.2 ≠ [] := by rw [e0]; exact part_ne x0m
            have D4 := D3.keep s4
            have hp4 := s4 _ _ hp
            have z4 := ((zW q qm).1).keep s4
            have at0 : atI (q.2.map V.str) 0 = some (V.str (hd q.2)) := at_hd ne0
            have eft := filter_take (fun q : Addr × List Str => rdB L pl q.2) hi
            rw [hq] at eft
            walk_at "h"
            refine ⟨rfl, ?_⟩
            walk_at "h"
            refine rd_ixt z4.seq at0 ?_
            refine ⟨d, _, rfl, D4.get hdm, ?_⟩
            refine ⟨_, rfl, ⟨_, sql (D4.l _ hdm)⟩, ?_⟩
            intro ie nie
            have rie : re ≠ ie := ne_of_none h4 nie
            refine lc_listW (xs := (L (hd q.2)).map V.str) [some (V.ref nm), some (V.ref fl), some (V.ref d), some (V.ref wl), v4, none, some (V.ref q.1), some (V.ref fo), some (V.ref po), none, v10, v11] rfl
              (fun k H' => Same H4 H' ∧ H' ie = some (.lst ((((L (hd q.2)).take k).map fun g => decide (g ∈ pl) || decide (g ∈ q.2)).map V.bl))) ⟨same_new nie, upd_same⟩ (fun k H' _ h => sql (h.1 _ _ (D4.l _ hdm))) ?_ ?_
            · rintro k y H5 hy ⟨s5, h5⟩
              have hk : k < (L (hd q.2)).length := by
                have := (List.getElem?_eq_some_iff.mp hy).1
                simpa using this
              obtain rfl : y = V.str (L (hd q.2))[k] := by
                rw [List.getElem?_map, List.getElem?_eq_getElem hk] at hy
                exact (Option.some.inj hy).symm
              have l10 := hL _ hdm
              have done : ∀ b : Bool, (decide ((L (hd q.2))[k] ∈ pl) || decide ((L (hd q.2))[k] ∈ q.2)) = b → ∃ acc, H5 ie = some (.lst acc) ∧ acc.length < sizeLine ∧ Same H4 (upd H5 ie (.lst (acc ++ [V.bl b]))) ∧ upd H5 ie (.lst (acc ++ [V.bl b])) ie = some (.lst ((((L (hd q.2)).take (k + 1)).map fun g => decide (g ∈ pl) || decide (g ∈ q.2)).map V.bl)) := fun b hb => by
                refine ⟨_, h5, ?_, same_mut s5 nie, ?_⟩
                · rw [List.length_map, List.length_map, List.length_take]
                  exact sz_lt (by omega)
                · rw [upd_same, List.take_add_one, List.getElem?_eq_getElem hk, Option.toList_some, List.map_append, List.map_append, List.map_cons, List.map_nil, List.map_cons, List.map_nil, hb]
              walk_at "h"
              refine ⟨rfl, ?_⟩
              walk_at "h"
              refine rd_inS (sql (s5 _ _ hp4)) ?_
              refine ⟨_, rfl, ?_⟩
              refine ite2 (fun c => ?_) (fun c => ?_)
              · exact done true (by rw [c]; rfl)
              · have c' : decide ((L (hd q.2))[k] ∈ pl) = false := by simpa using c
                walk_at "h"
                refine rd_inA (.inr (z4.keep s5).seq) ?_
                exact done _ (by rw [c']; rfl)
            · rintro H5 ⟨s5, h5⟩
              rw [List.length_map, List.take_length] at h5
              walk_at "h"
              refine ⟨ie, _, rfl, sql h5, ?_⟩
              have h45 := s5 _ _ h4
              have eB : ((L (hd q.2)).map fun g => decide (g ∈ pl) || decide (g ∈ q.2)).all id = rdB L pl q.2 := by
                unfold rdB
                rw [List.all_map]
                rfl
              rw [eB]
              walk_at "h"
              refine ite2 (fun c => ?_) (fun c => ?_)
              · rw [if_pos c] at eft
                walk_at "h"
                refine ⟨_, h45, ?_, same_mut (s4.trans s5) nre, by rw [upd_same, eft]; simp [refsP]⟩
                have := List.length_filter_le (fun q : Addr × List Str => rdB L pl q.2) (Lw.take i)
                rw [List.length_take] at this
                rw [List.length_map]
                exact sz_lt (by omega)
              · rw [if_neg c, List.append_nil] at eft
                exact ⟨s4.trans s5, by rw [eft]; exact h45⟩
          · rintro H4 ⟨s4, h4⟩
            rw [List.length_map, List.take_length] at h4
            have eR : (Lw.filter fun q => rdB L pl q.2).map (·.2) = (Lw.map (·.2)).filter (rdy (TC R) pl) := by
              rw [map_filter2 (r := rdB L pl)]
              refine List.filter_congr fun p hp => ?_
              obtain ⟨x0, x0m, e0⟩ := AP.is p (oi.sub p hp)
              exact rd_B hTC (by rw [e0]; exact part_hd x0m)
            have rne : (Lw.map (·.2)).filter (rdy (TC R) pl) ≠ [] := ready_ne AP oi ne2
            generalize hF : (Lw.filter fun q => rdB L pl q.2) = Fr at h4 eR
            have zW4 := zW.keep s4
            have zF4 := zF.keep s4
            have zFr : PZ H4 Fr := fun q hq => zW4 q (by rw [← hF] at hq; exact (List.mem_filter.mp hq).1)
            have hw4 := s4 _ _ hw
            have hf4 := s4 _ _ hf
            have hp4 := s4 _ _ hp
            walk_at "h"
            refine ⟨re, Fr, rfl, sql h4, zFr.pls, fun z => rne (by rw [← eR, z]; rfl), fun q hq eq => ?_⟩
            have qm : q ∈ Lw := by rw [← hF] at hq; exact (List.mem_filter.mp hq).1
            rw [eR] at eq
            obtain ⟨x0, x0m, e0⟩ := mW q qm
            have ql : q.2.length ≤ 10 := by rw [e0]; exact Nat.le_trans part_len lx
            have zq := (zW4 q qm).1
            have lq := (zW4 q qm).2
            walk_at "h"
            refine ⟨.inl ⟨rfl, _, sql hf4⟩, ?_⟩
            walk_at "h"
            refine rd_app hf4 (by rw [List.length_map]; exact sz_lt (by omega)) ?_
            rw [show refsP Lf ++ [V.ref q.1] = refsP (Lf ++ [q]) by simp [refsP]]
            generalize hH5 : upd H4 fo (.lst (refsP (Lf ++ [q]))) = H5
            have w5 : H5 wl = some (.lst (refsP Lw)) := by rw [← hH5, upd_ne wf]; exact hw4
            have p5 : H5 po = some (.lst (pl.map V.str)) := by rw [← hH5, upd_ne fp.symm]; exact hp4
            have f5 : H5 fo = some (.lst (refsP (Lf ++ [q]))) := by rw [← hH5]; exact upd_same
            have zW5 : PZ H5 Lw := by rw [← hH5]; exact zW4.wr hf4
            have zF5 : PZ H5 (Lf ++ [q]) := by rw [← hH5]; exact (zF4.snoc zq lq).wr hf4
            have zq5 : ZT H5 q.1 (q.2.map V.str) := by rw [← hH5]; exact zq.wr hf4
            have s5 : Same H1 H5 := by rw [← hH5]; exact same_mut (s3.trans s4) fo1
            walk_at "h"
            refine ⟨.inl ⟨rfl, _, sql p5⟩, ?_⟩
            walk_at "h"
            refine ⟨po, q.1, _, _, rfl, rfl, p5, zq5, sz_le (by rw [List.length_map, List.length_map]; omega), ?_⟩
            rw [← List.map_append]
            generalize hH6 : upd H5 po (.lst ((pl ++ q.2).map V.str)) = H6
            have w6 : H6 wl = some (.lst (refsP Lw)) := by rw [← hH6, upd_ne wp]; exact w5
            have p6 : H6 po = some (.lst ((pl ++ q.2).map V.str)) := by rw [← hH6]; exact upd_same
            have f6 : H6 fo = some (.lst (refsP (Lf ++ [q]))) := by rw [← hH6, upd_ne fp]; exact f5
            have zW6 : PZ H6 Lw := by rw [← hH6]; exact zW5.wr p5
            have zF6 : PZ H6 (Lf ++ [q]) := by rw [← hH6]; exact zF5.wr p5
            have zq6 : ZT H6 q.1 (q.2.map V.str) := by rw [← hH6]; exact zq5.wr p5
            have s6 : Same H1 H6 := by rw [← hH6]; exact same_mut s5 po1
            have q2m : q.2 ∈ Lw.map (·.2) := List.mem_map_of_mem qm
            obtain ⟨j, hj⟩ := find_some q2m
            have eE : (Lw.eraseIdx j).map (·.2) = (Lw.map (·.2)).erase q.2 := by rw [← map_eraseG, erase_idxB hj]
            walk_at "h"
            refine ⟨.inl ⟨rfl, _, sql w6⟩, ?_⟩
            walk_at "h"
            refine ⟨wl, q.1, Lw, q.2, j, rfl, rfl, w6, zW6.pls, zq6.seq, lq, hj, ?_⟩
            have len : (Lw.eraseIdx j).length + 1 = Lw.length := by
              have h1 := congrArg List.length eE
              rw [List.length_map, List.length_erase_of_mem q2m, List.length_map] at h1
              have := List.length_pos_iff.mpr ne
              omega
            walk_at "h"
            refine ⟨Lw.eraseIdx j, Lf ++ [q], pl ++ q.2, _, _, _, _, rfl, upd_same, by rw [upd_ne wf.symm]; exact f6, by rw [upd_ne wp.symm]; exact p6, ?_, zF6.wr w6, by rw [eE]; exact oi.next q2m, ?_, by rw [List.length_append]; simp only [List.length_cons, List.length_nil]; omega, by rw [List.length_append, List.length_append]; simp only [List.length_cons, List.length_nil]; omega, same_mut s6 nwl, by omega⟩
            · exact fun y hy => (zW6.wr w6) y (List.mem_of_mem_eraseIdx hy)
            · rw [← eo, eE, List.map_append, List.append_assoc]
              congr 1
              rw [← len, ordL, ← eq]
              rfl
end
end K41
namespace K41
open PySem PySem.Spec PyProof.Rows L2 HH
local macro_rules | `(tactic| walk_at "h1") => `(tactic| first
  | with_reducible refine rd_seq ?_ | with_reducible refine rd_asg ?_ | with_reducible refine rd_op ?_
  | ((with_reducible refine' rd_var ?hv ?_); (case hv => exact rfl)) | with_reducible refine rd_c ?_
  | ((with_reducible refine rd_name ?_); dsimp only [List.set_cons_zero, List.set_cons_succ])
  | with_reducible refine rd_I0 ?_ | ((with_reducible refine rd_pow ?_ ?_ ?_ ?_); (· decide); (· decide); (· decide)) | ((with_reducible refine rd_mod ?_ ?_); (· decide)) | ((with_reducible refine rd_mulR ?_ ?_ ?_); (· decide); (· decide)) | ((with_reducible refine rd_divW (n := 64) ?_ ?_ ?_ ?_ ?_); (· decide); (· decide); (· decide); (· decide)) | with_reducible refine rd_addI ?_ | with_reducible refine rd_eqI ?_ | with_reducible refine rd_eqS ?_ | with_reducible refine rd_eqB ?_ | with_reducible refine rd_ltI ?_
  | with_reducible refine rd_callS ?_ | with_reducible refine rd_xf ?_ | with_reducible refine rd_cons ?_ | with_reducible refine rd_nil ?_ | with_reducible refine rd_cb ?_ | with_reducible refine rd_call ?_
  | with_reducible refine rd_ifs ?_ | with_reducible refine rd_test ?_ | with_reducible refine rd_tB ?_ | with_reducible refine rd_blQ ?_ | with_reducible refine iteT ?_ | with_reducible refine iteF ?_ | with_reducible refine iteNotF ?_ | with_reducible refine iteNotT ?_
  | with_reducible refine rd_and ?_ | with_reducible refine rd_or ?_ | with_reducible refine rd_not ?_ | with_reducible refine rd_andV ?_ | with_reducible refine rd_orV ?_ | with_reducible refine rd_notV ?_ | with_reducible refine rd_if ?_
  | with_reducible refine rd_un ?_ | with_reducible refine rd_U ?_ | with_reducible refine rd_sub ?_ | with_reducible refine rd_tup ?_ | with_reducible refine rd_lst ?_
  | with_reducible refine rd_intI ?_ | with_reducible refine rd_absI ?_ | with_reducible refine rd_drop ?_ | with_reducible refine rd_ret ?_ | with_reducible refine rd_retN ?_ | with_reducible refine rd_next ?_ | with_reducible refine rd_bm ?_
  | with_reducible refine rd_tDGet2 ?_ | with_reducible refine rd_tDGet ?_ | with_reducible refine rd_sDPut ?_ | with_reducible refine rd_dnewK ?_ | with_reducible refine rd_nnew ?_ | with_reducible refine rd_nget ?_ | with_reducible refine rd_nget2 ?_ | with_reducible refine rd_npop ?_ | with_reducible refine rd_nput ?_ | with_reducible refine rd_dcn ?_ | with_reducible refine rd_gtup ?_ | with_reducible refine rd_gcons ?_ | with_reducible refine rd_gnil ?_ | with_reducible refine rd_lc ?_ | with_reducible refine rd_yes ?_ | with_reducible refine rd_for ?_ | with_reducible refine rd_iL ?_ | with_reducible refine rd_neS ?_ | with_reducible refine rd_neN ?_ | with_reducible refine rd_neB ?_ | with_reducible refine rd_chain ?_ | with_reducible refine rd_bm0 ?_ | with_reducible refine rd_dc ?_ | with_reducible refine rd_iN ?_ | with_reducible refine rd_iZ ?_ | with_reducible refine rd_ngetF ?_ | with_reducible refine rd_iT ?_ | with_reducible refine rd_iR1 ?_ | with_reducible refine rd_iS ?_ | with_reducible refine rd_leafS ?_ | with_reducible refine rd_sl ?_ | with_reducible refine rd_noPart ?_ | with_reducible refine rd_part ?_ | with_reducible refine rd_leafI ?_)
local macro_rules | `(tactic| walk_at "h") => `(tactic| repeat walk_at "h1")

section
variable {P : Program} {w : World} {K : PySem.W.Frag} {mg : Str → Option Value} {base : Heap}
theorem ok_hands {f : Addr} {fd : FuncData} (F : Fun K "hands_on_plainly" "hands_on_plainly" s_hands_on_plainly f fd) (T : Bi mg)  : FnOk P w K mg base CX0 1 f fd ["row", "part"] (spHands K) := by
  refine F.ok (k := 0) sc_hands_on_plainly (fun vs H Q E h => ?_) (fun cdv A outer s H vs Q E hr h => ?_)
  · obtain ⟨a, b, r, p, rfl, _⟩ := h
    rfl
  · obtain ⟨a, b, r, p, rfl, kr, hp, q⟩ := h
    have hu := hu_of hr
    have hu20 := hu20_of hr
    have hu40 := hu40_of hr
    skip
    refine ⟨_, (pss_cons (ps_asg (pv 0) (pg_tupK (K := K) 4 rfl (pgs_cons (pg_name (i := 2) sc_hands_on_plainly.nd rfl (.inl rfl)) (pgs_cons (pg_name (i := 3) sc_hands_on_plainly.nd rfl (.inl rfl)) (pgs_cons (pg_name (i := 4) sc_hands_on_plainly.nd rfl (.inl rfl)) (pgs_cons (pg_name (i := 5) sc_hands_on_plainly.nd rfl (.inl rfl)) pgs_nil))))))
  (pss_one (ps_ret (pe_and (pe_cmpR (op_eqU (K := K) hu40) (pv 2) pe_str (nomark _)) (pe_and (pe_cmpR (op_eqU (K := K) hu40) (pv 4) pe_int (nomark _)) (pe_and (pe_cmpR (op_eqU (K := K) hu40) (pe_callB (call_lenU (P := P) (w := w) (K := K)) (by rfl) T.len_ PySem.boot_len (pa_cons (pv 5) pa_nil)) pe_int (nomark _)) (pe_and (pe_cmpR (op_eqU (K := K) hu40) (pe_ix (ix_tupK (K := K)) (pe_ix (ix_tupK (K := K)) (pv 5) pe_int (fun _ _ => rfl)) pe_int (fun _ _ => rfl)) pe_int (nomark _)) (pe_one (pe_cmpR (op_inU (P := P) (w := w) (K := K) hu20) (pe_ix (ix_tupK (K := K)) (pe_ix (ix_tupK (K := K)) (pv 5) pe_int (fun _ _ => rfl)) pe_int (fun _ _ => rfl)) (pv 1) (by rfl)))))))))), ?_⟩
    rw [show L2.start N_hands_on_plainly [V.ref a, V.ref b] = [some (V.ref a), some (V.ref b), none, none, none, none] from rfl]
    (try dsimp only [cxOf, Cx.nox, Cx.wish])
    walk_at "h"
--B
    obtain ⟨_, t, ea, sr, kp⟩ := row_at kr
    obtain rfl := V.ref.inj ea
    obtain ⟨_, vs, et, st, kv, nv⟩ := prod_at kp
    obtain rfl := V.ref.inj et
    have hq : ∀ b, plainR r p = b → Q (.bl b) H := fun b e => by rw [← e]; exact q
    refine ⟨a, _, rfl, sr, rfl, ?_⟩
    walk_at "h"
    refine ite2 (fun c1 => ?_) (fun c1 => ?_)
    · rw [word_lift] at c1
      walk_at "h"
      refine ite2 (fun c2 => ?_) (fun c2 => ?_)
      · walk_at "h"
        refine rd_lenA (.inr st) ?_
        walk_at "h"
        refine ite2 (fun c3 => ?_) (fun c3 => ?_)
        · have l1 : r.ps.length = 1 := by
            have := of_decide_eq_true c3
            omega
          obtain ⟨q0, hq0⟩ := List.length_eq_one_iff.mp l1
          have lv : 0 < vs.length := by omega
          obtain ⟨xa, ex, sx⟩ := pair_get kv (i := 0) (by omega) (List.getElem?_eq_getElem lv)
          have e0 : r.ps[0] = q0 := by simp [hq0]
          rw [e0] at sx
          walk_at "h"
          refine rd_ixt st (atI_nat (j := 0) (by rw [List.getElem?_eq_getElem lv, ex])) ?_
          walk_at "h"
          refine rd_ixt sx (atI_nat (j := 1) rfl) ?_
          walk_at "h"
          refine ite2 (fun c4 => ?_) (fun c4 => ?_)
          · walk_at "h"
            refine rd_ixt st (atI_nat (j := 0) (by rw [List.getElem?_eq_getElem lv, ex])) ?_
            walk_at "h"
            refine rd_ixt sx (atI_nat (j := 0) rfl) ?_
            walk_at "h"
            refine rd_inA (.inr hp) ?_
            exact hq _ (by unfold plainR; rw [c1, c2, hq0]; dsimp only; rw [c4]; rfl)
          · have c4' : decide (q0.2 = 1) = false := by simpa using c4
            exact hq _ (by unfold plainR; rw [hq0]; dsimp only; rw [c4', Bool.false_and, Bool.and_false, Bool.and_false])
        · refine hq _ ?_
          have l1 : r.ps.length ≠ 1 := fun z => c3 (decide_eq_true (by omega))
          unfold plainR
          match hps : r.ps with
          | [] => simp
          | [q0] => exact absurd (by rw [hps]; rfl) l1
          | _ :: _ :: _ => simp
      · have c2' : decide (r.co = 1) = false := by simpa using c2
        exact hq _ (by unfold plainR; rw [c2', Bool.false_and, Bool.and_false])
    · rw [word_lift] at c1
      have c1' : (!r.add) = false := by simpa using c1
      exact hq _ (by unfold plainR; rw [c1', Bool.false_and])
end
end K41
namespace K41
open PySem PySem.Spec PyProof.Rows L2 HH
local macro_rules | `(tactic| walk_at "h1") => `(tactic| first
  | with_reducible refine rd_seq ?_ | with_reducible refine rd_asg ?_ | with_reducible refine rd_op ?_
  | ((with_reducible refine' rd_var ?hv ?_); (case hv => exact rfl)) | with_reducible refine rd_c ?_
  | ((with_reducible refine rd_name ?_); dsimp only [List.set_cons_zero, List.set_cons_succ])
  | with_reducible refine rd_I0 ?_ | ((with_reducible refine rd_pow ?_ ?_ ?_ ?_); (· decide); (· decide); (· decide)) | ((with_reducible refine rd_mod ?_ ?_); (· decide)) | ((with_reducible refine rd_mulR ?_ ?_ ?_); (· decide); (· decide)) | ((with_reducible refine rd_divW (n := 64) ?_ ?_ ?_ ?_ ?_); (· decide); (· decide); (· decide); (· decide)) | with_reducible refine rd_addI ?_ | with_reducible refine rd_eqI ?_ | with_reducible refine rd_eqS ?_ | with_reducible refine rd_eqB ?_ | with_reducible refine rd_ltI ?_
  | with_reducible refine rd_callS ?_ | with_reducible refine rd_xf ?_ | with_reducible refine rd_cons ?_ | with_reducible refine rd_nil ?_ | with_reducible refine rd_cb ?_ | with_reducible refine rd_call ?_
  | with_reducible refine rd_ifs ?_ | with_reducible refine rd_test ?_ | with_reducible refine rd_tB ?_ | with_reducible refine rd_blQ ?_ | with_reducible refine iteT ?_ | with_reducible refine iteF ?_ | with_reducible refine iteNotF ?_ | with_reducible refine iteNotT ?_
  | with_reducible refine rd_and ?_ | with_reducible refine rd_or ?_ | with_reducible refine rd_not ?_ | with_reducible refine rd_andV ?_ | with_reducible refine rd_orV ?_ | with_reducible refine rd_notV ?_ | with_reducible refine rd_if ?_
  | with_reducible refine rd_un ?_ | with_reducible refine rd_U ?_ | with_reducible refine rd_sub ?_ | with_reducible refine rd_tup ?_ | with_reducible refine rd_lst ?_
  | with_reducible refine rd_intI ?_ | with_reducible refine rd_absI ?_ | with_reducible refine rd_drop ?_ | with_reducible refine rd_ret ?_ | with_reducible refine rd_retN ?_ | with_reducible refine rd_next ?_ | with_reducible refine rd_bm ?_
  | with_reducible refine rd_tDGet2 ?_ | with_reducible refine rd_tDGet ?_ | with_reducible refine rd_sDPut ?_ | with_reducible refine rd_dnewK ?_ | with_reducible refine rd_nnew ?_ | with_reducible refine rd_nget ?_ | with_reducible refine rd_nget2 ?_ | with_reducible refine rd_npop ?_ | with_reducible refine rd_nput ?_ | with_reducible refine rd_dcn ?_ | with_reducible refine rd_gtup ?_ | with_reducible refine rd_gcons ?_ | with_reducible refine rd_gnil ?_ | with_reducible refine rd_lc ?_ | with_reducible refine rd_yes ?_ | with_reducible refine rd_for ?_ | with_reducible refine rd_iL ?_ | with_reducible refine rd_neS ?_ | with_reducible refine rd_neN ?_ | with_reducible refine rd_neB ?_ | with_reducible refine rd_chain ?_ | with_reducible refine rd_bm0 ?_ | with_reducible refine rd_dc ?_ | with_reducible refine rd_iN ?_ | with_reducible refine rd_iZ ?_ | with_reducible refine rd_ngetF ?_ | with_reducible refine rd_iT ?_ | with_reducible refine rd_iR1 ?_ | with_reducible refine rd_iS ?_ | with_reducible refine rd_leafS ?_ | with_reducible refine rd_sl ?_ | with_reducible refine rd_noPart ?_ | with_reducible refine rd_part ?_ | with_reducible refine rd_leafI ?_)
local macro_rules | `(tactic| walk_at "h") => `(tactic| repeat walk_at "h1")

section
variable {P : Program} {w : World} {K : PySem.W.Frag} {mg : Str → Option Value} {base : Heap}
theorem ok_raising {f : Addr} {fd : FuncData} (F : Fun K "raising" "raising" s_raising f fd) (T : Bi mg) (G_hands_on_plainly : Callee P w K mg base 1 "hands_on_plainly" ["row", "part"] (spHands K)) : FnOk P w K mg base CX0 2 f fd ["part", "flat"] (spRaising K) := by
  refine F.ok (k := 1) sc_raising (fun vs H Q E h => ?_) (fun cdv A outer s H vs Q E hr h => ?_)
  · obtain ⟨b, fl, R, p, rfl, _⟩ := h
    rfl
  · obtain ⟨b, fl, R, p, rfl, kR, rin, hp, q⟩ := h
    have hu := hu_of hr
    have hu20 := hu20_of hr
    have hu40 := hu40_of hr
    obtain ⟨f_hands_on_plainly, fd_hands_on_plainly, F_hands_on_plainly, m_hands_on_plainly, k_hands_on_plainly, b_hands_on_plainly⟩ := G_hands_on_plainly
    refine ⟨_, (pss_one (ps_ret (pe_lc (own := [("number", 2), ("row", 3)]) rfl sc_raising.nd (pi_enumT (K := K) (by rfl) T.enum_ (pa_cons (pv 1) pa_nil)) (blkOk_by (N := N_raising) (sc := defScope s_raising) (by decide +kernel)) (fun _ _ _ _ _ => (pg_tupK (K := K) 2 rfl (pgs_cons (pg_name (i := 2) sc_raising.nd rfl (.inl rfl)) (pgs_cons (pg_name (i := 3) sc_raising.nd rfl (.inl rfl)) pgs_nil)))) (fun _ _ _ _ _ => (pts_one (PW.pt (pw_and (pt_cmpR (op_inU (P := P) (w := w) (K := K) hu20) (pe_ix (ix_tupK (K := K)) (pv 3) pe_int (fun _ _ => rfl)) (pv 0) (by rfl)) (pw_and1 (pt_not (pt_val (pe_call F_hands_on_plainly (hr.mono (by decide)) (by rfl) m_hands_on_plainly k_hands_on_plainly b_hands_on_plainly .nil pass0 (pa_cons (pv 3) (pa_cons (pv 0) pa_nil)))))))))) (fun _ _ _ _ _ => (pv 2))))), ?_⟩
    rw [show L2.start N_raising [V.ref b, V.ref fl] = [some (V.ref b), some (V.ref fl), none, none] from rfl]
    (try dsimp only [cxOf, Cx.nox, Cx.wish])
    walk_at "h"
--B
    obtain ⟨_, vR, ea, sR, tR, nR⟩ := rows_at kR
    obtain rfl := V.ref.inj ea
    refine rd_iEnumT ?_
    walk_at "h"
    refine ⟨fl, vR, rfl, sR, ?_⟩
    intro D nD
    refine lc_itW walk_enumT [some (V.ref b), some (V.ref fl), none, none] rfl (fun i H' => Same H H' ∧ H' D = some (.lst ((raisL R p i).map fun k => V.int (k : Nat)))) ⟨same_new nD, by rw [upd_same]; rfl⟩ (fun i H' _ h => same_tup h.1 _ _ sR) ?_ ?_
    · rintro i x H1 H2 hi ⟨s1, hD⟩ ⟨Tt, x1, y, rfl, nT, rfl, ex, ey⟩
      obtain rfl := Option.some.inj ex
      have hi2 : i < R.length := by omega
      obtain ⟨y', ey', ky⟩ := IsKs.get (i := i) (k := rowK R[i]) tR (by rw [List.getElem?_map, List.getElem?_eq_getElem hi2]; rfl)
      obtain rfl : y = y' := Option.some.inj (ey.symm.trans ey')
      obtain ⟨ra, pa, rfl, sr, kp⟩ := row_at ky
      have DT : D ≠ Tt := ne_of_none hD nT
      have s2 : Same H (upd H1 Tt (.tup [V.int (i : Nat), V.ref ra])) := s1.trans (same_new nT)
      have hT : (upd H1 Tt (.tup [V.int (i : Nat), V.ref ra])) Tt = some (.tup [V.int (i : Nat), V.ref ra]) := upd_same
      have hD2 : (upd H1 Tt (.tup [V.int (i : Nat), V.ref ra])) D = some (.lst ((raisL R p i).map fun k => V.int (k : Nat))) := by rw [upd_ne DT]; exact hD
      generalize upd H1 Tt (.tup [V.int (i : Nat), V.ref ra]) = H2 at s2 hT hD2
      have tp := same_tup (K := K) s2
      have eft := raisL_succ p hi2
      have len : (raisL R p i).length ≤ i := by
        have := List.length_filter_le (fun i => match R[i]? with | some r => raisR p r | none => false) (List.range i)
        rw [List.length_range] at this
        exact this
      have l20 := rin.1
      have yes : raisR p R[i] = true → ∃ acc, H2 D = some (.lst acc) ∧ acc.length < sizeLine ∧ Same H (upd H2 D (.lst (acc ++ [V.int (i : Nat)]))) ∧ (upd H2 D (.lst (acc ++ [V.int (i : Nat)]))) D = some (.lst ((raisL R p (i + 1)).map fun k => V.int (k : Nat))) := fun e => by
        rw [if_pos e] at eft
        exact ⟨_, hD2, by rw [List.length_map]; exact sz_lt (by omega), same_mut s2 nD, by rw [upd_same, eft, List.map_append]; rfl⟩
      have no : raisR p R[i] = false → Same H H2 ∧ H2 D = some (.lst ((raisL R p (i + 1)).map fun k => V.int (k : Nat))) := fun e => by
        rw [if_neg (by rw [e]; exact Bool.false_ne_true), List.append_nil] at eft
        rw [eft]; exact ⟨s2, hD2⟩
      walk_at "h"
      refine ⟨Tt, _, rfl, sqt hT, rfl, ?_⟩
      walk_at "h"
      refine ⟨rfl, ?_⟩
      walk_at "h"
      refine rd_ixt (tp _ _ sr) (atI_nat (j := 1) rfl) ?_
      walk_at "h"
      refine rd_inA (.inr (tp _ _ hp)) ?_
      walk_at "h"
      refine ite2 (fun c1 => ?_) (fun c1 => ?_)
      · walk_at "h"
        refine ⟨ra, b, R[i], p, rfl, ky.keep tp, tp _ _ hp, ?_⟩
        cases hpl : plainR R[i] p with
        | true =>
          walk_at "h"
          exact no (by unfold raisR; rw [hpl, Bool.not_true, Bool.and_false])
        | false =>
          walk_at "h"
          exact yes (by unfold raisR; rw [hpl, c1]; rfl)
      · have c1' : decide (R[i].nm ∈ p) = false := by simpa using c1
        try walk_at "h"
        exact no (by unfold raisR; rw [c1', Bool.false_and])
    · rintro H1 ⟨s1, hD⟩
      rw [nR] at hD
      exact q D H1 hD s1
end
end K41
namespace K41
open PySem PySem.Spec PyProof.Rows L2 HH
local macro_rules | `(tactic| walk_at "h1") => `(tactic| first
  | with_reducible refine rd_seq ?_ | with_reducible refine rd_asg ?_ | with_reducible refine rd_op ?_
  | ((with_reducible refine' rd_var ?hv ?_); (case hv => exact rfl)) | with_reducible refine rd_c ?_
  | ((with_reducible refine rd_name ?_); dsimp only [List.set_cons_zero, List.set_cons_succ])
  | with_reducible refine rd_I0 ?_ | ((with_reducible refine rd_pow ?_ ?_ ?_ ?_); (· decide); (· decide); (· decide)) | ((with_reducible refine rd_mod ?_ ?_); (· decide)) | ((with_reducible refine rd_mulR ?_ ?_ ?_); (· decide); (· decide)) | ((with_reducible refine rd_divW (n := 64) ?_ ?_ ?_ ?_ ?_); (· decide); (· decide); (· decide); (· decide)) | with_reducible refine rd_addI ?_ | with_reducible refine rd_eqI ?_ | with_reducible refine rd_eqS ?_ | with_reducible refine rd_eqB ?_ | with_reducible refine rd_ltI ?_
  | with_reducible refine rd_callS ?_ | with_reducible refine rd_xf ?_ | with_reducible refine rd_cons ?_ | with_reducible refine rd_nil ?_ | with_reducible refine rd_cb ?_ | with_reducible refine rd_call ?_
  | with_reducible refine rd_ifs ?_ | with_reducible refine rd_test ?_ | with_reducible refine rd_tB ?_ | with_reducible refine rd_blQ ?_ | with_reducible refine iteT ?_ | with_reducible refine iteF ?_ | with_reducible refine iteNotF ?_ | with_reducible refine iteNotT ?_
  | with_reducible refine rd_and ?_ | with_reducible refine rd_or ?_ | with_reducible refine rd_not ?_ | with_reducible refine rd_andV ?_ | with_reducible refine rd_orV ?_ | with_reducible refine rd_notV ?_ | with_reducible refine rd_if ?_
  | with_reducible refine rd_un ?_ | with_reducible refine rd_U ?_ | with_reducible refine rd_sub ?_ | with_reducible refine rd_tup ?_ | with_reducible refine rd_lst ?_
  | with_reducible refine rd_intI ?_ | with_reducible refine rd_absI ?_ | with_reducible refine rd_drop ?_ | with_reducible refine rd_ret ?_ | with_reducible refine rd_retN ?_ | with_reducible refine rd_next ?_ | with_reducible refine rd_bm ?_
  | with_reducible refine rd_tDGet2 ?_ | with_reducible refine rd_tDGet ?_ | with_reducible refine rd_sDPut ?_ | with_reducible refine rd_dnewK ?_ | with_reducible refine rd_nnew ?_ | with_reducible refine rd_nget ?_ | with_reducible refine rd_nget2 ?_ | with_reducible refine rd_npop ?_ | with_reducible refine rd_nput ?_ | with_reducible refine rd_dcn ?_ | with_reducible refine rd_gtup ?_ | with_reducible refine rd_gcons ?_ | with_reducible refine rd_gnil ?_ | with_reducible refine rd_lc ?_ | with_reducible refine rd_yes ?_ | with_reducible refine rd_for ?_ | with_reducible refine rd_iL ?_ | with_reducible refine rd_neS ?_ | with_reducible refine rd_neN ?_ | with_reducible refine rd_neB ?_ | with_reducible refine rd_chain ?_ | with_reducible refine rd_bm0 ?_ | with_reducible refine rd_dc ?_ | with_reducible refine rd_iN ?_ | with_reducible refine rd_iZ ?_ | with_reducible refine rd_ngetF ?_ | with_reducible refine rd_iT ?_ | with_reducible refine rd_iR1 ?_ | with_reducible refine rd_iS ?_ | with_reducible refine rd_leafS ?_ | with_reducible refine rd_sl ?_ | with_reducible refine rd_noPart ?_ | with_reducible refine rd_part ?_ | with_reducible refine rd_leafI ?_)
local macro_rules | `(tactic| walk_at "h") => `(tactic| repeat walk_at "h1")

section
variable {P : Program} {w : World} {K : PySem.W.Frag} {mg : Str → Option Value} {base : Heap}
theorem ok_doubles {f : Addr} {fd : FuncData} (F : Fun K "_doubles" "_doubles" s__doubles f fd) (T : Bi mg) (G_raising : Callee P w K mg base 2 "raising" ["part", "flat"] (spRaising K)) : FnOk P w K mg base CX0 3 f fd ["part", "flat"] (spDoubles K) := by
  refine F.ok (k := 2) sc__doubles (fun vs H Q E h => ?_) (fun cdv A outer s H vs Q E hr h => ?_)
  · obtain ⟨b, fl, R, p, rfl, _⟩ := h
    rfl
  · obtain ⟨b, fl, R, p, rfl, kR, rin, hp, q⟩ := h
    have hu := hu_of hr
    have hu20 := hu20_of hr
    have hu40 := hu40_of hr
    obtain ⟨f_raising, fd_raising, F_raising, m_raising, k_raising, b_raising⟩ := G_raising
    refine ⟨_, (pss_cons (ps_for PassesOwn.never rfl (pi_list (pe_call F_raising (hr.mono (by decide)) (by rfl) m_raising k_raising b_raising .nil pass0 (pa_cons (pv 0) (pa_cons (pv 1) pa_nil)))) (pg_name (i := 2) sc__doubles.nd rfl (.inl rfl))
    (pss_one (ps_if (pt_val (pe_callB (cr_anyK (K := K) rfl) (by rfl) T.any_ (by decide +kernel) (pa_cons (pe_lc (own := [("name", 3), ("_", 4)]) rfl sc__doubles.nd (pi_tup (pe_ix (ix_tupK (K := K)) (pe_ix (ix_tupK (K := K)) (pv 1) (pv 2) (fun _ _ => rfl)) pe_int (fun _ _ => rfl))) (blkOk_by (N := N__doubles) (sc := defScope s__doubles) (by decide +kernel)) (fun _ _ _ _ _ => (pg_tupK (K := K) 2 rfl (pgs_cons (pg_name (i := 3) sc__doubles.nd rfl (.inl rfl)) (pgs_cons (pg_name (i := 4) sc__doubles.nd rfl (.inl rfl)) pgs_nil)))) (fun _ _ _ _ _ => pts_nil) (fun _ _ _ _ _ => (pe_cmpR (op_inU (P := P) (w := w) (K := K) hu20) (pv 3) (pv 0) (by rfl)))) pa_nil))) (pss_one (ps_ret pe_bl)) pss_nil)))
  (pss_one (ps_ret pe_bl))), ?_⟩
    rw [show L2.start N__doubles [V.ref b, V.ref fl] = [some (V.ref b), some (V.ref fl), none, none, none] from rfl]
    (try dsimp only [cxOf, Cx.nox, Cx.wish])
    walk_at "h"
--B
    obtain ⟨_, vR, ea, sR, tR, nR⟩ := rows_at kR
    obtain rfl := V.ref.inj ea
    refine ⟨b, fl, R, p, rfl, kR, rin, hp, fun l H1 hl s1 => ?_⟩
    refine ⟨_, rfl, ⟨_, sql hl⟩, ?_⟩
    have hq : ∀ H', Same H1 H' → ∀ z, dblB R p = z → Q (.bl z) H' := fun H' s z e => by rw [← e]; exact q H' (s1.trans s)
    refine for_list (xs := (raisL R p R.length).map fun k => V.int (k : Nat)) (fun i σ H' => ∃ v2, σ = [some (V.ref b), some (V.ref fl), v2, none, none] ∧ Same H1 H' ∧ ∀ k ∈ (raisL R p R.length).take i, ∀ r, R[k]? = some r → (r.ps.any fun q => decide (q.1 ∈ p)) = false) ⟨_, rfl, Same.refl _, by simp⟩ (fun i σ H' _ ⟨_, _, s, _⟩ => sql (s _ _ hl)) ?_ ?_
    · rintro i x σ H2 hx ⟨v2, rfl, s2, none2⟩
      have hi : i < (raisL R p R.length).length := by
        have := (List.getElem?_eq_some_iff.mp hx).1
        simpa using this
      have km : (raisL R p R.length)[i] ∈ raisL R p R.length := List.getElem_mem hi
      have etk := take_succ hi
      obtain rfl : x = V.int ((raisL R p R.length)[i] : Nat) := by
        rw [List.getElem?_map, List.getElem?_eq_getElem hi] at hx
        exact (Option.some.inj hx).symm
      generalize (raisL R p R.length)[i] = k at *
      obtain ⟨r, er, rr⟩ := raisL_mem km
      have hk : k < R.length := (List.getElem?_eq_some_iff.mp er).1
      obtain ⟨y, ey, ky⟩ := IsKs.get (i := k) (k := rowK r) tR (by rw [List.getElem?_map, er]; rfl)
      obtain ⟨ra, pa, rfl, sr, kp⟩ := row_at ky
      obtain ⟨pa', ws, epa, sp, kws, nws⟩ := prod_at kp
      obtain rfl := V.ref.inj epa
      have tp := same_tup (K := K) (s1.trans s2)
      have l20 := rin.2 r (List.mem_of_getElem? er)
      walk_at "h"
      refine rd_ixt (tp _ _ sR) (atI_nat ey) ?_
      walk_at "h"
      refine rd_ixt (tp _ _ sr) (atI_nat (j := 3) rfl) ?_
      refine rd_leafT (tp _ _ sp) fun D nD => ?_
      refine lc_tupW (xs := ws) [some (V.ref b), some (V.ref fl), some (V.int (k : Nat)), none, none] rfl (fun j H' => Same H2 H' ∧ H' D = some (.lst (((r.ps.take j).map fun q => decide (q.1 ∈ p)).map V.bl))) ⟨same_new nD, upd_same⟩ (fun j H' _ h => same_tup h.1 _ _ (tp _ _ sp)) ?_ ?_
      · rintro j y H3 hy ⟨s3, hD⟩
        have hj : j < r.ps.length := by rw [← nws]; exact (List.getElem?_eq_some_iff.mp hy).1
        obtain ⟨qa, rfl, sq⟩ := pair_get kws hj hy
        have tp3 := same_tup (K := K) ((s1.trans s2).trans s3)
        walk_at "h"
        refine ⟨qa, _, rfl, tp3 _ _ sq, rfl, ?_⟩
        walk_at "h"
        refine ⟨rfl, ?_⟩
        walk_at "h"
        refine rd_inA (.inr (tp3 _ _ hp)) ?_
        refine ⟨_, hD, ?_, same_mut s3 nD, ?_⟩
        · rw [List.length_map, List.length_map, List.length_take]
          exact sz_lt (by omega)
        · rw [upd_same, take_succ hj, List.map_append, List.map_append]; rfl
      · rintro H3 ⟨s3, hD⟩
        rw [nws, List.take_length] at hD
        walk_at "h"
        refine ⟨D, _, rfl, sql hD, ?_⟩
        have e1 : ((r.ps.map fun q => decide (q.1 ∈ p)).any id) = r.ps.any fun q => decide (q.1 ∈ p) := by rw [List.any_map]; rfl
        rw [e1]
        walk_at "h"
        cases ha : (r.ps.any fun q => decide (q.1 ∈ p)) with
        | true =>
          walk_at "h"
          exact hq H3 (s2.trans s3) true (List.any_eq_true.mpr ⟨r, List.mem_of_getElem? er, by rw [rr, ha]; rfl⟩)
        | false =>
          walk_at "h"
          refine ⟨_, rfl, s2.trans s3, fun k' hk' r' er' => ?_⟩
          rw [etk] at hk'
          rcases List.mem_append.mp hk' with z | z
          · exact none2 k' z r' er'
          · rw [List.mem_singleton.mp z, er] at er'
            rw [← Option.some.inj er']; exact ha
    · rintro σ H2 ⟨v2, rfl, s2, none2⟩
      rw [List.length_map, List.take_length] at none2
      walk_at "h"
      refine hq H2 s2 false (Bool.eq_false_iff.mpr fun z => ?_)
      obtain ⟨r, hr, e⟩ := List.any_eq_true.mp z
      obtain ⟨k, hk, ek⟩ := List.getElem_of_mem hr
      rw [Bool.and_eq_true] at e
      have := none2 k (raisL_in (by rw [List.getElem?_eq_getElem hk, ek]) hk e.1) r (by rw [List.getElem?_eq_getElem hk, ek])
      rw [this] at e
      exact absurd e.2 Bool.false_ne_true
end
end K41
namespace K41
open PySem PySem.Spec PyProof.Rows L2 HH
local macro_rules | `(tactic| walk_at "h1") => `(tactic| first
  | with_reducible refine rd_seq ?_ | with_reducible refine rd_asg ?_ | with_reducible refine rd_op ?_
  | ((with_reducible refine' rd_var ?hv ?_); (case hv => exact rfl)) | with_reducible refine rd_c ?_
  | ((with_reducible refine rd_name ?_); dsimp only [List.set_cons_zero, List.set_cons_succ])
  | with_reducible refine rd_I0 ?_ | ((with_reducible refine rd_pow ?_ ?_ ?_ ?_); (· decide); (· decide); (· decide)) | ((with_reducible refine rd_mod ?_ ?_); (· decide)) | ((with_reducible refine rd_mulR ?_ ?_ ?_); (· decide); (· decide)) | ((with_reducible refine rd_divW (n := 64) ?_ ?_ ?_ ?_ ?_); (· decide); (· decide); (· decide); (· decide)) | with_reducible refine rd_addI ?_ | with_reducible refine rd_eqI ?_ | with_reducible refine rd_eqS ?_ | with_reducible refine rd_eqB ?_ | with_reducible refine rd_ltI ?_
  | with_reducible refine rd_callS ?_ | with_reducible refine rd_xf ?_ | with_reducible refine rd_cons ?_ | with_reducible refine rd_nil ?_ | with_reducible refine rd_cb ?_ | with_reducible refine rd_call ?_
  | with_reducible refine rd_ifs ?_ | with_reducible refine rd_test ?_ | with_reducible refine rd_tB ?_ | with_reducible refine rd_blQ ?_ | with_reducible refine iteT ?_ | with_reducible refine iteF ?_ | with_reducible refine iteNotF ?_ | with_reducible refine iteNotT ?_
  | with_reducible refine rd_and ?_ | with_reducible refine rd_or ?_ | with_reducible refine rd_not ?_ | with_reducible refine rd_andV ?_ | with_reducible refine rd_orV ?_ | with_reducible refine rd_notV ?_ | with_reducible refine rd_if ?_
  | with_reducible refine rd_un ?_ | with_reducible refine rd_U ?_ | with_reducible refine rd_sub ?_ | with_reducible refine rd_tup ?_ | with_reducible refine rd_lst ?_
  | with_reducible refine rd_intI ?_ | with_reducible refine rd_absI ?_ | with_reducible refine rd_drop ?_ | with_reducible refine rd_ret ?_ | with_reducible refine rd_retN ?_ | with_reducible refine rd_next ?_ | with_reducible refine rd_bm ?_
  | with_reducible refine rd_tDGet2 ?_ | with_reducible refine rd_tDGet ?_ | with_reducible refine rd_sDPut ?_ | with_reducible refine rd_dnewK ?_ | with_reducible refine rd_nnew ?_ | with_reducible refine rd_nget ?_ | with_reducible refine rd_nget2 ?_ | with_reducible refine rd_npop ?_ | with_reducible refine rd_nput ?_ | with_reducible refine rd_dcn ?_ | with_reducible refine rd_gtup ?_ | with_reducible refine rd_gcons ?_ | with_reducible refine rd_gnil ?_ | with_reducible refine rd_lc ?_ | with_reducible refine rd_yes ?_ | with_reducible refine rd_for ?_ | with_reducible refine rd_iL ?_ | with_reducible refine rd_neS ?_ | with_reducible refine rd_neN ?_ | with_reducible refine rd_neB ?_ | with_reducible refine rd_chain ?_ | with_reducible refine rd_bm0 ?_ | with_reducible refine rd_dc ?_ | with_reducible refine rd_iN ?_ | with_reducible refine rd_iZ ?_ | with_reducible refine rd_ngetF ?_ | with_reducible refine rd_iT ?_ | with_reducible refine rd_iR1 ?_ | with_reducible refine rd_iS ?_ | with_reducible refine rd_leafS ?_ | with_reducible refine rd_sl ?_ | with_reducible refine rd_noPart ?_ | with_reducible refine rd_part ?_ | with_reducible refine rd_leafI ?_)
local macro_rules | `(tactic| walk_at "h") => `(tactic| repeat walk_at "h1")

section
variable {P : Program} {w : World} {K : PySem.W.Frag} {mg : Str → Option Value} {base : Heap}
theorem ok_doubling {f : Addr} {fd : FuncData} (F : Fun K "doubling" "doubling" s_doubling f fd) (T : Bi mg) (G_parts : Callee P w K mg base 2 "parts" ["names", "flat"] (spParts K)) (G__doubles : Callee P w K mg base 3 "_doubles" ["part", "flat"] (spDoubles K)) : FnOk P w K mg base CX0 4 f fd ["names", "flat"] (spDoubling K) := by
  refine F.ok (k := 3) sc_doubling (fun vs H Q E h => ?_) (fun cdv A outer s H vs Q E hr h => ?_)
  · obtain ⟨nm, fl, xs, R, rfl, _⟩ := h
    rfl
  · obtain ⟨nm, fl, xs, R, rfl, hn, kR, rin, rn, so, low, lx, q⟩ := h
    have hu := hu_of hr
    have hu20 := hu20_of hr
    have hu40 := hu40_of hr
    obtain ⟨f_parts, fd_parts, F_parts, m_parts, k_parts, b_parts⟩ := G_parts; obtain ⟨f__doubles, fd__doubles, F__doubles, m__doubles, k__doubles, b__doubles⟩ := G__doubles
    refine ⟨_, (pss_one (ps_ret (pe_lc (own := [("part", 2)]) rfl sc_doubling.nd (pi_list (pe_call F_parts (hr.mono (by decide)) (by rfl) m_parts k_parts b_parts .nil pass0 (pa_cons (pv 0) (pa_cons (pv 1) pa_nil)))) (blkOk_by (N := N_doubling) (sc := defScope s_doubling) (by decide +kernel)) (fun _ _ _ _ _ => (pg_name (i := 2) sc_doubling.nd rfl (.inl rfl))) (fun _ _ _ _ _ => (pts_one (pt_val (pe_call F__doubles (hr.mono (by decide)) (by rfl) m__doubles k__doubles b__doubles .nil pass0 (pa_cons (pv 2) (pa_cons (pv 1) pa_nil)))))) (fun _ _ _ _ _ => (pv 2))))), ?_⟩
    rw [show L2.start N_doubling [V.ref nm, V.ref fl] = [some (V.ref nm), some (V.ref fl), none] from rfl]
    (try dsimp only [cxOf, Cx.nox, Cx.wish])
    walk_at "h"
--B
    refine ⟨nm, fl, xs, R, rfl, .inr hn, kR, rin, rn, so, low, lx, fun l0 L0 H1 nl0 hl0 eL zL s1 => ?_⟩
    have pL : PLs K H1 L0 := zL.pls
    refine ⟨_, rfl, ⟨_, sql hl0⟩, fun D nD => ?_⟩
    have lL : L0.length ≤ 10 := by
      have h1 := congrArg List.length eL
      rw [List.length_map, ordL_len] at h1
      have := (leftL_facts (r := TC R) (xs := xs) xs.length (Nat.le_refl _)).2.1
      omega
    refine lc_listW (xs := refsP L0) [some (V.ref nm), some (V.ref fl), none] rfl (fun i H' => Same H1 H' ∧ H' D = some (.lst (refsP ((L0.take i).filter fun q => dblB R q.2)))) ⟨same_new nD, upd_same⟩ (fun i H' _ h => sql (h.1 _ _ hl0)) ?_ ?_
    · rintro i x H2 hx ⟨s2, hD⟩
      have hi : i < L0.length := by
        have := (List.getElem?_eq_some_iff.mp hx).1
        simpa using this
      obtain rfl : x = V.ref L0[i].1 := by
        rw [List.getElem?_map, List.getElem?_eq_getElem hi] at hx
        exact (Option.some.inj hx).symm
      have qm : L0[i] ∈ L0 := List.getElem_mem hi
      have eft := filter_take (fun q : Addr × List Str => dblB R q.2) hi
      have len := List.length_filter_le (fun q : Addr × List Str => dblB R q.2) (L0.take i)
      rw [List.length_take] at len
      generalize hq : L0[i] = q0 at *
      have tp := same_tup (K := K) (s1.trans s2)
      walk_at "h"
      refine ⟨rfl, ?_⟩
      walk_at "h"
      refine ⟨q0.1, fl, R, q0.2, rfl, kR.keep tp, rin, same_tup s2 _ _ (pL q0 qm).1, fun H3 s3 => ?_⟩
      walk_at "h"
      refine ite2 (fun c => ?_) (fun c => ?_)
      · rw [if_pos c] at eft
        walk_at "h"
        refine ⟨_, s3 _ _ hD, by rw [List.length_map]; exact sz_lt (by omega), same_mut (s2.trans s3) nD, ?_⟩
        rw [upd_same, eft]
        simp [refsP]
      · rw [if_neg c, List.append_nil] at eft
        rw [eft]
        exact ⟨s2.trans s3, s3 _ _ hD⟩
    · rintro H2 ⟨s2, hD⟩
      rw [List.length_map, List.take_length] at hD
      refine q D (L0.filter fun q => dblB R q.2) H2 hD ?_ (fun z hz => (pL.keep (same_tup s2)) z (List.mem_filter.mp hz).1) (s1.trans s2)
      rw [map_filter2 (r := dblB R), eL]
      rfl
end
end K41
namespace K41
open PySem PySem.Spec PyProof.Rows L2 HH
local macro_rules | `(tactic| walk_at "h1") => `(tactic| first
  | with_reducible refine rd_seq ?_ | with_reducible refine rd_asg ?_ | with_reducible refine rd_op ?_
  | ((with_reducible refine' rd_var ?hv ?_); (case hv => exact rfl)) | with_reducible refine rd_c ?_
  | ((with_reducible refine rd_name ?_); dsimp only [List.set_cons_zero, List.set_cons_succ])
  | with_reducible refine rd_I0 ?_ | ((with_reducible refine rd_pow ?_ ?_ ?_ ?_); (· decide); (· decide); (· decide)) | ((with_reducible refine rd_mod ?_ ?_); (· decide)) | ((with_reducible refine rd_mulR ?_ ?_ ?_); (· decide); (· decide)) | ((with_reducible refine rd_divW (n := 64) ?_ ?_ ?_ ?_ ?_); (· decide); (· decide); (· decide); (· decide)) | with_reducible refine rd_addI ?_ | with_reducible refine rd_eqI ?_ | with_reducible refine rd_eqS ?_ | with_reducible refine rd_eqB ?_ | with_reducible refine rd_ltI ?_
  | with_reducible refine rd_callS ?_ | with_reducible refine rd_xf ?_ | with_reducible refine rd_cons ?_ | with_reducible refine rd_nil ?_ | with_reducible refine rd_cb ?_ | with_reducible refine rd_call ?_
  | with_reducible refine rd_ifs ?_ | with_reducible refine rd_test ?_ | with_reducible refine rd_tB ?_ | with_reducible refine rd_blQ ?_ | with_reducible refine iteT ?_ | with_reducible refine iteF ?_ | with_reducible refine iteNotF ?_ | with_reducible refine iteNotT ?_
  | with_reducible refine rd_and ?_ | with_reducible refine rd_or ?_ | with_reducible refine rd_not ?_ | with_reducible refine rd_andV ?_ | with_reducible refine rd_orV ?_ | with_reducible refine rd_notV ?_ | with_reducible refine rd_if ?_
  | with_reducible refine rd_un ?_ | with_reducible refine rd_U ?_ | with_reducible refine rd_sub ?_ | with_reducible refine rd_tup ?_ | with_reducible refine rd_lst ?_
  | with_reducible refine rd_intI ?_ | with_reducible refine rd_absI ?_ | with_reducible refine rd_drop ?_ | with_reducible refine rd_ret ?_ | with_reducible refine rd_retN ?_ | with_reducible refine rd_next ?_ | with_reducible refine rd_bm ?_
  | with_reducible refine rd_tDGet2 ?_ | with_reducible refine rd_tDGet ?_ | with_reducible refine rd_sDPut ?_ | with_reducible refine rd_dnewK ?_ | with_reducible refine rd_nnew ?_ | with_reducible refine rd_nget ?_ | with_reducible refine rd_nget2 ?_ | with_reducible refine rd_npop ?_ | with_reducible refine rd_nput ?_ | with_reducible refine rd_dcn ?_ | with_reducible refine rd_gtup ?_ | with_reducible refine rd_gcons ?_ | with_reducible refine rd_gnil ?_ | with_reducible refine rd_lc ?_ | with_reducible refine rd_yes ?_ | with_reducible refine rd_for ?_ | with_reducible refine rd_iL ?_ | with_reducible refine rd_neS ?_ | with_reducible refine rd_neN ?_ | with_reducible refine rd_neB ?_ | with_reducible refine rd_chain ?_ | with_reducible refine rd_bm0 ?_ | with_reducible refine rd_dc ?_ | with_reducible refine rd_iN ?_ | with_reducible refine rd_iZ ?_ | with_reducible refine rd_ngetF ?_ | with_reducible refine rd_iT ?_ | with_reducible refine rd_iR1 ?_ | with_reducible refine rd_iS ?_ | with_reducible refine rd_leafS ?_ | with_reducible refine rd_sl ?_ | with_reducible refine rd_noPart ?_ | with_reducible refine rd_part ?_ | with_reducible refine rd_leafI ?_)
local macro_rules | `(tactic| walk_at "h") => `(tactic| repeat walk_at "h1")

section
variable {P : Program} {w : World} {K : PySem.W.Frag} {mg : Str → Option Value} {base : Heap}
theorem flat_len {L : List (List Str)} {n : Nat} : (∀ p ∈ L, p.length ≤ n) → L.flatten.length ≤ L.length * n := by
  induction L with
  | nil => intro _; simp
  | cons p L ih =>
    intro h
    have h1 := ih fun q hq => h q (List.mem_cons_of_mem _ hq)
    have h2 := h p List.mem_cons_self
    rw [List.flatten_cons, List.length_append, List.length_cons, Nat.succ_mul]
    omega
theorem ok_calm {f : Addr} {fd : FuncData} (F : Fun K "calm_parts" "calm_parts" s_calm_parts f fd) (T : Bi mg) (G_givers : Callee P w K mg base 1 "givers" ["names", "flat"] (spGivers K)) (G_parts : Callee P w K mg base 2 "parts" ["names", "flat"] (spParts K)) (G_doubling : Callee P w K mg base 4 "doubling" ["names", "flat"] (spDoubling K)) :
    FnOk P w K mg base CX0 5 f fd ["names", "flat"] (spCalm K) := by
  refine F.ok (k := 4) sc_calm_parts (fun vs H Q E h => ?_) (fun cdv A outer s H vs Q E hr h => ?_)
  · obtain ⟨nm, fl, xs, R, rfl, _⟩ := h
    rfl
  · obtain ⟨nm, fl, xs, R, rfl, hn, kR, rin, rn, so, low, lx, q⟩ := h
    have hu := hu_of hr
    have hu20 := hu20_of hr
    have hu40 := hu40_of hr
    obtain ⟨f_givers, fd_givers, F_givers, m_givers, k_givers, b_givers⟩ := G_givers; obtain ⟨f_doubling, fd_doubling, F_doubling, m_doubling, k_doubling, b_doubling⟩ := G_doubling; obtain ⟨f_parts, fd_parts, F_parts, m_parts, k_parts, b_parts⟩ := G_parts
    have nd : xs.Nodup := strict_nodup so
    refine ⟨_, (pss_cons (ps_set (i := 2) sc_calm_parts.nd rfl (.inr rfl) (pe_call F_givers (hr.mono (by decide)) (by rfl) m_givers k_givers b_givers .nil pass0 (pa_cons (pv 0) (pa_cons (pv 1) pa_nil))))
  (pss_cons (ps_set (i := 5) sc_calm_parts.nd rfl (.inr rfl) (pe_lc2 (own := [("part", 3), ("name", 4)]) (vs1 := [4]) rfl sc_calm_parts.nd (pi_list (pe_call F_doubling (hr.mono (by decide)) (by rfl) m_doubling k_doubling b_doubling .nil pass0 (pa_cons (pv 0) (pa_cons (pv 1) pa_nil)))) (blkOk_by (N := N_calm_parts) (sc := defScope s_calm_parts) (by decide +kernel)) (by decide) (fun _ _ _ _ _ => (pg_name (i := 3) sc_calm_parts.nd rfl (.inl rfl))) (fun _ _ _ _ _ => pts_nil) (fun _ _ _ _ _ => (pi_tupK (K := K) (pv 3))) (fun _ _ _ _ _ => (pg_name (i := 4) sc_calm_parts.nd rfl (.inl rfl))) (fun _ _ _ _ _ => pts_nil) (fun _ _ _ _ _ => (pv 4))))
  (pss_one (ps_ret (pe_lc (own := [("part", 3)]) rfl sc_calm_parts.nd (pi_list (pe_call F_parts (hr.mono (by decide)) (by rfl) m_parts k_parts b_parts .nil pass0 (pa_cons (pv 0) (pa_cons (pv 1) pa_nil)))) (blkOk_by (N := N_calm_parts) (sc := defScope s_calm_parts) (by decide +kernel)) (fun _ _ _ _ _ => (pg_name (i := 3) sc_calm_parts.nd rfl (.inl rfl))) (fun _ _ _ _ _ => (pts_one (pt_not (pt_val (pe_callB (cr_anyK (K := K) rfl) (by rfl) T.any_ (by decide +kernel) (pa_cons (pe_lc (own := [("giver", 6)]) rfl sc_calm_parts.nd (pi_listK (K := K) (pe_dget hu (pv 2) (pe_ix (ix_tupK (K := K)) (pv 3) pe_int (fun _ _ => rfl)) (fun _ _ => rfl))) (blkOk_by (N := N_calm_parts) (sc := relS { kind := ScopeKind.function, names := [(Str.ofString ".0", NameKind.local), (Str.ofString "part", NameKind.local), (Str.ofString "any", NameKind.globalImplicit), (Str.ofString "behind", NameKind.free), (Str.ofString "wild", NameKind.free)], isGenerator := false, isCoroutine := false } (defScope s_calm_parts)) (by decide +kernel)) (fun _ _ _ _ _ => (pg_name (i := 6) sc_calm_parts.nd rfl (.inl rfl))) (fun _ _ _ _ _ => pts_nil) (fun _ _ _ _ _ => (pe_cmpR (op_inU (P := P) (w := w) (K := K) hu20) (pv 6) (pv 5) (by rfl)))) pa_nil)))))) (fun _ _ _ _ _ => (pv 3))))))), ?_⟩
    rw [show L2.start N_calm_parts [V.ref nm, V.ref fl] = [some (V.ref nm), some (V.ref fl), none, none, none, none, none] from rfl]
    (try dsimp only [cxOf, Cx.nox, Cx.wish])
    walk_at "h"
--B
    refine ⟨nm, fl, xs, R, rfl, .inr hn, kR, rin, rn, nd, lx, fun d ad L H1 D1 hTC hL s1 => ?_⟩
    walk_at "h"
    refine rd_lc2 ?_
    walk_at "h"
    have tp1 := same_tup (K := K) s1
    refine ⟨nm, fl, xs, R, rfl, tp1 _ _ hn, kR.keep tp1, rin, rn, so, low, lx, fun l0 L0 H2 hl0 e0 p0 s2 => ?_⟩
    refine ⟨_, rfl, ⟨_, sql hl0⟩, fun W nW => ?_⟩
    obtain ⟨d1, d2⟩ := dbl_facts (xs := xs) (R := R) rn
    rw [← e0] at d1 d2
    rw [List.length_map] at d1
    have pl0 : ∀ z ∈ L0, z.2.length ≤ 10 := fun z hz => Nat.le_trans (d2 _ (List.mem_map_of_mem hz)) lx
    refine lc2_listW (xs := refsP L0) [some (V.ref nm), some (V.ref fl), some (V.ref d), none, none, none, none] rfl (fun i H' => Same H2 H' ∧ H' W = some (.lst ((((L0.take i).map (·.2)).flatten).map V.str))) ⟨same_new nW, upd_same⟩ (fun i H' _ h => sql (h.1 _ _ hl0)) ?_ ?_
    · rintro i x H3 hx ⟨s3, h3⟩
      have hi : i < L0.length := by
        have := (List.getElem?_eq_some_iff.mp hx).1
        simpa using this
      obtain rfl : x = V.ref L0[i].1 := by
        rw [List.getElem?_map, List.getElem?_eq_getElem hi] at hx
        exact (Option.some.inj hx).symm
      have qm : L0[i] ∈ L0 := List.getElem_mem hi
      have pz := (p0 _ qm).1
      have ptl : ∀ j, (((L0.take i).map (·.2)).flatten ++ L0[i].2.take j).length ≤ 110 := fun j => by
        have h1 := flat_len (L := (L0.take i).map (·.2)) (n := 10) fun z hz => by
          obtain ⟨y, hy, rfl⟩ := List.mem_map.mp hz
          exact pl0 y (List.mem_of_mem_take hy)
        rw [List.length_map, List.length_take] at h1
        have h2 := pl0 _ qm
        have : min i L0.length * 10 ≤ 10 * 10 := Nat.mul_le_mul_right 10 (by omega)
        rw [List.length_append, List.length_take]
        omega
      have nx : ((L0.take (i + 1)).map (·.2)).flatten = ((L0.take i).map (·.2)).flatten ++ L0[i].2 := by
        rw [List.take_add_one, List.getElem?_eq_getElem hi, Option.toList_some, List.map_append, List.flatten_append]
        simp
      walk_at "h"
      refine ⟨rfl, ?_⟩
      walk_at "h"
      refine rd_leafT (same_tup s3 _ _ pz) ?_
      refine in_tup (ys := L0[i].2.map V.str) [some (V.ref nm), some (V.ref fl), some (V.ref d), some (V.ref L0[i].1), none, none, none] rfl (fun j H' => Same H2 H' ∧ H' W = some (.lst ((((L0.take i).map (·.2)).flatten ++ L0[i].2.take j).map V.str))) ⟨s3, by rw [List.take_zero, List.append_nil]; exact h3⟩ (fun j H' h => same_tup h.1 _ _ pz) ?_ ?_
      · rintro j y H4 hy ⟨s4, h4⟩
        have hj : j < L0[i].2.length := by
          have := (List.getElem?_eq_some_iff.mp hy).1
          simpa using this
        obtain rfl : y = V.str L0[i].2[j] := by
          rw [List.getElem?_map, List.getElem?_eq_getElem hj] at hy
          exact (Option.some.inj hy).symm
        walk_at "h"
        refine ⟨rfl, ?_⟩
        walk_at "h"
        refine ⟨_, h4, by rw [List.length_map]; exact sz_lt (by have := ptl j; omega), same_mut s4 nW, ?_⟩
        rw [upd_same, show L0[i].2.take (j + 1) = L0[i].2.take j ++ [L0[i].2[j]] by rw [List.take_add_one, List.getElem?_eq_getElem hj]; rfl, ← List.append_assoc, List.map_append (l₂ := [L0[i].2[j]])]
        rfl
      · rintro H4 ⟨s4, h4⟩
        rw [List.length_map, List.take_length, ← nx] at h4
        exact ⟨s4, h4⟩
    · rintro H3 ⟨s3, h3⟩
      rw [List.length_map, List.take_length, e0] at h3
      have h3' : H3 W = some (.lst ((wildL R xs).map V.str)) := h3
      have s13 := s2.trans s3
      have tp3 := same_tup (K := K) (s1.trans s13)
      have D3 := D1.keep s13
      walk_at "h"
      refine ⟨nm, fl, xs, R, rfl, .inr (tp3 _ _ hn), kR.keep tp3, rin, rn, so, low, lx, fun l1 L1 H4 nl1 hl1 e1 z1 s4 => ?_⟩
      refine ⟨_, rfl, ⟨_, sql hl1⟩, fun U nU => ?_⟩
      have D4 := D3.keep s4
      have h4 := s4 _ _ h3'
      have e1' : L1.map (·.2) = ordR R xs := e1
      have lL1 : L1.length ≤ 10 := by
        have := ordR_len (xs := xs) (R := R) rn
        rw [← e1', List.length_map] at this
        omega
      refine lc_listW (xs := refsP L1) [some (V.ref nm), some (V.ref fl), some (V.ref d), none, none, some (V.ref W), none] rfl (fun i H' => Same H4 H' ∧ H' U = some (.lst (refsP ((L1.take i).filter fun q => calmB R xs q.2)))) ⟨same_new nU, upd_same⟩ (fun i H' _ h => sql (h.1 _ _ hl1)) ?_ ?_
      · rintro i x H5 hx ⟨s5, h5⟩
        have hi : i < L1.length := by
          have := (List.getElem?_eq_some_iff.mp hx).1
          simpa using this
        obtain rfl : x = V.ref L1[i].1 := by
          rw [List.getElem?_map, List.getElem?_eq_getElem hi] at hx
          exact (Option.some.inj hx).symm
        have qm : L1[i] ∈ L1 := List.getElem_mem hi
        have eft := filter_take (fun q : Addr × List Str => calmB R xs q.2) hi
        have len := List.length_filter_le (fun q : Addr × List Str => calmB R xs q.2) (L1.take i)
        rw [List.length_take] at len
        generalize hq : L1[i] = q0 at qm eft
        obtain ⟨x0, hx0, ep⟩ := ordR_is rn (by rw [← e1']; exact List.mem_map_of_mem qm)
        have ne0 : q0.2 ≠ [] := by rw [ep]; exact part_ne hx0
        have hdm : hd q0.2 ∈ xs := by rw [ep]; exact part_hd hx0
        have D5 := D4.keep s5
        have at0 : atI (q0.2.map V.str) 0 = some (V.str (hd q0.2)) := at_hd ne0
        walk_at "h"
        refine ⟨rfl, ?_⟩
        walk_at "h"
        refine rd_ixt ((z1 q0 qm).1.keep s5).seq at0 ?_
        refine ⟨d, _, rfl, D5.get hdm, ?_⟩
        refine ⟨_, rfl, ⟨_, sql (D5.l _ hdm)⟩, ?_⟩
        intro ie nie
        have uie : U ≠ ie := ne_of_none h5 nie
        refine lc_listW (xs := (L (hd q0.2)).map V.str) [some (V.ref nm), some (V.ref fl), some (V.ref d), some (V.ref q0.1), none, some (V.ref W), none] rfl
          (fun k H' => Same H5 H' ∧ H' ie = some (.lst ((((L (hd q0.2)).take k).map fun g => decide (g ∈ wildL R xs)).map V.bl))) ⟨same_new nie, upd_same⟩ (fun k H' _ h => sql (h.1 _ _ (D5.l _ hdm))) ?_ ?_
        · rintro k y H6 hy ⟨s6, h6⟩
          have hk : k < (L (hd q0.2)).length := by
            have := (List.getElem?_eq_some_iff.mp hy).1
            simpa using this
          obtain rfl : y = V.str (L (hd q0.2))[k] := by
            rw [List.getElem?_map, List.getElem?_eq_getElem hk] at hy
            exact (Option.some.inj hy).symm
          have l10 := hL _ hdm
          walk_at "h"
          refine ⟨rfl, ?_⟩
          walk_at "h"
          refine rd_inA (.inl (sql (s6 _ _ (s5 _ _ h4)))) ?_
          refine ⟨_, h6, ?_, same_mut s6 nie, ?_⟩
          · rw [List.length_map, List.length_map, List.length_take]
            exact sz_lt (by omega)
          · rw [upd_same, List.take_add_one, List.getElem?_eq_getElem hk, Option.toList_some, List.map_append, List.map_append]
            rfl
        · rintro H6 ⟨s6, h6⟩
          rw [List.length_map, List.take_length] at h6
          walk_at "h"
          refine ⟨ie, _, rfl, sql h6, ?_⟩
          have h56 := s6 _ _ h5
          have eB : (!(((L (hd q0.2)).map fun g => decide (g ∈ wildL R xs)).any id)) = calmB R xs q0.2 := by
            have e : ((((L (hd q0.2)).map fun g => decide (g ∈ wildL R xs)).any id) = true) ↔ ¬ (calmB R xs q0.2 = true) := by
              rw [calmB_iff, List.any_map, List.any_eq_true]
              constructor
              · rintro ⟨g, hg, c⟩ h
                exact h g ((hTC _ hdm g).mp hg) (of_decide_eq_true c)
              · intro h
                refine Classical.byContradiction fun h2 => h fun g hg hw => h2 ⟨g, (hTC _ hdm g).mpr hg, decide_eq_true hw⟩
            cases c : calmB R xs q0.2 with
            | true =>
              cases c2 : (((L (hd q0.2)).map fun g => decide (g ∈ wildL R xs)).any id) with
              | false => rfl
              | true => exact absurd c (e.mp c2)
            | false => rw [e.mpr (by rw [c]; exact Bool.false_ne_true)]; rfl
          walk_at "h"
          rw [eB]
          refine ite2 (fun c => ?_) (fun c => ?_)
          · rw [if_pos c] at eft
            walk_at "h"
            refine ⟨_, h56, by rw [List.length_map]; exact sz_lt (by omega), same_mut (s5.trans s6) nU, by rw [upd_same, eft]; simp [refsP]⟩
          · rw [if_neg c, List.append_nil] at eft
            exact ⟨s5.trans s6, by rw [eft]; exact h56⟩
      · rintro H5 ⟨s5, h5⟩
        rw [List.length_map, List.take_length] at h5
        refine q U _ H5 ((s1.trans s13).trans s4 |>.free nU) h5 ?_ (fun z hz => (z1.keep s5) z (List.mem_filter.mp hz).1) ((s1.trans s13).trans (s4.trans s5))
        rw [map_filter2 (r := calmB R xs), e1']
        rfl
end
end K41
namespace K41
open PySem PySem.Spec PyProof.Rows L2 HH
/-! ### what the packed sums of the parts are worth -/
def ev (Z : List Str) (v : Str → Int) (m : Pl) : Int := evP Z.length (Z.map v) m
def ctr (Z : List Str) (A : Str → Pl) (v : Str → Int) (r : FRow) : Int := (if r.add = true then v "#" else 1) * (r.co * wprod (fun y => ev Z v (A y)) r.ps)
def Ufm (Z : List Str) (R : List FRow) (A : Str → Pl) (p : List Str) (v : Str → Int) : Int := (p.map v).sum + ((R.filter (raisR p)).map (ctr Z A v)).sum
def Bn : Nat → Int
  | 0 => 1
  | 1 => 100
  | 2 => 1000000
  | _ => 100000000000000
def Dn (i : Nat) : Nat := 2 ^ i - 1
theorem Bn_pos (i : Nat) : 1 ≤ Bn i := by
  match i with
  | 0 => decide
  | 1 => decide
  | 2 => decide
  | _ + 3 => show (1 : Int) ≤ 100000000000000; decide
theorem Bn_mono {i j : Nat} (h : i ≤ j) : Bn i ≤ Bn j := by
  match i, j with
  | 0, 0 => decide
  | 0, 1 => decide
  | 0, 2 => decide
  | 0, _ + 3 => show (1 : Int) ≤ 100000000000000; decide
  | 1, 0 => omega
  | 1, 1 => decide
  | 1, 2 => decide
  | 1, _ + 3 => show (100 : Int) ≤ 100000000000000; decide
  | 2, 0 => omega
  | 2, 1 => omega
  | 2, 2 => decide
  | 2, _ + 3 => show (1000000 : Int) ≤ 100000000000000; decide
  | _ + 3, 0 => omega
  | _ + 3, 1 => omega
  | _ + 3, 2 => omega
  | _ + 3, _ + 3 => exact Int.le_refl _
structure RowsB (xs : List Str) (R : List FRow) : Prop where
  rn : RowsN xs R
  le : R.length ≤ 6
  row : ∀ r ∈ R, 1 ≤ r.co ∧ r.co ≤ 3 ∧ degP r.ps ≤ 2 ∧ ∀ q ∈ r.ps, 1 ≤ q.2
/-- all names between one and four -/
def VOk (xs : List Str) (v : Str → Int) : Prop := ∀ z ∈ Zs xs, 1 ≤ v z ∧ v z ≤ 4
structure PAt (xs : List Str) (R : List FRow) (A : Str → Pl) (i : Nat) : Prop where
  ok : ∀ j p, j < i → (calmL R xs)[j]? = some p → ∀ x ∈ p, PolyOk (Zs xs).length (Dn (j + 1)) (A x) ∧ ∀ v, ev (Zs xs) v (A x) = Ufm (Zs xs) R A p v
  bn : ∀ j p, j < i → (calmL R xs)[j]? = some p → ∀ x ∈ p, ∀ v, VOk xs v → ev (Zs xs) v (A x) ≤ Bn (j + 1)
theorem wprod_congr {f g : Str → Int} : ∀ {ps : Tab}, (∀ q ∈ ps, f q.1 = g q.1) → wprod f ps = wprod g ps
  | [], _ => rfl
  | q :: ps, h => by rw [wprod, wprod, h q List.mem_cons_self, wprod_congr fun r hr => h r (List.mem_cons_of_mem _ hr)]
theorem sum_le_len {B : Int} : ∀ {l : List Int}, (∀ x ∈ l, x ≤ B) → l.sum ≤ l.length * B
  | [], _ => by simp
  | a :: l, h => by
    have h1 := sum_le_len (l := l) fun x hx => h x (List.mem_cons_of_mem _ hx)
    have h2 := h a List.mem_cons_self
    rw [List.sum_cons, List.length_cons]
    have : ((l.length + 1 : Nat) : Int) * B = l.length * B + B := by rw [Int.natCast_add, Int.add_mul]; simp
    omega
theorem sum_mono2 {α : Type} {f g : α → Int} : ∀ {l : List α}, (∀ x ∈ l, f x ≤ g x) → (l.map f).sum ≤ (l.map g).sum
  | [], _ => Int.le_refl _
  | a :: l, h => by
    have h1 := sum_mono2 (l := l) fun x hx => h x (List.mem_cons_of_mem _ hx)
    have h2 := h a List.mem_cons_self
    simp only [List.map_cons, List.sum_cons]
    omega
section
variable {xs : List Str} {R : List FRow} {A : Str → Pl} {i : Nat}
theorem vpos {v : Str → Int} (h : VOk xs v) : ∀ u ∈ (Zs xs).map v, 1 ≤ u := fun u hu => by
  obtain ⟨z, hz, rfl⟩ := List.mem_map.mp hu
  exact (h z hz).1
/-- the letters of a raising row of part i: worth at most so much -/
theorem PAt.let (P : PAt xs R A i) (rb : RowsB xs R) {p : List Str} (hp : (calmL R xs)[i]? = some p) {r : FRow} (hr : r ∈ R) (rz : raisR p r = true) {q : Str × Int} (hq : q ∈ r.ps) :
    PolyOk (Zs xs).length (Dn i) (A q.1) ∧ ∀ v, VOk xs v → 0 ≤ ev (Zs xs) v (A q.1) ∧ ev (Zs xs) v (A q.1) ≤ Bn i := by
  obtain ⟨j, p', hj, hp', hg⟩ := calm_back rb.rn hp hr rz hq
  have po := (P.ok j p' hj hp' _ hg).1
  refine ⟨po.mono ?_, fun v hv => ⟨po.ev_nn (vpos hv), Int.le_trans (P.bn j p' hj hp' _ hg v hv) (Bn_mono hj)⟩⟩
  unfold Dn
  have := Nat.pow_le_pow_right (show 0 < 2 by decide) hj
  omega
theorem PAt.ctr_le (P : PAt xs R A i) (rb : RowsB xs R) {p : List Str} (hp : (calmL R xs)[i]? = some p) {r : FRow} (hr : r ∈ R) (rz : raisR p r = true) {v : Str → Int} (hv : VOk xs v) :
    0 ≤ ctr (Zs xs) A v r ∧ ctr (Zs xs) A v r ≤ 4 * (3 * (Bn i * Bn i)) := by
  obtain ⟨c1, c2, dg, _⟩ := rb.row r hr
  obtain ⟨w0, w1⟩ := wprod_le (f := fun y => ev (Zs xs) v (A y)) (Bn_pos i) (ps := r.ps) fun q hq => (P.let rb hp hr rz hq).2 v hv
  have b1 := Bn_pos i
  have bb : Bn i ≤ Bn i * Bn i := by
    have := Int.mul_le_mul_of_nonneg_left b1 (show 0 ≤ Bn i by omega)
    omega
  have w2 : wprod (fun y => ev (Zs xs) v (A y)) r.ps ≤ Bn i * Bn i := by
    refine Int.le_trans w1 ?_
    have : degP r.ps = 0 ∨ degP r.ps = 1 ∨ degP r.ps = 2 := by omega
    rcases this with e | e | e
    · rw [e, Int.pow_zero]; omega
    · rw [e, Int.pow_succ, Int.pow_zero, Int.one_mul]; exact bb
    · rw [e, Int.pow_succ, Int.pow_succ, Int.pow_zero, Int.one_mul]; exact Int.le_refl _
  have w3 : 0 ≤ r.co * wprod (fun y => ev (Zs xs) v (A y)) r.ps := Int.mul_nonneg (by omega) w0
  have w4 : r.co * wprod (fun y => ev (Zs xs) v (A y)) r.ps ≤ 3 * (Bn i * Bn i) := Int.mul_le_mul c2 w2 w0 (by decide)
  have k1 : 0 ≤ (if r.add = true then v "#" else 1) ∧ (if r.add = true then v "#" else 1) ≤ 4 := by
    split
    · have := hv "#" List.mem_cons_self
      omega
    · decide
  exact ⟨Int.mul_nonneg k1.1 w3, Int.mul_le_mul k1.2 w4 w3 (by decide)⟩
theorem calm_sub (rn : RowsN xs R) {p : List Str} (h : p ∈ calmL R xs) : (∀ z ∈ p, z ∈ xs) ∧ p.length ≤ xs.length := by
  obtain ⟨x, hx, e⟩ := ordR_is rn (calm_mem h).1
  rw [e]
  exact ⟨fun z hz => (mem_part.mp hz).1, part_le⟩
theorem PAt.step (P : PAt xs R A i) (rb : RowsB xs R) (lx : xs.length ≤ 3) {p : List Str} (hp : (calmL R xs)[i]? = some p) {m : Pl} (pm : PolyOk (Zs xs).length (Dn (i + 1)) m) (em : ∀ v, ev (Zs xs) v m = Ufm (Zs xs) R A p v) :
    PAt xs R (fun y => if y ∈ p then m else A y) (i + 1) := by
  have pin := List.mem_of_getElem? hp
  have same : ∀ j p', j ≤ i → (calmL R xs)[j]? = some p' → ∀ v, Ufm (Zs xs) R (fun y => if y ∈ p then m else A y) p' v = Ufm (Zs xs) R A p' v := fun j p' hj hp' v => by
    unfold Ufm
    congr 2
    refine List.map_congr_left fun r hr => ?_
    obtain ⟨hr1, hr2⟩ := List.mem_filter.mp hr
    unfold ctr
    congr 2
    refine wprod_congr fun q hq => ?_
    obtain ⟨k, p2, hk, hp2, hg⟩ := calm_back rb.rn hp' hr1 hr2 hq
    have : q.1 ∉ p := fun h => by
      have := calm_apart rb.rn hp2 hp hg h
      omega
    show ev (Zs xs) v (if q.1 ∈ p then m else A q.1) = _
    rw [if_neg this]
  have lcl : i < 3 := by
    have h1 := (List.getElem?_eq_some_iff.mp hp).1
    have h2 := calm_len (xs := xs) (R := R) rb.rn
    omega
  refine ⟨fun j p' hj hp' x hx => ?_, fun j p' hj hp' x hx v hv => ?_⟩
  · by_cases e : j = i
    · subst e
      obtain rfl := Option.some.inj (hp.symm.trans hp')
      try dsimp only
      rw [if_pos hx]
      exact ⟨pm, fun v => (em v).trans (same j p (Nat.le_refl _) hp' v).symm⟩
    · have : x ∉ p := fun h => e (calm_apart rb.rn hp' hp hx h)
      try dsimp only
      rw [if_neg this]
      obtain ⟨a, b⟩ := P.ok j p' (by omega) hp' x hx
      exact ⟨a, fun v => (b v).trans (same j p' (by omega) hp' v).symm⟩
  · by_cases e : j = i
    · subst e
      obtain rfl := Option.some.inj (hp.symm.trans hp')
      try dsimp only
      rw [if_pos hx, em]
      unfold Ufm
      obtain ⟨ps1, ps2⟩ := calm_sub rb.rn pin
      have s1 : (p.map v).sum ≤ p.length * 4 := by
        have := sum_le_len (B := 4) (l := p.map v) fun y hy => by
          obtain ⟨z, hz, rfl⟩ := List.mem_map.mp hy
          exact (hv z (List.mem_cons_of_mem _ (ps1 z hz))).2
        rwa [List.length_map] at this
      have s2 : ((R.filter (raisR p)).map (ctr (Zs xs) A v)).sum ≤ ((R.filter (raisR p)).length : Int) * (4 * (3 * (Bn j * Bn j))) := by
        have := sum_le_len (B := 4 * (3 * (Bn j * Bn j))) (l := (R.filter (raisR p)).map (ctr (Zs xs) A v)) fun y hy => by
          obtain ⟨r, hr, rfl⟩ := List.mem_map.mp hy
          obtain ⟨hr1, hr2⟩ := List.mem_filter.mp hr
          exact (P.ctr_le rb hp hr1 hr2 hv).2
        rwa [List.length_map] at this
      have s3 : (R.filter (raisR p)).length ≤ 6 := Nat.le_trans (List.length_filter_le _ _) rb.le
      have s4 : ((R.filter (raisR p)).length : Int) * (4 * (3 * (Bn j * Bn j))) ≤ 6 * (4 * (3 * (Bn j * Bn j))) := Int.mul_le_mul_of_nonneg_right (by omega) (by
        have := Bn_pos j
        have := Int.mul_nonneg (show 0 ≤ Bn j by omega) (show 0 ≤ Bn j by omega)
        omega)
      have s5 : 12 + 6 * (4 * (3 * (Bn j * Bn j))) ≤ Bn (j + 1) := by
        have : j = 0 ∨ j = 1 ∨ j = 2 := by omega
        rcases this with e | e | e <;> rw [e] <;> decide
      have s6 : (p.length : Int) * 4 ≤ 12 := by omega
      omega
    · have : x ∉ p := fun h => e (calm_apart rb.rn hp' hp hx h)
      try dsimp only
      rw [if_neg this]
      exact P.bn j p' (by omega) hp' x hx v hv
/-- the raising rows, by their places -/
theorem rais_sum (g : FRow → Int) (p : List Str) : ∀ {n : Nat}, n ≤ R.length → ((raisL R p n).map fun k => match R[k]? with | some r => g r | none => 0).sum = (((R.take n).filter (raisR p)).map g).sum
  | 0, _ => rfl
  | n + 1, h => by
    have ih := rais_sum g p (n := n) (by omega)
    rw [raisL_succ p h, filter_take _ h, List.map_append, List.map_append, List.sum_append, List.sum_append, ih]
    congr 1
    split
    · simp [List.getElem?_eq_getElem h]
    · rfl
end
/-- one pair of the paper, as it stands -/
structure Ent where
  pa : Addr
  qa : Addr
  sa : Addr
  p : List Str
  S : Sm
structure SumFor (Z : List Str) (S : Sm) (m : Pl) : Prop where
  len : S.length ≤ 100000
  trm : ∀ q ∈ S, (∃ c, (c, q.1) ∈ m) ∧ (∀ p ∈ q.2, p.1 ∈ Z ∧ 1 ≤ p.2) ∧ degP q.2 ≤ 7
  wor : ∀ mm : Tab, worthS mm S = ev Z (fun z => (tget mm z).getD 0) m
structure EntOk (K : PySem.W.Frag) (H : Hp) (Z : List Str) (A : Str → Pl) (e : Ent) : Prop where
  pr : SqT K H e.pa [.ref e.qa, .ref e.sa]
  zt : ZT H e.qa (e.p.map V.str)
  su : IsK K H (sumK e.S) (.ref e.sa)
  wo : ∀ x ∈ e.p, SumFor Z e.S (A x)
theorem EntOk.keep {K : PySem.W.Frag} {H H' : Hp} {Z : List Str} {A : Str → Pl} {e : Ent} (h : EntOk K H Z A e) (s : Same H H') : EntOk K H' Z A e := ⟨same_tup s _ _ h.pr, h.zt.keep s, h.su.keep (same_tup s), h.wo⟩
theorem EntOk.wr {K : PySem.W.Frag} {H : Hp} {Z : List Str} {A : Str → Pl} {e : Ent} {l : Addr} {o u : HO} (h : EntOk K H Z A e) (hl : H l = some u) (n1 : ∀ xs, u ≠ .tup xs) (n2 : ∀ ob xs, u ≠ .frz ob (.tup xs)) : EntOk K (upd H l o) Z A e := by
  have t : Tup K H (upd H l o) := tup_upd hl n1 n2
  refine ⟨t _ _ h.pr, ?_, h.su.keep t, h.wo⟩
  obtain ⟨ob, f, hq⟩ := h.zt
  refine ⟨ob, f, ?_⟩
  rw [upd_ne (fun z => n2 ob _ (by rw [z, hl] at hq; exact Option.some.inj hq))]
  exact hq
theorem EntOk.new {K : PySem.W.Frag} {H : Hp} {Z : List Str} {A B : Str → Pl} {e : Ent} (h : EntOk K H Z A e) (g : ∀ x ∈ e.p, A x = B x) : EntOk K H Z B e := ⟨h.pr, h.zt, h.su, fun x hx => by rw [← g x hx]; exact h.wo x hx⟩
/-- all but two stay -/
def Fr2 (p q : Addr) (H H' : Hp) : Prop := ∀ b o, b ≠ p → b ≠ q → H b = some o → H' b = some o
theorem Fr2.tup {K : PySem.W.Frag} {p q : Addr} {H H' : Hp} {kv : List (L2.Key × V)} {ys : List V} (f : Fr2 p q H H') (hp : H p = some (.dK kv)) (hq : H q = some (.lst ys)) : Tup K H H' := fun a xs h => by
  rcases h with (h | ⟨o, h⟩) | h
  · exact .inl (.inl (f _ _ (ne_of h hp (fun z => nomatch z)) (ne_of h hq (fun z => nomatch z)) h))
  · exact .inl (.inr ⟨o, f _ _ (ne_of h hp (fun z => nomatch z)) (ne_of h hq (fun z => nomatch z)) h⟩)
  · exact .inr h
theorem Fr2.zt {p q : Addr} {H H' : Hp} {kv : List (L2.Key × V)} {ys : List V} (f : Fr2 p q H H') (hp : H p = some (.dK kv)) (hq : H q = some (.lst ys)) {a : Addr} {xs : List V} (z : ZT H a xs) : ZT H' a xs := by
  obtain ⟨o, c, e⟩ := z
  exact ⟨o, c, f _ _ (ne_of e hp (fun z => nomatch z)) (ne_of e hq (fun z => nomatch z)) e⟩
theorem fr_tupD {K : PySem.W.Frag} {p : Addr} {H H' : Hp} {kv : List (L2.Key × V)} (f : HH.Fr p H H') (hp : H p = some (.dK kv)) : Tup K H H' := fun a xs h => by
  rcases h with (h | ⟨o, h⟩) | h
  · exact .inl (.inl (f _ _ (ne_of h hp (fun z => nomatch z)) h))
  · exact .inl (.inr ⟨o, f _ _ (ne_of h hp (fun z => nomatch z)) h⟩)
  · exact .inr h
theorem fr_ztD {p : Addr} {H H' : Hp} {kv : List (L2.Key × V)} (f : HH.Fr p H H') (hp : H p = some (.dK kv)) {a : Addr} {xs : List V} (z : ZT H a xs) : ZT H' a xs := by
  obtain ⟨o, c, e⟩ := z
  exact ⟨o, c, f _ _ (ne_of e hp (fun z => nomatch z)) e⟩
theorem EntOk.fr {K : PySem.W.Frag} {H H' : Hp} {Z : List Str} {A : Str → Pl} {e : Ent} {l : Addr} {kv : List (L2.Key × V)} (h : EntOk K H Z A e) (f : HH.Fr l H H') (hl : H l = some (.dK kv)) : EntOk K H' Z A e := ⟨fr_tupD f hl _ _ h.pr, fr_ztD f hl h.zt, h.su.keep (fr_tupD f hl), h.wo⟩
def spPaper (K : PySem.W.Frag) : Sp := fun vs H Q _ => ∃ (nm fl : Addr) (xs : List Str) (R : List FRow), vs = [.ref nm, .ref fl] ∧ SqT K H nm (xs.map V.str) ∧ IsK K H (rowsK R) (.ref fl) ∧ RowsIn R ∧ RowsB xs R ∧ xs.Pairwise SLt ∧ (∀ x ∈ xs, Low x) ∧ xs.length ≤ 3 ∧
  ∀ (t : Addr) (L : List Ent) (A : Str → Pl) (H' : Hp), SqT K H' t (L.map fun e => V.ref e.pa) → L.map (·.p) = calmL R xs → (∀ e ∈ L, EntOk K H' (Zs xs) A e) → PAt xs R A (calmL R xs).length → Same H H' → Q (.ref t) H'
end K41
namespace K41
open PySem PySem.Spec PyProof.Rows L2 HH
local macro_rules | `(tactic| walk_at "h1") => `(tactic| first
  | with_reducible refine rd_seq ?_ | with_reducible refine rd_asg ?_ | with_reducible refine rd_op ?_
  | ((with_reducible refine' rd_var ?hv ?_); (case hv => exact rfl)) | with_reducible refine rd_c ?_
  | ((with_reducible refine rd_name ?_); dsimp only [List.set_cons_zero, List.set_cons_succ])
  | with_reducible refine rd_I0 ?_ | ((with_reducible refine rd_pow ?_ ?_ ?_ ?_); (· decide); (· decide); (· decide)) | ((with_reducible refine rd_mod ?_ ?_); (· decide)) | ((with_reducible refine rd_mulR ?_ ?_ ?_); (· decide); (· decide)) | ((with_reducible refine rd_divW (n := 64) ?_ ?_ ?_ ?_ ?_); (· decide); (· decide); (· decide); (· decide)) | with_reducible refine rd_addI ?_ | with_reducible refine rd_eqI ?_ | with_reducible refine rd_eqS ?_ | with_reducible refine rd_eqB ?_ | with_reducible refine rd_ltI ?_
  | with_reducible refine rd_callS ?_ | with_reducible refine rd_xf ?_ | with_reducible refine rd_cons ?_ | with_reducible refine rd_nil ?_ | with_reducible refine rd_cb ?_ | with_reducible refine rd_call ?_
  | with_reducible refine rd_ifs ?_ | with_reducible refine rd_test ?_ | with_reducible refine rd_tB ?_ | with_reducible refine rd_blQ ?_ | with_reducible refine iteT ?_ | with_reducible refine iteF ?_ | with_reducible refine iteNotF ?_ | with_reducible refine iteNotT ?_
  | with_reducible refine rd_and ?_ | with_reducible refine rd_or ?_ | with_reducible refine rd_not ?_ | with_reducible refine rd_andV ?_ | with_reducible refine rd_orV ?_ | with_reducible refine rd_notV ?_ | with_reducible refine rd_if ?_
  | with_reducible refine rd_un ?_ | with_reducible refine rd_U ?_ | with_reducible refine rd_sub ?_ | with_reducible refine rd_tup ?_ | with_reducible refine rd_lst ?_
  | with_reducible refine rd_intI ?_ | with_reducible refine rd_absI ?_ | with_reducible refine rd_drop ?_ | with_reducible refine rd_ret ?_ | with_reducible refine rd_retN ?_ | with_reducible refine rd_next ?_ | with_reducible refine rd_bm ?_
  | with_reducible refine rd_tDGet2 ?_ | with_reducible refine rd_tDGet ?_ | with_reducible refine rd_sDPut ?_ | with_reducible refine rd_dnewK ?_ | with_reducible refine rd_nnew ?_ | with_reducible refine rd_nget ?_ | with_reducible refine rd_nget2 ?_ | with_reducible refine rd_npop ?_ | with_reducible refine rd_nput ?_ | with_reducible refine rd_dcn ?_ | with_reducible refine rd_gtup ?_ | with_reducible refine rd_gcons ?_ | with_reducible refine rd_gnil ?_ | with_reducible refine rd_lc ?_ | with_reducible refine rd_yes ?_ | with_reducible refine rd_for ?_ | with_reducible refine rd_iL ?_ | with_reducible refine rd_neS ?_ | with_reducible refine rd_neN ?_ | with_reducible refine rd_neB ?_ | with_reducible refine rd_chain ?_ | with_reducible refine rd_bm0 ?_ | with_reducible refine rd_dc ?_ | with_reducible refine rd_iN ?_ | with_reducible refine rd_iZ ?_ | with_reducible refine rd_ngetF ?_ | with_reducible refine rd_iT ?_ | with_reducible refine rd_iR1 ?_ | with_reducible refine rd_iS ?_ | with_reducible refine rd_leafS ?_ | with_reducible refine rd_sl ?_ | with_reducible refine rd_noPart ?_ | with_reducible refine rd_part ?_ | with_reducible refine rd_leafI ?_)
local macro_rules | `(tactic| walk_at "h") => `(tactic| repeat walk_at "h1")

section
variable {P : Program} {w : World} {K : PySem.W.Frag} {mg : Str → Option Value} {base : Heap}
theorem zip_snoc (Z : List Str) {i : Nat} (h : i < Z.length) : plT (Z.take (i + 1)) = (plT (Z.take i) ++ [(Z[i], ((64 * i : Nat) : Int))] : Tab) := by
  unfold plT
  rw [List.take_add_one, List.getElem?_eq_getElem h, Option.toList_some, List.zipIdx_append, List.map_append]
  simp [Nat.min_eq_left (Nat.le_of_lt h)]
theorem ok_places {f : Addr} {fd : FuncData} (F : Fun K "places_of" "places_of" s_places_of f fd) (T : Bi mg) (gW : ∃ t, mg "WIDTH" = some (.int 64 t)) : FnOk P w K mg base CX0 1 f fd ["names"] (spPlaces K) := by
  refine F.ok (k := 0) sc_places_of (fun vs H Q E h => ?_) (fun cdv A outer s H vs Q E hr h => ?_)
  · obtain ⟨t, xs, rfl, _⟩ := h
    rfl
  · obtain ⟨t, xs, rfl, ht, lx, nd, q⟩ := h
    have hu := hu_of hr
    have hu20 := hu20_of hr
    have hu40 := hu40_of hr
    obtain ⟨t8, c_WIDTH⟩ := gW
    refine ⟨_, (pss_one (ps_ret (pe_dc (own := [("k", 1), ("name", 2)]) rfl sc_places_of.nd (pi_enumL (K := K) (by rfl) T.enum_ (pa_cons (pe_lst (pa_cons pe_str (pa_starK (K := K) (pv 0) pa_nil))) pa_nil)) (blkOk_by (N := N_places_of) (sc := defScope s_places_of) (by decide +kernel)) (fun _ _ _ _ _ => (pg_tupK (K := K) 2 rfl (pgs_cons (pg_name (i := 1) sc_places_of.nd rfl (.inl rfl)) (pgs_cons (pg_name (i := 2) sc_places_of.nd rfl (.inl rfl)) pgs_nil)))) (fun _ _ _ _ _ => pts_nil) (fun _ _ _ _ _ => (pv 2)) (fun _ _ _ _ _ => (pe_op op_mul (pv 1) (pe_glob (v := .int 64) (by rfl) c_WIDTH ⟨_, rfl⟩)))))), ?_⟩
    rw [show L2.start N_places_of [V.ref t] = [some (V.ref t), none, none] from rfl]
    (try dsimp only [cxOf, Cx.nox, Cx.wish])
    walk_at "h"
--B
    refine rd_iEnumL ?_
    walk_at "h"
    refine rd_star ?_
    walk_at "h"
    refine ⟨t, xs.map V.str, rfl, .inl ht, ?_⟩
    walk_at "h"
    rw [List.append_nil]
    refine ⟨by rw [List.length_cons, List.length_map]; exact sz_le (by omega), fun l nl => ?_⟩
    have s1 : Same H (upd H l (.lst (V.str (Str.ofString "#") :: xs.map V.str))) := same_new nl
    have h1 : (upd H l (.lst (V.str (Str.ofString "#") :: xs.map V.str))) l = some (.lst ((Zs xs).map V.str)) := upd_same
    generalize upd H l (.lst (V.str (Str.ofString "#") :: xs.map V.str)) = H1 at s1 h1
    walk_at "h"
    refine ⟨l, _, rfl, sql h1, ?_⟩
    intro f0 nf
    have lZ : (Zs xs).length ≤ 11 := by rw [Zs, List.length_cons]; omega
    generalize Zs xs = Z at *
    refine dc_itW walk_enum [some (V.ref t), none, none] rfl (fun i H' => Same H1 H' ∧ H' f0 = some (.dK (tabV (plT (Z.take i))))) ⟨same_new nf, upd_same⟩ (fun i H' _ h => sql (h.1 _ _ h1)) ?_ ?_
    · rintro i x H2 H3 hi ⟨s2, h2⟩ ⟨u, k0, y0, rfl, nu, rfl, ek, ey⟩
      rw [List.length_map] at hi
      obtain rfl := Option.some.inj ek
      dsimp only at ey
      rw [List.getElem?_map, List.getElem?_eq_getElem hi] at ey
      obtain rfl := Option.some.inj ey
      have fu : f0 ≠ u := ne_of_none h2 nu
      have s3 := s2.trans (same_new (o := .tup [.int (i : Nat), .str Z[i]]) nu)
      have h3 : (upd H2 u (.tup [.int (i : Nat), .str Z[i]])) f0 = some (.dK (tabV (plT (Z.take i)))) := by rw [upd_ne fu]; exact h2
      have ht3 : (upd H2 u (.tup [.int (i : Nat), .str Z[i]])) u = some (.tup [.int (i : Nat), .str Z[i]]) := upd_same
      generalize upd H2 u (.tup [.int (i : Nat), .str Z[i]]) = H3 at s3 h3 ht3
      walk_at "h"
      refine ⟨u, _, rfl, sqt ht3, rfl, ?_⟩
      walk_at "h"
      refine ⟨rfl, ?_⟩
      walk_at "h"
      refine ⟨_, Sum.inr Z[i], rfl, h3, ?_, same_mut s3 nf, ?_⟩
      · rw [tabV_len]
        have : (plT (Z.take i)).length ≤ i := by unfold plT; rw [List.length_map, List.length_zipIdx, List.length_take]; omega
        exact sz_lt (by omega)
      · have hz : Z[i] ∉ (plT (Z.take i)).map (·.1) := fun q => by
          rw [plT_keys] at q
          obtain ⟨j, hj, ej⟩ := List.getElem_of_mem q
          rw [List.length_take] at hj
          rw [List.getElem_take] at ej
          exact (List.pairwise_iff_getElem.mp nd) j i (by omega) hi (by omega) ej
        rw [upd_same, putK_tab, zip_snoc Z hi]
        unfold tput
        rw [if_neg hz, show (64 * i : Nat) = i * 64 by omega]
        rfl
    · rintro H2 ⟨s2, h2⟩
      rw [List.length_map, List.take_length] at h2
      exact q f0 H2 h2 (s1.trans s2)
end
end K41
namespace K41
open PySem PySem.Spec PyProof.Rows L2 HH
local macro_rules | `(tactic| walk_at "h1") => `(tactic| first
  | with_reducible refine rd_seq ?_ | with_reducible refine rd_asg ?_ | with_reducible refine rd_op ?_
  | ((with_reducible refine' rd_var ?hv ?_); (case hv => exact rfl)) | with_reducible refine rd_c ?_
  | ((with_reducible refine rd_name ?_); dsimp only [List.set_cons_zero, List.set_cons_succ])
  | with_reducible refine rd_I0 ?_ | ((with_reducible refine rd_pow ?_ ?_ ?_ ?_); (· decide); (· decide); (· decide)) | ((with_reducible refine rd_mod ?_ ?_); (· decide)) | ((with_reducible refine rd_mulR ?_ ?_ ?_); (· decide); (· decide)) | ((with_reducible refine rd_divW (n := 64) ?_ ?_ ?_ ?_ ?_); (· decide); (· decide); (· decide); (· decide)) | with_reducible refine rd_addI ?_ | with_reducible refine rd_eqI ?_ | with_reducible refine rd_eqS ?_ | with_reducible refine rd_eqB ?_ | with_reducible refine rd_ltI ?_
  | with_reducible refine rd_callS ?_ | with_reducible refine rd_xf ?_ | with_reducible refine rd_cons ?_ | with_reducible refine rd_nil ?_ | with_reducible refine rd_cb ?_ | with_reducible refine rd_call ?_
  | with_reducible refine rd_ifs ?_ | with_reducible refine rd_test ?_ | with_reducible refine rd_tB ?_ | with_reducible refine rd_blQ ?_ | with_reducible refine iteT ?_ | with_reducible refine iteF ?_ | with_reducible refine iteNotF ?_ | with_reducible refine iteNotT ?_
  | with_reducible refine rd_and ?_ | with_reducible refine rd_or ?_ | with_reducible refine rd_not ?_ | with_reducible refine rd_andV ?_ | with_reducible refine rd_orV ?_ | with_reducible refine rd_notV ?_ | with_reducible refine rd_if ?_
  | with_reducible refine rd_un ?_ | with_reducible refine rd_U ?_ | with_reducible refine rd_sub ?_ | with_reducible refine rd_tup ?_ | with_reducible refine rd_lst ?_
  | with_reducible refine rd_intI ?_ | with_reducible refine rd_absI ?_ | with_reducible refine rd_drop ?_ | with_reducible refine rd_ret ?_ | with_reducible refine rd_retN ?_ | with_reducible refine rd_next ?_ | with_reducible refine rd_bm ?_
  | with_reducible refine rd_tDGet2 ?_ | with_reducible refine rd_tDGet ?_ | with_reducible refine rd_sDPut ?_ | with_reducible refine rd_dnewK ?_ | with_reducible refine rd_nnew ?_ | with_reducible refine rd_nget ?_ | with_reducible refine rd_nget2 ?_ | with_reducible refine rd_npop ?_ | with_reducible refine rd_nput ?_ | with_reducible refine rd_dcn ?_ | with_reducible refine rd_gtup ?_ | with_reducible refine rd_gcons ?_ | with_reducible refine rd_gnil ?_ | with_reducible refine rd_lc ?_ | with_reducible refine rd_yes ?_ | with_reducible refine rd_for ?_ | with_reducible refine rd_iL ?_ | with_reducible refine rd_neS ?_ | with_reducible refine rd_neN ?_ | with_reducible refine rd_neB ?_ | with_reducible refine rd_chain ?_ | with_reducible refine rd_bm0 ?_ | with_reducible refine rd_dc ?_ | with_reducible refine rd_iN ?_ | with_reducible refine rd_iZ ?_ | with_reducible refine rd_ngetF ?_ | with_reducible refine rd_iT ?_ | with_reducible refine rd_iR1 ?_ | with_reducible refine rd_iS ?_ | with_reducible refine rd_leafS ?_ | with_reducible refine rd_sl ?_ | with_reducible refine rd_noPart ?_ | with_reducible refine rd_part ?_ | with_reducible refine rd_leafI ?_)
local macro_rules | `(tactic| walk_at "h") => `(tactic| repeat walk_at "h1")

section
variable {P : Program} {w : World} {K : PySem.W.Frag} {mg : Str → Option Value} {base : Heap}
theorem ok_unpacked {f : Addr} {fd : FuncData} (F : Fun K "unpacked" "unpacked" s_unpacked f fd) (T : Bi mg) (gW : ∃ t, mg "WIDTH" = some (.int 64 t)) : FnOk P w K mg base CX0 1 f fd ["terms", "places"] (spUnpacked K) := by
  refine F.ok (k := 0) sc_unpacked (fun vs H Q E h => ?_) (fun cdv A outer s H vs Q E hr h => ?_)
  · obtain ⟨a, b, m, Z, D, rfl, _⟩ := h
    rfl
  · obtain ⟨a, b, m, Z, D, rfl, ha, hb, ab, nZ, lZ, pm, sz, dl, q⟩ := h
    have hu := hu_of hr
    have hu20 := hu20_of hr
    have hu40 := hu40_of hr
    obtain ⟨t8, c_WIDTH⟩ := gW
    refine ⟨_, (pss_cons (ps_set (i := 2) sc_unpacked.nd rfl (.inr rfl) (pe_op op_sub (pe_op op_shlW pe_int (pe_glob (v := .int 64) (by rfl) c_WIDTH ⟨_, rfl⟩)) pe_int))
  (pss_cons (ps_set (i := 3) sc_unpacked.nd rfl (.inr rfl) (pe_nnew (K := K)))
  (pss_cons (ps_lock (ps_for PassesOwn.never rfl (pi_items (pv 0)) (pg_tupK (K := K) 2 rfl (pgs_cons (pg_name (i := 4) sc_unpacked.nd rfl (.inr rfl)) (pgs_cons (pg_name (i := 5) sc_unpacked.nd rfl (.inl rfl)) pgs_nil)))
    (pss_cons (ps_lock (ps_setLc (i := 8) (own := [("name", 6), ("place", 7)]) rfl sc_unpacked.nd rfl rfl (sw_true rfl rfl rfl (by decide +kernel)) (pi_items (pv 1)) (blkOk_by (N := N_unpacked) (sc := defScope s_unpacked) (by decide +kernel)) (fun _ _ _ _ _ => (pg_tupK (K := K) 2 rfl (pgs_cons (pg_name (i := 6) sc_unpacked.nd rfl (.inl rfl)) (pgs_cons (pg_name (i := 7) sc_unpacked.nd rfl (.inl rfl)) pgs_nil)))) (fun _ _ _ _ _ => pts_nil) (fun _ _ _ _ _ => (pe_tup (pa_cons (pv 6) (pa_cons (pe_op op_andM (pe_op op_shrN (pv 4) (pv 7)) (pv 2)) pa_nil))))))
  (pss_one (ps_nput (P := P) (w := w) (K := K) hu20 (pv 3) (pe_callTy (call_tupC (K := K)) (by rfl) T.tuple_ (by decide +kernel) (pa_cons (pe_callB (cr_sortK (K := K) hu20) (by rfl) T.sorted_ (by decide +kernel) (pa_cons (pe_lc (own := [("pair", 9)]) rfl sc_unpacked.nd (pi_list (pv 8)) (blkOk_by (N := N_unpacked) (sc := defScope s_unpacked) (by decide +kernel)) (fun _ _ _ _ _ => (pg_name (i := 9) sc_unpacked.nd rfl (.inl rfl))) (fun _ _ _ _ _ => (pts_one (pt_cmpR op_gt (pe_ix (ix_tupK (K := K)) (pv 9) pe_int (fun _ _ => rfl)) pe_int (nomark _)))) (fun _ _ _ _ _ => (pv 9))) pa_nil)) pa_nil)) (pv 5) rfl)))))
  (pss_one (ps_ret (pe_callTy (call_tupC (K := K)) (by rfl) T.tuple_ (by decide +kernel) (pa_cons (pe_lc (own := [("product", 10)]) rfl sc_unpacked.nd (pi_list (pe_callB (cr_sortN (P := P) (w := w) (K := K) hu20 rfl) (by rfl) T.sorted_ (by decide +kernel) (pa_cons (pv 3) pa_nil))) (blkOk_by (N := N_unpacked) (sc := defScope s_unpacked) (by decide +kernel)) (fun _ _ _ _ _ => (pg_name (i := 10) sc_unpacked.nd rfl (.inl rfl))) (fun _ _ _ _ _ => pts_nil) (fun _ _ _ _ _ => (pe_tup (pa_cons (pe_nget (P := P) (w := w) (K := K) hu20 (pv 3) (pv 10) (fun _ _ => rfl)) (pa_cons (pv 10) pa_nil))))) pa_nil))))))), ?_⟩
    rw [show L2.start N_unpacked [V.ref a, V.ref b] = [some (V.ref a), some (V.ref b), none, none, none, none, none, none, none, none, none] from rfl]
    (try dsimp only [cxOf, Cx.nox, Cx.wish])
    walk_at "h"
--B
    refine rd_I ⟨by decide, by decide⟩ ?_
    walk_at "h"
    rw [show (1 * 2 ^ (64 : Int).toNat - 1 : Int) = 2 ^ 64 - 1 from rfl]
    intro f0 nf
    have fa : a ≠ f0 := ne_of_none ha nf
    have fb : b ≠ f0 := ne_of_none hb nf
    have s1 : Same H (upd H f0 (NdO P w f0 [])) := same_new nf
    have h1 : NdAt P w K (upd H f0 (NdO P w f0 [])) f0 (ptV []) := ndat_empty
    generalize upd H f0 (NdO P w f0 []) = H1 at s1 h1
    have ha1 := s1 _ _ ha
    have hb1 := s1 _ _ hb
    have lm := pm.le sz
    walk_at "h"
    refine rd_lockD ha1 fun od => ?_
    walk_at "h"
    refine rd_iIt ?_
    walk_at "h"
    refine ⟨a, od, plV m, rfl, upd_same, ?_⟩
    refine for_it walk_items (fun i σ H' => ∃ (M : Pt) (v4 v5 v6 v7 v8 v9 : Option V), σ = [some (V.ref a), some (V.ref b), some (V.int (2 ^ 64 - 1)), some (V.ref f0), v4, v5, v6, v7, v8, v9, none] ∧ NdAt P w K H' f0 (ptV M) ∧ UnOk Z m i M ∧ (M.map (·.1)).Nodup ∧ Fr f0 (upd H1 a (.frz od (.dK (plV m)))) H')
      ⟨[], _, _, _, _, _, _, rfl, h1.keep (fun o e => by rw [upd_ne fa.symm]; exact e) (tup_upd ha1 (fun _ z => nomatch z) (fun _ _ z => nomatch z)), .nil, List.nodup_nil, Fr.refl _ _⟩ (fun i σ H' _ ⟨M, _, _, _, _, _, _, _, _, _, _, fr⟩ => fr _ _ fa upd_same) ?_ ?_
    · rintro i x σ H3 H4 hi ⟨M, v4, v5, v6, v7, v8, v9, rfl, hM, uM, nM, fr⟩ y
      rw [plV_len] at hi
      obtain ⟨t, rfl, nt, rfl⟩ := yp_pl hi y
      have fr4 := fr_new (o := .tup [.int m[i].1, .int m[i].2]) fr nt
      have s4 : Same H3 (upd H3 t (.tup [.int m[i].1, .int m[i].2])) := same_new nt
      have hM4 : NdAt P w K (upd H3 t (.tup [.int m[i].1, .int m[i].2])) f0 (ptV M) := hM.keep (fun o e => s4 _ _ e) (same_tup s4)
      have ht : (upd H3 t (.tup [.int m[i].1, .int m[i].2])) t = some (.tup [.int m[i].1, .int m[i].2]) := upd_same
      generalize upd H3 t (.tup [.int m[i].1, .int m[i].2]) = H4 at fr4 hM4 ht s4
      have mi : m[i] ∈ m := List.getElem_mem hi
      have hb4 : H4 b = some (.dK (tabV (plT Z))) := fr4 _ _ fb (by rw [upd_ne ab.symm]; exact hb1)
      walk_at "h"
      refine ⟨t, _, rfl, sqt ht, rfl, ?_⟩
      walk_at "h"
      refine rd_lockD hb4 fun od2 => ?_
      walk_at "h"
      refine rd_iIt ?_
      walk_at "h"
      refine ⟨b, od2, tabV (plT Z), rfl, upd_same, ?_⟩
      intro l nl0
      obtain ⟨lb, nl4⟩ := locked_ne nl0
      have fl : f0 ≠ l := fun e => by
        obtain ⟨_, e2, _⟩ := hM4
        rw [← e, e2] at nl4
        cases nl4
      obtain ⟨c, hc⟩ : ∃ c, c = m[i].1 := ⟨_, rfl⟩
      have bdc : Bd Z.length D c := by rw [hc]; exact pm.bd _ mi
      have lpw : (pwL Z (dgs Z.length c)).length = Z.length := pwL_len (dgs_len _ _).symm
      refine lc_itW walk_items [some (V.ref a), some (V.ref b), some (V.int (2 ^ 64 - 1)), some (V.ref f0), some (V.int m[i].1), some (V.int m[i].2), none, none, v8, v9, none] rfl
        (fun j H' => Same (upd H4 b (.frz od2 (.dK (tabV (plT Z))))) H' ∧ ∃ ts : List V, H' l = some (.lst ts) ∧ ts.length = j ∧ IsKs K H' (((pwL Z (dgs Z.length c)).take j).map pairK) ts) ⟨same_new nl0, [], upd_same, rfl, rfl⟩ (fun j H' _ h => h.1 _ _ upd_same) ?_ ?_
      · rintro j x H5 H6 hj ⟨s5, ts, h5, lts, kts⟩ y
        rw [tabV_len, plT_len] at hj
        obtain ⟨t2, rfl, nt2, rfl⟩ := yp_tab (plT_get hj) y
        have lt2 : l ≠ t2 := ne_of_none h5 nt2
        have s56 : Same H5 (upd H5 t2 (.tup [.str Z[j], .int ((64 * j : Nat) : Int)])) := same_new nt2
        have s6 := s5.trans s56
        have h6 : (upd H5 t2 (.tup [.str Z[j], .int ((64 * j : Nat) : Int)])) l = some (.lst ts) := by rw [upd_ne lt2]; exact h5
        have kts6 := IsKs.keep (same_tup (K := K) s56) _ _ kts
        have ht2 : (upd H5 t2 (.tup [.str Z[j], .int ((64 * j : Nat) : Int)])) t2 = some (.tup [.str Z[j], .int ((64 * j : Nat) : Int)]) := upd_same
        generalize upd H5 t2 (.tup [.str Z[j], .int ((64 * j : Nat) : Int)]) = H6 at s6 h6 kts6 ht2
        have dj := dgs_get c hj
        have dj2 : m[i].1 / 2 ^ (64 * j) % 2 ^ 64 = (((c / 2 ^ (64 * j) % 18446744073709551616).toNat : Nat) : Int) := by
          rw [← hc, Int.toNat_of_nonneg (Int.emod_nonneg _ (by decide))]
          rfl
        generalize (c / 2 ^ (64 * j) % 18446744073709551616).toNat = dg at dj dj2
        have hpw := pwL_get hj dj
        walk_at "h"
        refine ⟨t2, _, rfl, sqt ht2, rfl, ?_⟩
        walk_at "h"
        refine ⟨rfl, ?_⟩
        walk_at "h"
        refine ⟨_, 64 * j, rfl, rfl, ?_⟩
        walk_at "h"
        refine ⟨_, 64, rfl, rfl, ?_⟩
        rw [dj2]
        walk_at "h"
        refine ⟨sz_le (by simp only [List.length_cons, List.length_nil]; omega), fun u nu => ?_⟩
        have lu : l ≠ u := ne_of_none h6 nu
        have tw : Tup K H6 (upd (upd H6 u (.tup [V.str Z[j], V.int dg])) l (.lst (ts ++ [V.ref u]))) := (tup_new nu).trans (tup_upd (o := .lst ts) (by rw [upd_ne lu]; exact h6) (fun _ z => nomatch z) (fun _ _ z => nomatch z))
        refine ⟨ts, by rw [upd_ne lu]; exact h6, sz_lt (by omega), same_mut (s6.trans (same_new nu)) nl0, _, upd_same, by rw [List.length_append, lts]; rfl, ?_⟩
        rw [List.take_add_one, hpw, Option.toList_some, List.map_append]
        exact IsKs.app (IsKs.keep tw _ _ kts6) ⟨_, [], rfl, ⟨u, _, rfl, sqt (by rw [upd_ne lu.symm, upd_same]), ⟨_, _, rfl, rfl, _, _, rfl, rfl, rfl⟩⟩, rfl⟩
      · rintro H5 ⟨s5, ts, h5, lts, kts⟩
        rw [tabV_len, plT_len] at lts kts
        rw [List.take_of_length_le (by rw [lpw]; exact Nat.le_refl _)] at kts
        walk_at "h"
        refine ⟨s5 _ _ upd_same, ?_⟩
        have s45 : Same H4 (upd H5 b (.dK (tabV (plT Z)))) := same_lock hb4 s5
        have h6 : (upd H5 b (.dK (tabV (plT Z)))) l = some (.lst ts) := by rw [upd_ne lb]; exact h5
        have kts6 : IsKs K (upd H5 b (.dK (tabV (plT Z)))) ((pwL Z (dgs Z.length c)).map pairK) ts := IsKs.keep (tup_upd (o := .frz od2 (.dK (tabV (plT Z)))) (s5 _ _ upd_same) (fun _ z => nomatch z) (fun _ _ z => nomatch z)) _ _ kts
        generalize upd H5 b (.dK (tabV (plT Z))) = H6 at s45 h6 kts6
        have hM6 : NdAt P w K H6 f0 (ptV M) := hM4.keep (fun o e => s45 _ _ e) (same_tup s45)
        walk_at "h"
        refine rd_leafL (sql h6) fun e ne => ?_
        refine lc_listW (xs := ts) [some (V.ref a), some (V.ref b), some (V.int (2 ^ 64 - 1)), some (V.ref f0), some (V.int m[i].1), some (V.int m[i].2), v6, v7, some (V.ref l), none, none] rfl
          (fun j H' => Same H6 H' ∧ ∃ zs : List V, H' e = some (.lst zs) ∧ zs.length ≤ j ∧ IsKs K H' ((((pwL Z (dgs Z.length c)).take j).filter fun q => decide (q.2 > 0)).map pairK) zs) ⟨same_new ne, [], upd_same, Nat.le_refl _, rfl⟩ (fun j H' _ h => sql (h.1 _ _ h6)) ?_ ?_
        · rintro j x H7 hx ⟨s7, zs, h7, lzs, kzs⟩
          have hj : j < (pwL Z (dgs Z.length c)).length := by rw [lpw, ← lts]; exact (List.getElem?_eq_some_iff.mp hx).1
          obtain ⟨pa, rfl, sp⟩ := pair_get kts6 hj hx
          have sp7 := same_tup (K := K) s7 _ _ sp
          have eft := filter_take (fun q : Str × Int => decide (q.2 > 0)) hj
          generalize (pwL Z (dgs Z.length c))[j] = qq at sp sp7 eft
          walk_at "h"
          refine ⟨rfl, ?_⟩
          walk_at "h"
          refine rd_ixt sp7 (atI_nat (j := 1) rfl) ?_
          walk_at "h"
          refine ite2 (fun cc => ?_) (fun cc => ?_)
          · walk_at "h"
            rw [if_pos cc] at eft
            have tw : Tup K H7 (upd H7 e (.lst (zs ++ [V.ref pa]))) := tup_upd (o := .lst zs) h7 (fun _ z => nomatch z) (fun _ _ z => nomatch z)
            refine ⟨zs, h7, sz_lt (by omega), same_mut s7 ne, _, upd_same, by rw [List.length_append]; simp only [List.length_cons, List.length_nil]; omega, ?_⟩
            rw [eft, List.map_append]
            exact IsKs.app (IsKs.keep tw _ _ kzs) ⟨_, [], rfl, ⟨pa, _, rfl, tw _ _ sp7, ⟨_, _, rfl, rfl, _, _, rfl, rfl, rfl⟩⟩, rfl⟩
          · rw [if_neg cc, List.append_nil] at eft
            exact ⟨s7, zs, h7, by omega, by rw [eft]; exact kzs⟩
        · rintro H7 ⟨s7, zs, h7, lzs, kzs⟩
          rw [lts, List.take_of_length_le (by rw [lpw]; exact Nat.le_refl _)] at kzs
          have kzs2 : IsKs K H7 ((pwF Z c).map pairK) zs := kzs
          walk_at "h"
          refine ⟨e, zs, (pwF Z c).map pairK, rfl, sql h7, kzs2, ?_, ?_, ?_⟩
          · intro k1 h1 k2 h2
            obtain ⟨_, _, rfl⟩ := List.mem_map.mp h1
            obtain ⟨_, _, rfl⟩ := List.mem_map.mp h2
            rfl
          · refine depthAll_le fun k hk' => ?_
            obtain ⟨_, _, rfl⟩ := List.mem_map.mp hk'
            simp [pairK, NestedKey.depth, NestedKey.depthAll]
          intro ys ls p2 pmL _ ik np2
          obtain ⟨ps, rfl, pps⟩ := perm_map_inv pmL rfl
          have s8 : Same H7 (upd H7 p2 (.lst ys)) := same_new np2
          have h8 : (upd H7 p2 (.lst ys)) p2 = some (.lst ys) := upd_same
          have ik8 := IsKs.keep (same_tup (K := K) s8) _ _ ik
          generalize upd H7 p2 (.lst ys) = H8 at s8 h8 ik8
          walk_at "h"
          refine rd_tupL (sql h8) fun t3 nt3 => ?_
          have s9 : Same H8 (upd H8 t3 (.tup ys)) := same_new nt3
          have k9 : IsK K (upd H8 t3 (.tup ys)) (prodK ps) (.ref t3) := ⟨t3, ys, rfl, sqt upd_same, IsKs.keep (same_tup s9) _ _ ik8⟩
          generalize upd H8 t3 (.tup ys) = H9 at s9 k9
          have s69 := s7.trans (s8.trans s9)
          have hM9 : NdAt P w K H9 f0 (ptV M) := hM6.keep (fun o e => s69 _ _ e) (same_tup s69)
          have pps' : ps.Perm (pwF Z m[i].1) := by rw [← hc]; exact pps
          have fresh := uM.new nZ pm (by omega) hi pps'
          refine ⟨f0, _, _, rfl, hM9, prod_key k9, by rw [ptV_len, uM.len]; exact sz_lt (by omega), fun xs' n' => ?_⟩
          rw [putK_pt, show tput M ps m[i].2 = M ++ [(ps, m[i].2)] by unfold tput; rw [if_neg fresh]] at n'
          refine ⟨_, _, _, _, _, _, _, rfl, n', uM.step hi pps', ?_, fr_mut (fr4.trans (Fr.of (s45.trans s69)))⟩
          rw [List.map_append]
          exact List.nodup_append.mpr ⟨nM, List.nodup_cons.mpr ⟨List.not_mem_nil, List.nodup_nil⟩, fun x hx y hy e => fresh ((show x = ps from e.trans (List.mem_singleton.mp hy)) ▸ hx)⟩
    · rintro σ H3 ⟨M, v4, v5, v6, v7, v8, v9, rfl, hM, uM, nM, fr⟩
      rw [plV_len] at uM
      refine ⟨fr _ _ fa upd_same, ?_⟩
      have s3 : Same H (upd H3 a (.dK (plV m))) := same_fr nf s1 (lock_fr ha1 fa fr)
      have hM3 : NdAt P w K (upd H3 a (.dK (plV m))) f0 (ptV M) := hM.keep (fun o e => by rw [upd_ne fa.symm]; exact e) (tup_upd (o := .frz od (.dK (plV m))) (fr _ _ fa upd_same) (fun _ z => nomatch z) (fun _ _ z => nomatch z))
      generalize upd H3 a (.dK (plV m)) = H4 at s3 hM3
      walk_at "h"
      refine ⟨f0, _, rfl, hM3, ptV_cm M, fun zs ls e pmL so kz ne => ?_⟩
      obtain ⟨ys, rfl, py⟩ := keys_back pmL
      have s45 : Same H4 (upd H4 e (.lst zs)) := same_new ne
      have he : (upd H4 e (.lst zs)) e = some (.lst zs) := upd_same
      have kz4 : IsKs K (upd H4 e (.lst zs)) (ys.map prodK) zs := IsKs.keep (same_tup s45) _ _ kz
      generalize upd H4 e (.lst zs) = H5 at s45 he kz4
      have hM5 : NdAt P w K H5 f0 (ptV M) := hM3.keep (fun o e => s45 _ _ e) (same_tup s45)
      have lz : zs.length = ys.length := by rw [IsKs.length kz4, List.length_map]
      have ly : ys.length = m.length := by rw [py.length_eq, List.length_map, uM.len]
      have my : ∀ y ∈ ys, ∃ n, tget M y = some n := fun y hy => Option.isSome_iff_exists.mp (tget_some.mpr (py.mem_iff.mp hy))
      obtain ⟨S, eS⟩ : ∃ S : Sm, S = ys.map fun y => ((tget M y).getD 0, y) := ⟨_, rfl⟩
      have lS : S.length = ys.length := by rw [eS]; exact List.length_map _
      refine rd_leafL (sql he) fun D2 nD2 => ?_
      refine lc_listW (xs := zs) [some (V.ref a), some (V.ref b), some (V.int (2 ^ 64 - 1)), some (V.ref f0), v4, v5, v6, v7, v8, v9, none] rfl
        (fun i H' => Same H5 H' ∧ ∃ ts : List V, H' D2 = some (.lst ts) ∧ ts.length = i ∧ IsKs K H' ((S.take i).map termK) ts) ⟨same_new nD2, [], upd_same, rfl, rfl⟩ (fun i H' _ h => sql (h.1 _ _ he)) ?_ ?_
      · rintro i x H6 hx ⟨s6, ts, ht, lt, kt⟩
        have hi : i < ys.length := by rw [← lz]; exact (List.getElem?_eq_some_iff.mp hx).1
        obtain ⟨n, en⟩ := my _ (List.getElem_mem hi)
        obtain ⟨x', ex, kx⟩ := IsKs.get (i := i) (k := prodK ys[i]) kz4 (by rw [List.getElem?_map, List.getElem?_eq_getElem hi]; rfl)
        obtain rfl : x = x' := Option.some.inj (hx.symm.trans ex)
        obtain ⟨t, _, rfl, _, _⟩ := id kx
        have kx6 := kx.keep (same_tup s6)
        have hM6 : NdAt P w K H6 f0 (ptV M) := hM5.keep (fun o e => s6 _ _ e) (same_tup s6)
        walk_at "h"
        refine ⟨rfl, ?_⟩
        walk_at "h"
        refine ⟨f0, _, _, .int n, rfl, hM6, prod_key kx6, by rw [valV_pt, en]; rfl, ?_⟩
        walk_at "h"
        refine ⟨sz_le (by simp only [List.length_cons, List.length_nil]; omega), fun u nu => ?_⟩
        have nuD : D2 ≠ u := ne_of_none ht nu
        refine ⟨ts, by rw [upd_ne nuD]; exact ht, sz_lt (by omega), same_mut (s6.trans (same_new nu)) nD2, _, upd_same, by rw [List.length_append, lt]; rfl, ?_⟩
        have hS : S[i]? = some (n, ys[i]) := by
          rw [eS, List.getElem?_map, List.getElem?_eq_getElem hi, Option.map_some, en]
          rfl
        rw [List.take_add_one, hS, List.map_append]
        have tp : Tup K H6 (upd (upd H6 u (.tup [V.int n, V.ref t])) D2 (.lst (ts ++ [V.ref u]))) :=
          (tup_new nu).trans (tup_upd (o := .lst ts) (by rw [upd_ne nuD]; exact ht) (fun _ z => nomatch z) (fun _ _ z => nomatch z))
        refine IsKs.app (IsKs.keep tp _ _ kt) ⟨_, [], rfl, ⟨u, _, rfl, sqt (by rw [upd_ne nuD.symm, upd_same]), ⟨_, _, rfl, rfl, _, _, rfl, kx6.keep tp, rfl⟩⟩, rfl⟩
      · rintro H6 ⟨s6, ts, ht, lt, kt⟩
        walk_at "h"
        refine rd_tupL (sql ht) fun t nt => ?_
        rw [lz, ← lS, List.take_length] at kt
        refine q t S _ ⟨t, ts, rfl, sqt upd_same, IsKs.keep (tup_new nt) _ _ kt⟩ ((s3.trans (s45.trans s6)).trans (same_new nt)) (by omega) (fun r hr => ?_) (fun mm => by rw [eS]; exact uM.sum nM py mm)
        rw [eS] at hr
        obtain ⟨y, hy, rfl⟩ := List.mem_map.mp hr
        obtain ⟨n, en⟩ := my y hy
        obtain ⟨j, hj⟩ := List.mem_iff_getElem?.mp (tget_mem en)
        obtain ⟨q0, hq0, pq, eq⟩ := uM.get j _ hj
        have q0m := List.mem_of_getElem? hq0
        dsimp only at pq eq
        dsimp only
        rw [en, Option.getD_some, eq]
        refine ⟨⟨q0.1, q0m⟩, fun p hp => pwF_mem (pq.mem_iff.mp hp), ?_⟩
        rw [degP_perm pq]
        exact pwF_deg (pm.bd _ q0m) (by omega)
end
end K41
namespace K41
open PySem PySem.Spec PyProof.Rows L2 HH
local macro_rules | `(tactic| walk_at "h1") => `(tactic| first
  | with_reducible refine rd_seq ?_ | with_reducible refine rd_asg ?_ | with_reducible refine rd_op ?_
  | ((with_reducible refine' rd_var ?hv ?_); (case hv => exact rfl)) | with_reducible refine rd_c ?_
  | ((with_reducible refine rd_name ?_); dsimp only [List.set_cons_zero, List.set_cons_succ])
  | with_reducible refine rd_I0 ?_ | ((with_reducible refine rd_pow ?_ ?_ ?_ ?_); (· decide); (· decide); (· decide)) | ((with_reducible refine rd_mod ?_ ?_); (· decide)) | ((with_reducible refine rd_mulR ?_ ?_ ?_); (· decide); (· decide)) | ((with_reducible refine rd_divW (n := 64) ?_ ?_ ?_ ?_ ?_); (· decide); (· decide); (· decide); (· decide)) | with_reducible refine rd_addI ?_ | with_reducible refine rd_eqI ?_ | with_reducible refine rd_eqS ?_ | with_reducible refine rd_eqB ?_ | with_reducible refine rd_ltI ?_
  | with_reducible refine rd_callS ?_ | with_reducible refine rd_xf ?_ | with_reducible refine rd_cons ?_ | with_reducible refine rd_nil ?_ | with_reducible refine rd_cb ?_ | with_reducible refine rd_call ?_
  | with_reducible refine rd_ifs ?_ | with_reducible refine rd_test ?_ | with_reducible refine rd_tB ?_ | with_reducible refine rd_blQ ?_ | with_reducible refine iteT ?_ | with_reducible refine iteF ?_ | with_reducible refine iteNotF ?_ | with_reducible refine iteNotT ?_
  | with_reducible refine rd_and ?_ | with_reducible refine rd_or ?_ | with_reducible refine rd_not ?_ | with_reducible refine rd_andV ?_ | with_reducible refine rd_orV ?_ | with_reducible refine rd_notV ?_ | with_reducible refine rd_if ?_
  | with_reducible refine rd_un ?_ | with_reducible refine rd_U ?_ | with_reducible refine rd_sub ?_ | with_reducible refine rd_tup ?_ | with_reducible refine rd_lst ?_
  | with_reducible refine rd_intI ?_ | with_reducible refine rd_absI ?_ | with_reducible refine rd_drop ?_ | with_reducible refine rd_ret ?_ | with_reducible refine rd_retN ?_ | with_reducible refine rd_next ?_ | with_reducible refine rd_bm ?_
  | with_reducible refine rd_tDGet2 ?_ | with_reducible refine rd_tDGet ?_ | with_reducible refine rd_sDPut ?_ | with_reducible refine rd_dnewK ?_ | with_reducible refine rd_nnew ?_ | with_reducible refine rd_nget ?_ | with_reducible refine rd_nget2 ?_ | with_reducible refine rd_npop ?_ | with_reducible refine rd_nput ?_ | with_reducible refine rd_dcn ?_ | with_reducible refine rd_gtup ?_ | with_reducible refine rd_gcons ?_ | with_reducible refine rd_gnil ?_ | with_reducible refine rd_lc ?_ | with_reducible refine rd_yes ?_ | with_reducible refine rd_for ?_ | with_reducible refine rd_iL ?_ | with_reducible refine rd_neS ?_ | with_reducible refine rd_neN ?_ | with_reducible refine rd_neB ?_ | with_reducible refine rd_chain ?_ | with_reducible refine rd_bm0 ?_ | with_reducible refine rd_dc ?_ | with_reducible refine rd_iN ?_ | with_reducible refine rd_iZ ?_ | with_reducible refine rd_ngetF ?_ | with_reducible refine rd_iT ?_ | with_reducible refine rd_iR1 ?_ | with_reducible refine rd_iS ?_ | with_reducible refine rd_leafS ?_ | with_reducible refine rd_sl ?_ | with_reducible refine rd_noPart ?_ | with_reducible refine rd_part ?_ | with_reducible refine rd_leafI ?_)
local macro_rules | `(tactic| walk_at "h") => `(tactic| repeat walk_at "h1")

section
variable {P : Program} {w : World} {K : PySem.W.Frag} {mg : Str → Option Value} {base : Heap}
theorem ok_plus {n : Nat} {f : Addr} {fd : FuncData} (F : Fun K "packed_plus" "packed_plus" s_packed_plus f fd) (T : Bi mg) : FnOk P w K mg base CX0 1 f fd ["one", "other"] (spPlus n) := by
  refine F.ok (k := 0) sc_packed_plus (fun vs H Q E h => ?_) (fun cdv A outer s H vs Q E hr h => ?_)
  · obtain ⟨a, b, A, B, D, rfl, _⟩ := h
    rfl
  · obtain ⟨a, b, A, B, D, rfl, ha, hb, pA, pB, sz, q⟩ := h
    have hu := hu_of hr
    have hu20 := hu20_of hr
    have hu40 := hu40_of hr
    refine ⟨_, (pss_cons (ps_lock (ps_setDc (i := 4) (own := [("code", 2), ("coefficient", 3)]) rfl sc_packed_plus.nd rfl rfl (sw_trueD rfl rfl rfl (by decide +kernel)) (pi_items (pv 0)) (blkOk_by (N := N_packed_plus) (sc := defScope s_packed_plus) (by decide +kernel)) (fun _ _ _ _ _ => (pg_tupK (K := K) 2 rfl (pgs_cons (pg_name (i := 2) sc_packed_plus.nd rfl (.inl rfl)) (pgs_cons (pg_name (i := 3) sc_packed_plus.nd rfl (.inl rfl)) pgs_nil)))) (fun _ _ _ _ _ => pts_nil) (fun _ _ _ _ _ => (pv 2)) (fun _ _ _ _ _ => (pv 3))))
  (pss_cons (ps_lock (ps_for PassesOwn.never rfl (pi_items (pv 1)) (pg_tupK (K := K) 2 rfl (pgs_cons (pg_name (i := 2) sc_packed_plus.nd rfl (.inl rfl)) (pgs_cons (pg_name (i := 3) sc_packed_plus.nd rfl (.inl rfl)) pgs_nil)))
    (pss_one (ps_dput hu (pv 4) (pv 2) (pe_op (op_addU (K := K)) (pe_dget2 hu (pv 4) (pv 2) pe_int ⟨rfl, rfl, rfl, rfl⟩) (pv 3)) rfl))))
  (pss_one (ps_ret (pv 4))))), ?_⟩
    rw [show L2.start N_packed_plus [V.ref a, V.ref b] = [some (V.ref a), some (V.ref b), none, none, none] from rfl]
    (try dsimp only [cxOf, Cx.nox, Cx.wish])
    walk_at "h"
--B
    have lA := pA.le sz
    refine rd_lockD ha fun od => ?_
    walk_at "h"
    refine rd_iIt ?_
    walk_at "h"
    refine ⟨a, od, plV A, rfl, upd_same, ?_⟩
    intro f0 nf0
    obtain ⟨fa, nf⟩ := locked_ne nf0
    refine dc_itW walk_items [some (V.ref a), some (V.ref b), none, none, none] rfl (fun i H' => Same (upd H a (.frz od (.dK (plV A)))) H' ∧ H' f0 = some (.dK (plV (A.take i)))) ⟨same_new nf0, upd_same⟩ (fun i H' _ h => h.1 _ _ upd_same) ?_ ?_
    · rintro i x H1 H2 hi ⟨s1, h1⟩ y
      rw [plV_len] at hi
      obtain ⟨t, rfl, nt, rfl⟩ := yp_pl hi y
      have ft : f0 ≠ t := ne_of_none h1 nt
      have s2 := s1.trans (same_new (o := .tup [.int A[i].1, .int A[i].2]) nt)
      have h2 : (upd H1 t (.tup [.int A[i].1, .int A[i].2])) f0 = some (.dK (plV (A.take i))) := by rw [upd_ne ft]; exact h1
      have ht : (upd H1 t (.tup [.int A[i].1, .int A[i].2])) t = some (.tup [.int A[i].1, .int A[i].2]) := upd_same
      generalize upd H1 t (.tup [.int A[i].1, .int A[i].2]) = H2 at s2 h2 ht
      walk_at "h"
      refine ⟨t, _, rfl, sqt ht, rfl, ?_⟩
      walk_at "h"
      refine ⟨rfl, ?_⟩
      walk_at "h"
      refine ⟨_, Sum.inl A[i].1, rfl, h2, by rw [plV_len, List.length_take]; exact sz_lt (by omega), same_mut s2 nf0, ?_⟩
      rw [upd_same, putK_pl, take_put pA.nd hi]
    · rintro H1 ⟨s1, h1⟩
      rw [plV_len, List.take_length] at h1
      walk_at "h"
      refine ⟨s1 _ _ upd_same, ?_⟩
      have s2 : Same H (upd H1 a (.dK (plV A))) := same_lock ha s1
      have h2 : (upd H1 a (.dK (plV A))) f0 = some (.dK (plV A)) := by rw [upd_ne fa]; exact h1
      generalize upd H1 a (.dK (plV A)) = H2 at s2 h2
      have hb2 := s2 _ _ hb
      have bf : b ≠ f0 := fun e => by rw [e, nf] at hb; cases hb
      walk_at "h"
      refine rd_lockD hb2 fun od2 => ?_
      walk_at "h"
      refine rd_iIt ?_
      walk_at "h"
      refine ⟨b, od2, plV B, rfl, upd_same, ?_⟩
      refine for_it walk_items (fun i σ H' => ∃ (m : Pl) (v2 v3 : Option V), σ = [some (V.ref a), some (V.ref b), v2, v3, some (V.ref f0)] ∧ H' f0 = some (.dK (plV m)) ∧ PolyOk n D m ∧ (∀ us, evP n us m = evP n us A + evP n us (B.take i)) ∧ Fr f0 (upd H2 b (.frz od2 (.dK (plV B)))) H')
        ⟨A, _, _, rfl, by rw [upd_ne bf.symm]; exact h2, pA, fun us => by simp [evP, wsum], Fr.refl _ _⟩ (fun i σ H' _ ⟨m, _, _, _, _, _, _, fr⟩ => fr _ _ bf upd_same) ?_ ?_
      · rintro i x σ H3 H4 hi ⟨m, v2, v3, rfl, hm, pm, em, fr⟩ y
        rw [plV_len] at hi
        obtain ⟨t, rfl, nt, rfl⟩ := yp_pl hi y
        have ft : f0 ≠ t := ne_of_none hm nt
        have fr4 := fr_new (o := .tup [.int B[i].1, .int B[i].2]) fr nt
        have hm4 : (upd H3 t (.tup [.int B[i].1, .int B[i].2])) f0 = some (.dK (plV m)) := by rw [upd_ne ft]; exact hm
        have ht : (upd H3 t (.tup [.int B[i].1, .int B[i].2])) t = some (.tup [.int B[i].1, .int B[i].2]) := upd_same
        generalize upd H3 t (.tup [.int B[i].1, .int B[i].2]) = H4 at fr4 hm4 ht
        have mi : B[i] ∈ B := List.getElem_mem hi
        obtain ⟨pm2, em2⟩ := pm.add (pB.bd _ mi) (pB.co _ mi)
        walk_at "h"
        refine ⟨t, _, rfl, sqt ht, rfl, ?_⟩
        walk_at "h"
        refine rd_isD hm4 ?_
        walk_at "h"
        refine ⟨_, dget_pl hm4, ?_⟩
        rw [getD_int]
        walk_at "h"
        refine ⟨f0, _, rfl, dput_pl hm4 (by have := pm.le sz; omega), ?_⟩
        exact ⟨_, _, _, rfl, upd_same, pm2, fun us => by rw [em2, em, evP_step n us B hi]; omega, fr_mut fr4⟩
      · rintro σ H3 ⟨m, v2, v3, rfl, hm, pm, em, fr⟩
        rw [plV_len, List.take_length] at em
        refine ⟨fr _ _ bf upd_same, ?_⟩
        walk_at "h"
        exact q f0 m _ nf (by rw [upd_ne bf.symm]; exact hm) pm em (same_fr nf s2 (lock_fr hb2 bf fr))
end
end K41
namespace K41
open PySem PySem.Spec PyProof.Rows L2 HH
local macro_rules | `(tactic| walk_at "h1") => `(tactic| first
  | with_reducible refine rd_seq ?_ | with_reducible refine rd_asg ?_ | with_reducible refine rd_op ?_
  | ((with_reducible refine' rd_var ?hv ?_); (case hv => exact rfl)) | with_reducible refine rd_c ?_
  | ((with_reducible refine rd_name ?_); dsimp only [List.set_cons_zero, List.set_cons_succ])
  | with_reducible refine rd_I0 ?_ | ((with_reducible refine rd_pow ?_ ?_ ?_ ?_); (· decide); (· decide); (· decide)) | ((with_reducible refine rd_mod ?_ ?_); (· decide)) | ((with_reducible refine rd_mulR ?_ ?_ ?_); (· decide); (· decide)) | ((with_reducible refine rd_divW (n := 64) ?_ ?_ ?_ ?_ ?_); (· decide); (· decide); (· decide); (· decide)) | with_reducible refine rd_addI ?_ | with_reducible refine rd_eqI ?_ | with_reducible refine rd_eqS ?_ | with_reducible refine rd_eqB ?_ | with_reducible refine rd_ltI ?_
  | with_reducible refine rd_callS ?_ | with_reducible refine rd_xf ?_ | with_reducible refine rd_cons ?_ | with_reducible refine rd_nil ?_ | with_reducible refine rd_cb ?_ | with_reducible refine rd_call ?_
  | with_reducible refine rd_ifs ?_ | with_reducible refine rd_test ?_ | with_reducible refine rd_tB ?_ | with_reducible refine rd_blQ ?_ | with_reducible refine iteT ?_ | with_reducible refine iteF ?_ | with_reducible refine iteNotF ?_ | with_reducible refine iteNotT ?_
  | with_reducible refine rd_and ?_ | with_reducible refine rd_or ?_ | with_reducible refine rd_not ?_ | with_reducible refine rd_andV ?_ | with_reducible refine rd_orV ?_ | with_reducible refine rd_notV ?_ | with_reducible refine rd_if ?_
  | with_reducible refine rd_un ?_ | with_reducible refine rd_U ?_ | with_reducible refine rd_sub ?_ | with_reducible refine rd_tup ?_ | with_reducible refine rd_lst ?_
  | with_reducible refine rd_intI ?_ | with_reducible refine rd_absI ?_ | with_reducible refine rd_drop ?_ | with_reducible refine rd_ret ?_ | with_reducible refine rd_retN ?_ | with_reducible refine rd_next ?_ | with_reducible refine rd_bm ?_
  | with_reducible refine rd_tDGet2 ?_ | with_reducible refine rd_tDGet ?_ | with_reducible refine rd_sDPut ?_ | with_reducible refine rd_dnewK ?_ | with_reducible refine rd_nnew ?_ | with_reducible refine rd_nget ?_ | with_reducible refine rd_nget2 ?_ | with_reducible refine rd_npop ?_ | with_reducible refine rd_nput ?_ | with_reducible refine rd_dcn ?_ | with_reducible refine rd_gtup ?_ | with_reducible refine rd_gcons ?_ | with_reducible refine rd_gnil ?_ | with_reducible refine rd_lc ?_ | with_reducible refine rd_yes ?_ | with_reducible refine rd_for ?_ | with_reducible refine rd_iL ?_ | with_reducible refine rd_neS ?_ | with_reducible refine rd_neN ?_ | with_reducible refine rd_neB ?_ | with_reducible refine rd_chain ?_ | with_reducible refine rd_bm0 ?_ | with_reducible refine rd_dc ?_ | with_reducible refine rd_iN ?_ | with_reducible refine rd_iZ ?_ | with_reducible refine rd_ngetF ?_ | with_reducible refine rd_iT ?_ | with_reducible refine rd_iR1 ?_ | with_reducible refine rd_iS ?_ | with_reducible refine rd_leafS ?_ | with_reducible refine rd_sl ?_ | with_reducible refine rd_noPart ?_ | with_reducible refine rd_part ?_ | with_reducible refine rd_leafI ?_)
local macro_rules | `(tactic| walk_at "h") => `(tactic| repeat walk_at "h1")

section
variable {P : Program} {w : World} {K : PySem.W.Frag} {mg : Str → Option Value} {base : Heap}
theorem ok_times {n : Nat} {f : Addr} {fd : FuncData} (F : Fun K "packed_times" "packed_times" s_packed_times f fd) (T : Bi mg) : FnOk P w K mg base CX0 1 f fd ["one", "other"] (spTimes n) := by
  refine F.ok (k := 0) sc_packed_times (fun vs H Q E h => ?_) (fun cdv A outer s H vs Q E hr h => ?_)
  · obtain ⟨a, b, A, B, D, E, rfl, _⟩ := h
    rfl
  · obtain ⟨a, b, A, B, D, EE, rfl, ab, ha, hb, pA, pB, sz, dl, cA, cB, q⟩ := h
    have hu := hu_of hr
    have hu20 := hu20_of hr
    have hu40 := hu40_of hr
    refine ⟨_, (pss_cons (ps_set (i := 2) sc_packed_times.nd rfl (.inl rfl) pe_dnewK)
  (pss_cons (ps_lock (ps_for PassesOwn.never rfl (pi_items (pv 0)) (pg_tupK (K := K) 2 rfl (pgs_cons (pg_name (i := 3) sc_packed_times.nd rfl (.inl rfl)) (pgs_cons (pg_name (i := 4) sc_packed_times.nd rfl (.inl rfl)) pgs_nil)))
    (pss_one (ps_lock (ps_for PassesOwn.never rfl (pi_items (pv 1)) (pg_tupK (K := K) 2 rfl (pgs_cons (pg_name (i := 5) sc_packed_times.nd rfl (.inl rfl)) (pgs_cons (pg_name (i := 6) sc_packed_times.nd rfl (.inl rfl)) pgs_nil)))
    (pss_one (ps_dput hu (pv 2) (pe_op (op_addU (K := K)) (pv 3) (pv 5)) (pe_op (op_addU (K := K)) (pe_dget2 hu (pv 2) (pe_op (op_addU (K := K)) (pv 3) (pv 5)) pe_int ⟨rfl, rfl, rfl, rfl⟩) (pe_op op_mulW (pv 4) (pv 6))) rfl)))))))
  (pss_one (ps_ret (pv 2))))), ?_⟩
    rw [show L2.start N_packed_times [V.ref a, V.ref b] = [some (V.ref a), some (V.ref b), none, none, none, none, none] from rfl]
    (try dsimp only [cxOf, Cx.nox, Cx.wish])
    walk_at "h"
--B
    intro f0 nf
    have fa : a ≠ f0 := ne_of_none ha nf
    have bf : b ≠ f0 := ne_of_none hb nf
    have s1 : Same H (upd H f0 (.dK [])) := same_new nf
    have h1 : (upd H f0 (.dK [])) f0 = some (.dK (plV [])) := upd_same
    generalize upd H f0 (.dK []) = H1 at s1 h1
    have ha1 := s1 _ _ ha
    have hb1 := s1 _ _ hb
    walk_at "h"
    refine rd_lockD ha1 fun od => ?_
    walk_at "h"
    refine rd_iIt ?_
    walk_at "h"
    refine ⟨a, od, plV A, rfl, upd_same, ?_⟩
    refine for_it walk_items (fun i σ H' => ∃ (m : Pl) (v3 v4 v5 v6 : Option V), σ = [some (V.ref a), some (V.ref b), some (V.ref f0), v3, v4, v5, v6] ∧ H' f0 = some (.dK (plV m)) ∧ PolyOk n (D + EE) m ∧ (∀ us, evP n us m = evP n us (A.take i) * evP n us B) ∧ Fr f0 (upd H1 a (.frz od (.dK (plV A)))) H')
      ⟨[], _, _, _, _, rfl, by rw [upd_ne fa.symm]; exact h1, ⟨List.nodup_nil, by simp, by simp⟩, fun us => by simp [evP, wsum], Fr.refl _ _⟩ (fun i σ H' _ ⟨m, _, _, _, _, _, _, _, _, fr⟩ => fr _ _ fa upd_same) ?_ ?_
    · rintro i x σ H3 H4 hi ⟨m, v3, v4, v5, v6, rfl, hm, pm, em, fr⟩ y
      rw [plV_len] at hi
      obtain ⟨t, rfl, nt, rfl⟩ := yp_pl hi y
      have ft : f0 ≠ t := ne_of_none hm nt
      have fr4 := fr_new (o := .tup [.int A[i].1, .int A[i].2]) fr nt
      have hm4 : (upd H3 t (.tup [.int A[i].1, .int A[i].2])) f0 = some (.dK (plV m)) := by rw [upd_ne ft]; exact hm
      have ht : (upd H3 t (.tup [.int A[i].1, .int A[i].2])) t = some (.tup [.int A[i].1, .int A[i].2]) := upd_same
      generalize upd H3 t (.tup [.int A[i].1, .int A[i].2]) = H4 at fr4 hm4 ht
      have mi : A[i] ∈ A := List.getElem_mem hi
      have hb4 : H4 b = some (.dK (plV B)) := fr4 _ _ bf (by rw [upd_ne ab.symm]; exact hb1)
      walk_at "h"
      refine ⟨t, _, rfl, sqt ht, rfl, ?_⟩
      walk_at "h"
      refine rd_lockD hb4 fun od2 => ?_
      walk_at "h"
      refine rd_iIt ?_
      walk_at "h"
      refine ⟨b, od2, plV B, rfl, upd_same, ?_⟩
      have est := fun us => evP_step n us A hi
      have bdA := pA.bd _ mi
      have coA := pA.co _ mi
      have cA1 := cA _ mi
      generalize A[i] = z at est bdA coA cA1 ht ⊢
      obtain ⟨c, k⟩ := z
      dsimp only at est bdA coA cA1
      refine for_it walk_items (fun j σ H' => ∃ (m : Pl) (v5 v6 : Option V), σ = [some (V.ref a), some (V.ref b), some (V.ref f0), some (V.int c), some (V.int k), v5, v6] ∧ H' f0 = some (.dK (plV m)) ∧ PolyOk n (D + EE) m ∧ (∀ us, evP n us m = evP n us (A.take i) * evP n us B + k * wc n us c * evP n us (B.take j)) ∧ Fr f0 (upd H4 b (.frz od2 (.dK (plV B)))) H')
        ⟨m, _, _, rfl, by rw [upd_ne bf.symm]; exact hm4, pm, fun us => by rw [em]; simp [evP, wsum], Fr.refl _ _⟩ (fun j σ H' _ ⟨m, _, _, _, _, _, _, fr⟩ => fr _ _ bf upd_same) ?_ ?_
      · rintro j x σ H5 H6 hj ⟨m, v5, v6, rfl, hm, pm, em, fr⟩ y
        rw [plV_len] at hj
        obtain ⟨t, rfl, nt, rfl⟩ := yp_pl hj y
        have ft : f0 ≠ t := ne_of_none hm nt
        have fr6 := fr_new (o := .tup [.int B[j].1, .int B[j].2]) fr nt
        have hm6 : (upd H5 t (.tup [.int B[j].1, .int B[j].2])) f0 = some (.dK (plV m)) := by rw [upd_ne ft]; exact hm
        have ht : (upd H5 t (.tup [.int B[j].1, .int B[j].2])) t = some (.tup [.int B[j].1, .int B[j].2]) := upd_same
        generalize upd H5 t (.tup [.int B[j].1, .int B[j].2]) = H6 at fr6 hm6 ht
        have mj : B[j] ∈ B := List.getElem_mem hj
        have est2 := fun us => evP_step n us B hj
        have bdB := pB.bd _ mj
        have coB := pB.co _ mj
        have cB1 := cB _ mj
        generalize B[j] = z at est2 bdB coB cB1 ht ⊢
        obtain ⟨e, g⟩ := z
        dsimp only at est2 bdB coB cB1 ht
        have kg : 1 ≤ k * g := by
          have := Int.mul_pos (show 0 < k by omega) (show 0 < g by omega)
          omega
        obtain ⟨pm2, em2⟩ := pm.add (bdA.add bdB) kg
        walk_at "h"
        refine ⟨t, _, rfl, sqt ht, rfl, ?_⟩
        walk_at "h"
        refine rd_isD hm6 ?_
        walk_at "h"
        refine ⟨_, dget_pl hm6, ?_⟩
        rw [getD_int]
        walk_at "h"
        refine rd_I (wide_mul (a := 60) (b := 60) (by omega) (by omega) (by omega) (by omega) (by omega)) ?_
        walk_at "h"
        refine ⟨f0, _, rfl, dput_pl hm6 (by have := pm.le sz; omega), ?_⟩
        refine ⟨_, _, _, rfl, upd_same, pm2, fun us => ?_, fr_mut fr6⟩
        rw [em2, em, est2, bdA.wc_add bdB (by omega), Int.mul_add, Int.add_assoc]
        congr 2
        ac_rfl
      · rintro σ H5 ⟨m, v5, v6, rfl, hm, pm, em, fr⟩
        rw [plV_len, List.take_length] at em
        refine ⟨fr _ _ bf upd_same, ?_⟩
        refine ⟨m, _, _, _, _, rfl, by rw [upd_ne bf.symm]; exact hm, pm, fun us => ?_, fr4.trans (lock_fr hb4 bf fr)⟩
        rw [em, est, Int.add_mul]
    · rintro σ H3 ⟨m, v3, v4, v5, v6, rfl, hm, pm, em, fr⟩
      rw [plV_len, List.take_length] at em
      refine ⟨fr _ _ fa upd_same, ?_⟩
      walk_at "h"
      exact q f0 m _ nf (by rw [upd_ne fa.symm]; exact hm) pm em (same_fr nf s1 (lock_fr ha1 fa fr))
end
end K41
namespace K41
open PySem PySem.Spec PyProof.Rows L2 HH
local macro_rules | `(tactic| walk_at "h1") => `(tactic| first
  | with_reducible refine rd_seq ?_ | with_reducible refine rd_asg ?_ | with_reducible refine rd_op ?_
  | ((with_reducible refine' rd_var ?hv ?_); (case hv => exact rfl)) | with_reducible refine rd_c ?_
  | ((with_reducible refine rd_name ?_); dsimp only [List.set_cons_zero, List.set_cons_succ])
  | with_reducible refine rd_I0 ?_ | ((with_reducible refine rd_pow ?_ ?_ ?_ ?_); (· decide); (· decide); (· decide)) | ((with_reducible refine rd_mod ?_ ?_); (· decide)) | ((with_reducible refine rd_mulR ?_ ?_ ?_); (· decide); (· decide)) | ((with_reducible refine rd_divW (n := 64) ?_ ?_ ?_ ?_ ?_); (· decide); (· decide); (· decide); (· decide)) | with_reducible refine rd_addI ?_ | with_reducible refine rd_eqI ?_ | with_reducible refine rd_eqS ?_ | with_reducible refine rd_eqB ?_ | with_reducible refine rd_ltI ?_
  | with_reducible refine rd_callS ?_ | with_reducible refine rd_xf ?_ | with_reducible refine rd_cons ?_ | with_reducible refine rd_nil ?_ | with_reducible refine rd_cb ?_ | with_reducible refine rd_call ?_
  | with_reducible refine rd_ifs ?_ | with_reducible refine rd_test ?_ | with_reducible refine rd_tB ?_ | with_reducible refine rd_blQ ?_ | with_reducible refine iteT ?_ | with_reducible refine iteF ?_ | with_reducible refine iteNotF ?_ | with_reducible refine iteNotT ?_
  | with_reducible refine rd_and ?_ | with_reducible refine rd_or ?_ | with_reducible refine rd_not ?_ | with_reducible refine rd_andV ?_ | with_reducible refine rd_orV ?_ | with_reducible refine rd_notV ?_ | with_reducible refine rd_if ?_
  | with_reducible refine rd_un ?_ | with_reducible refine rd_U ?_ | with_reducible refine rd_sub ?_ | with_reducible refine rd_tup ?_ | with_reducible refine rd_lst ?_
  | with_reducible refine rd_intI ?_ | with_reducible refine rd_absI ?_ | with_reducible refine rd_drop ?_ | with_reducible refine rd_ret ?_ | with_reducible refine rd_retN ?_ | with_reducible refine rd_next ?_ | with_reducible refine rd_bm ?_
  | with_reducible refine rd_tDGet2 ?_ | with_reducible refine rd_tDGet ?_ | with_reducible refine rd_sDPut ?_ | with_reducible refine rd_dnewK ?_ | with_reducible refine rd_nnew ?_ | with_reducible refine rd_nget ?_ | with_reducible refine rd_nget2 ?_ | with_reducible refine rd_npop ?_ | with_reducible refine rd_nput ?_ | with_reducible refine rd_dcn ?_ | with_reducible refine rd_gtup ?_ | with_reducible refine rd_gcons ?_ | with_reducible refine rd_gnil ?_ | with_reducible refine rd_lc ?_ | with_reducible refine rd_yes ?_ | with_reducible refine rd_for ?_ | with_reducible refine rd_iL ?_ | with_reducible refine rd_neS ?_ | with_reducible refine rd_neN ?_ | with_reducible refine rd_neB ?_ | with_reducible refine rd_chain ?_ | with_reducible refine rd_bm0 ?_ | with_reducible refine rd_dc ?_ | with_reducible refine rd_iN ?_ | with_reducible refine rd_iZ ?_ | with_reducible refine rd_ngetF ?_ | with_reducible refine rd_iT ?_ | with_reducible refine rd_iR1 ?_ | with_reducible refine rd_iS ?_ | with_reducible refine rd_leafS ?_ | with_reducible refine rd_sl ?_ | with_reducible refine rd_noPart ?_ | with_reducible refine rd_part ?_ | with_reducible refine rd_leafI ?_)
local macro_rules | `(tactic| walk_at "h") => `(tactic| repeat walk_at "h1")

section
variable {P : Program} {w : World} {K : PySem.W.Frag} {mg : Str → Option Value} {base : Heap}
theorem ok_put {n : Nat} {f : Addr} {fd : FuncData} (F : Fun K "packed_put" "packed_put" s_packed_put f fd) (T : Bi mg) (G_packed_times : Callee P w K mg base 1 "packed_times" ["one", "other"] (spTimes n)) : FnOk P w K mg base CX0 2 f fd ["coefficient", "product", "sums"] (spPut K n) := by
  refine F.ok (k := 1) sc_packed_put (fun vs H Q E h => ?_) (fun cdv A outer s H vs Q E hr h => ?_)
  · obtain ⟨co, t, d, ps, ks, ad, A, D, rfl, _⟩ := h
    rfl
  · obtain ⟨co, t, d, ps, ks, ad, A, D, rfl, kt, hd, hk, hA, c1, c2, dg, lp, sz, dl, q⟩ := h
    have hu := hu_of hr
    have hu20 := hu20_of hr
    have hu40 := hu40_of hr
    obtain ⟨f_packed_times, fd_packed_times, F_packed_times, m_packed_times, k_packed_times, b_packed_times⟩ := G_packed_times
    obtain ⟨_, vs, et, st, kv, nv⟩ := prod_at kt
    obtain rfl := V.ref.inj et
    refine ⟨_, (pss_cons (ps_set (i := 3) sc_packed_put.nd rfl (.inl rfl) (pe_disp (pps_cons pe_int (pv 0) pps_nil) (by rfl) rfl (by simp) (by decide)))
  (pss_cons (ps_for PassesOwn.never rfl (pi_tup (pv 1)) (pg_tupK (K := K) 2 rfl (pgs_cons (pg_name (i := 4) sc_packed_put.nd rfl (.inl rfl)) (pgs_cons (pg_name (i := 5) sc_packed_put.nd rfl (.inl rfl)) pgs_nil)))
    (pss_one (ps_for PassesOwn.never rfl (pi_range1 (by rfl) T.range (pa_cons (pv 5) pa_nil)) (pg_name (i := 6) sc_packed_put.nd rfl (.inl rfl))
    (pss_one (ps_set (i := 3) sc_packed_put.nd rfl (.inl rfl) (pe_call F_packed_times (hr.mono (by decide)) (by rfl) m_packed_times k_packed_times b_packed_times .nil pass0 (pa_cons (pv 3) (pa_cons (pe_dget hu (pv 2) (pv 4) (fun _ _ => rfl)) pa_nil))))))))
  (pss_one (ps_ret (pv 3))))), ?_⟩
    rw [show L2.start N_packed_put [V.int co, V.ref t, V.ref d] = [some (V.int co), some (V.ref t), some (V.ref d), none, none, none, none] from rfl]
    (try dsimp only [cxOf, Cx.nox, Cx.wish])
    walk_at "h"
--B
    intro r0 nr0
    refine rd_dsp1 ?_
    walk_at "h"
    refine ⟨upd_same, [(Sum.inl 0, V.int co)], rfl, by simp, ?_⟩
    have s1 : Same H (upd (upd H r0 (.dK [])) r0 (.dK (mergeK [] [(Sum.inl 0, V.int co)]))) := same_mut (same_new nr0) nr0
    have h1 : (upd (upd H r0 (.dK [])) r0 (.dK (mergeK [] [(Sum.inl 0, V.int co)]))) r0 = some (.dK (plV [(0, co)])) := upd_same
    generalize upd (upd H r0 (.dK [])) r0 (.dK (mergeK [] [(Sum.inl 0, V.int co)])) = H1 at s1 h1
    walk_at "h"
    have st1 := same_tup (K := K) s1 _ _ st
    have on1 := ones_pos n
    have F0 : ∀ q ∈ ps, 0 ≤ evP n (ones n) (A q.1) ∧ evP n (ones n) (A q.1) ≤ 10 ^ 6 := fun q hq => ⟨(hA _ (hk q hq).1).2.1.ev_nn on1, (hA _ (hk q hq).1).2.2⟩
    refine rd_leafT st1 ?_
    refine for_tup (xs := vs) (fun i σ H' => ∃ (r : Addr) (m : Pl) (v4 v5 v6 : Option V), σ = [some (V.int co), some (V.ref t), some (V.ref d), some (V.ref r), v4, v5, v6] ∧ H r = none ∧ H' r = some (.dK (plV m)) ∧ PolyOk n (D * degP (ps.take i)) m ∧ (∀ us, evP n us m = co * wprod (fun y => evP n us (A y)) (ps.take i)) ∧ Same H H')
      ⟨r0, [(0, co)], _, _, _, rfl, nr0, h1, ⟨by simp, fun q hq => by rw [List.mem_singleton.mp hq]; exact bd_zero n, fun q hq => by rw [List.mem_singleton.mp hq]; exact c1⟩, fun us => by simp [evP, wsum, wc_zero, wprod], s1⟩ (fun i σ H' _ ⟨_, _, _, _, _, _, _, _, _, _, s⟩ => same_tup s _ _ st) ?_ ?_
    · rintro i x σ H2 hx ⟨r, m, v4, v5, v6, rfl, nr, hr2, pm, em, s2⟩
      have hi : i < ps.length := by rw [← nv]; exact (List.getElem?_eq_some_iff.mp hx).1
      obtain ⟨a, rfl, sa⟩ := pair_get kv hi hx
      have sa2 := same_tup (K := K) s2 _ _ sa
      have mi : ps[i] ∈ ps := List.getElem_mem hi
      obtain ⟨k1, k2⟩ := hk _ mi
      obtain ⟨hy, py, by6⟩ := hA _ k1
      have dst := degP_step ps hi
      have wst := fun us => wprod_step (fun y => evP n us (A y)) ps hi
      have dle := degP_take ps (i + 1)
      have Ft := wprod_le (f := fun y => evP n (ones n) (A y)) (B := 10 ^ 6) (by decide) (ps := ps.take i) fun q hq => F0 q (List.mem_of_mem_take hq)
      have Fi := F0 _ mi
      generalize ps[i] = z at sa sa2 mi k1 k2 hy py by6 dst wst Fi
      obtain ⟨y, e⟩ := z
      dsimp only at sa sa2 k1 k2 hy py by6 dst wst Fi
      walk_at "h"
      refine ⟨a, _, rfl, sa2, rfl, ?_⟩
      walk_at "h"
      refine rd_leafR (by omega) (by omega) ?_
      refine for_range (fun j σ H' => ∃ (r : Addr) (m : Pl) (v6 : Option V), σ = [some (V.int co), some (V.ref t), some (V.ref d), some (V.ref r), some (V.str y), some (V.int e), v6] ∧ H r = none ∧ H' r = some (.dK (plV m)) ∧ PolyOk n (D * (degP (ps.take i) + j)) m ∧ (∀ us, evP n us m = co * (wprod (fun y => evP n us (A y)) (ps.take i) * evP n us (A y) ^ j)) ∧ Same H H')
        ⟨r, m, _, rfl, nr, hr2, pm, fun us => by rw [em, Int.pow_zero, Int.mul_one], s2⟩ ?_ ?_
      · rintro j σ H3 hj ⟨r, m, v6, rfl, nr, hr3, pm, em, s3⟩
        have hy3 := s3 _ _ hy
        have ney : r ≠ ad y := fun z => by rw [z, hy] at nr; cases nr
        walk_at "h"
        refine ⟨d, _, rfl, by have := DGet.k (k := Sum.inr y) (s3 _ _ hd); rw [valV_dl k1] at this; exact this, ?_⟩
        have dj : degP (ps.take i) + j ≤ 1 := by omega
        have cb : ∀ q ∈ m, q.2 ≤ 10 ^ 14 := fun q hq => by
          have h1 := pm.co_le on1 hq
          rw [em] at h1
          have hp : (10 : Int) ^ 6 ^ 1 = 1000000 := by decide
          have g1 : wprod (fun y => evP n (ones n) (A y)) (ps.take i) ≤ 1000000 := Int.le_trans Ft.2 (by
            have : degP (ps.take i) = 0 ∨ degP (ps.take i) = 1 := by omega
            rcases this with z | z <;> rw [z] <;> decide)
          have g2 : evP n (ones n) (A y) ^ j ≤ 1000000 := Int.le_trans (pow_le_powI Fi.1 Fi.2 j) (by
            have : j = 0 ∨ j = 1 := by omega
            rcases this with z | z <;> rw [z] <;> decide)
          have g0 : 0 ≤ evP n (ones n) (A y) ^ j := Int.pow_nonneg Fi.1
          have g3 := Int.mul_le_mul g1 g2 g0 (by decide)
          have g4 : 0 ≤ wprod (fun y => evP n (ones n) (A y)) (ps.take i) * evP n (ones n) (A y) ^ j := Int.mul_nonneg Ft.1 g0
          have g5 := Int.mul_le_mul c2 g3 g4 (by decide)
          omega
        have cb2 : ∀ q ∈ A y, q.2 ≤ 10 ^ 14 := fun q hq => by
          have h1 := py.co_le on1 hq
          omega
        have dd : D * (degP (ps.take i) + j) + D ≤ D * 2 := by
          have : D * (degP (ps.take i) + j) + D = D * (degP (ps.take i) + j + 1) := by rw [Nat.mul_succ]
          rw [this]
          exact Nat.mul_le_mul_left D (by omega)
        walk_at "h"
        refine ⟨r, ad y, m, A y, D * (degP (ps.take i) + j), D, rfl, ney, hr3, hy3, pm, py, Nat.le_trans (Nat.pow_le_pow_left (by omega) n) sz, by omega, cb, cb2, fun r' m' H4 nr' hr' pm' em' s4 => ?_⟩
        walk_at "h"
        refine ⟨r', m', _, rfl, s3.free nr', hr', ?_, fun us => ?_, s3.trans s4⟩
        · rw [show D * (degP (ps.take i) + (j + 1)) = D * (degP (ps.take i) + j) + D by rw [← Nat.mul_succ]; rfl]
          exact pm'
        · rw [em', em, Int.pow_succ, Int.mul_assoc, Int.mul_assoc]
      · rintro σ H3 ⟨r, m, v6, rfl, nr, hr3, pm, em, s3⟩
        refine ⟨r, m, _, _, _, rfl, nr, hr3, ?_, fun us => ?_, s3⟩
        · rw [dst]; exact pm
        · rw [em, wst]
    · rintro σ H2 ⟨r, m, v4, v5, v6, rfl, nr, hr2, pm, em, s2⟩
      rw [nv, List.take_length] at pm em
      walk_at "h"
      exact q r m H2 nr hr2 (pm.mono (Nat.mul_le_mul_left D dg)) em s2
end
end K41
namespace K41
open PySem PySem.Spec PyProof.Rows L2 HH
local macro_rules | `(tactic| walk_at "h1") => `(tactic| first
  | with_reducible refine rd_seq ?_ | with_reducible refine rd_asg ?_ | with_reducible refine rd_op ?_
  | ((with_reducible refine' rd_var ?hv ?_); (case hv => exact rfl)) | with_reducible refine rd_c ?_
  | ((with_reducible refine rd_name ?_); dsimp only [List.set_cons_zero, List.set_cons_succ])
  | with_reducible refine rd_I0 ?_ | ((with_reducible refine rd_pow ?_ ?_ ?_ ?_); (· decide); (· decide); (· decide)) | ((with_reducible refine rd_mod ?_ ?_); (· decide)) | ((with_reducible refine rd_mulR ?_ ?_ ?_); (· decide); (· decide)) | ((with_reducible refine rd_divW (n := 64) ?_ ?_ ?_ ?_ ?_); (· decide); (· decide); (· decide); (· decide)) | with_reducible refine rd_addI ?_ | with_reducible refine rd_eqI ?_ | with_reducible refine rd_eqS ?_ | with_reducible refine rd_eqB ?_ | with_reducible refine rd_ltI ?_
  | with_reducible refine rd_callS ?_ | with_reducible refine rd_xf ?_ | with_reducible refine rd_cons ?_ | with_reducible refine rd_nil ?_ | with_reducible refine rd_cb ?_ | with_reducible refine rd_call ?_
  | with_reducible refine rd_ifs ?_ | with_reducible refine rd_test ?_ | with_reducible refine rd_tB ?_ | with_reducible refine rd_blQ ?_ | with_reducible refine iteT ?_ | with_reducible refine iteF ?_ | with_reducible refine iteNotF ?_ | with_reducible refine iteNotT ?_
  | with_reducible refine rd_and ?_ | with_reducible refine rd_or ?_ | with_reducible refine rd_not ?_ | with_reducible refine rd_andV ?_ | with_reducible refine rd_orV ?_ | with_reducible refine rd_notV ?_ | with_reducible refine rd_if ?_
  | with_reducible refine rd_un ?_ | with_reducible refine rd_U ?_ | with_reducible refine rd_sub ?_ | with_reducible refine rd_tup ?_ | with_reducible refine rd_lst ?_
  | with_reducible refine rd_intI ?_ | with_reducible refine rd_absI ?_ | with_reducible refine rd_drop ?_ | with_reducible refine rd_ret ?_ | with_reducible refine rd_retN ?_ | with_reducible refine rd_next ?_ | with_reducible refine rd_bm ?_
  | with_reducible refine rd_tDGet2 ?_ | with_reducible refine rd_tDGet ?_ | with_reducible refine rd_sDPut ?_ | with_reducible refine rd_dnewK ?_ | with_reducible refine rd_nnew ?_ | with_reducible refine rd_nget ?_ | with_reducible refine rd_nget2 ?_ | with_reducible refine rd_npop ?_ | with_reducible refine rd_nput ?_ | with_reducible refine rd_dcn ?_ | with_reducible refine rd_gtup ?_ | with_reducible refine rd_gcons ?_ | with_reducible refine rd_gnil ?_ | with_reducible refine rd_lc ?_ | with_reducible refine rd_yes ?_ | with_reducible refine rd_for ?_ | with_reducible refine rd_iL ?_ | with_reducible refine rd_neS ?_ | with_reducible refine rd_neN ?_ | with_reducible refine rd_neB ?_ | with_reducible refine rd_chain ?_ | with_reducible refine rd_bm0 ?_ | with_reducible refine rd_dc ?_ | with_reducible refine rd_iN ?_ | with_reducible refine rd_iZ ?_ | with_reducible refine rd_ngetF ?_ | with_reducible refine rd_iT ?_ | with_reducible refine rd_iR1 ?_ | with_reducible refine rd_iS ?_ | with_reducible refine rd_leafS ?_ | with_reducible refine rd_sl ?_ | with_reducible refine rd_noPart ?_ | with_reducible refine rd_part ?_ | with_reducible refine rd_leafI ?_)
local macro_rules | `(tactic| walk_at "h") => `(tactic| repeat walk_at "h1")

section
variable {P : Program} {w : World} {K : PySem.W.Frag} {mg : Str → Option Value} {base : Heap}
theorem word_add (b : Bool) : decide (wordK b = (Str.ofString "add")) = b := by cases b <;> decide
theorem plT_tget {Z : List Str} (nd : Z.Nodup) {j : Nat} {z : Str} (h : Z[j]? = some z) : tget (plT Z) z = some ((64 * j : Nat) : Int) := by
  obtain ⟨hj, rfl⟩ := List.getElem?_eq_some_iff.mp h
  exact mem_tget (by rw [plT_keys]; exact nd) (List.mem_of_getElem? (plT_get hj))
theorem shl_ok {j : Nat} (h : j ≤ 100) : CShl 1 ((64 * j : Nat) : Int) := by
  refine ⟨by omega, ?_⟩
  rw [show Builtin.Int.intBits 1 = 1 by decide]
  omega
theorem ok_paper {f : Addr} {fd : FuncData} (F : Fun K "loop_paper" "loop_paper" s_loop_paper f fd) (T : Bi mg) (G_places_of : Callee P w K mg base 1 "places_of" ["names"] (spPlaces K)) (G_calm_parts : Callee P w K mg base 5 "calm_parts" ["names", "flat"] (spCalm K))
    (G_raising : Callee P w K mg base 2 "raising" ["part", "flat"] (spRaising K)) (G_packed_put : ∀ n, Callee P w K mg base 2 "packed_put" ["coefficient", "product", "sums"] (spPut K n)) (G_packed_plus : ∀ n, Callee P w K mg base 1 "packed_plus" ["one", "other"] (spPlus n))
    (G_unpacked : Callee P w K mg base 1 "unpacked" ["terms", "places"] (spUnpacked K)) : FnOk P w K mg base CX0 6 f fd ["names", "flat"] (spPaper K) := by
  refine F.ok (k := 5) sc_loop_paper (fun vs H Q E h => ?_) (fun cdv A outer s H vs Q E hr h => ?_)
  · obtain ⟨nm, fl, xs, R, rfl, _⟩ := h
    rfl
  · obtain ⟨nm, fl, xs, R, rfl, hn, kR, rin, rb, so, low, lx, q⟩ := h
    have hu := hu_of hr
    have hu20 := hu20_of hr
    have hu40 := hu40_of hr
    replace G_packed_put := G_packed_put (Zs xs).length
    replace G_packed_plus := G_packed_plus (Zs xs).length
    obtain ⟨f_places_of, fd_places_of, F_places_of, m_places_of, k_places_of, b_places_of⟩ := G_places_of; obtain ⟨f_calm_parts, fd_calm_parts, F_calm_parts, m_calm_parts, k_calm_parts, b_calm_parts⟩ := G_calm_parts; obtain ⟨f_raising, fd_raising, F_raising, m_raising, k_raising, b_raising⟩ := G_raising; obtain ⟨f_packed_put, fd_packed_put, F_packed_put, m_packed_put, k_packed_put, b_packed_put⟩ := G_packed_put; obtain ⟨f_packed_plus, fd_packed_plus, F_packed_plus, m_packed_plus, k_packed_plus, b_packed_plus⟩ := G_packed_plus; obtain ⟨f_unpacked, fd_unpacked, F_unpacked, m_unpacked, k_unpacked, b_unpacked⟩ := G_unpacked
    have nd : xs.Nodup := strict_nodup so
    have lZ : (Zs xs).length = xs.length + 1 := rfl
    have nZ : (Zs xs).Nodup := List.nodup_cons.mpr ⟨fun h => by have := low _ h 35 (by decide); omega, nd⟩
    have rn := rb.rn
    obtain ⟨_, vR, ea, sR, tR, nR⟩ := rows_at kR
    obtain rfl := V.ref.inj ea
    refine ⟨_, (pss_cons (ps_set (i := 2) sc_loop_paper.nd rfl (.inr rfl) (pe_call F_places_of (hr.mono (by decide)) (by rfl) m_places_of k_places_of b_places_of .nil pass0 (pa_cons (pv 0) pa_nil)))
  (pss_cons (ps_set (i := 3) sc_loop_paper.nd rfl (.inl rfl) pe_dnewK)
  (pss_cons (ps_set (i := 4) sc_loop_paper.nd rfl (.inl rfl) (pe_lst pa_nil))
  (pss_cons (ps_for PassesOwn.never rfl (pi_list (pe_call F_calm_parts (hr.mono (by decide)) (by rfl) m_calm_parts k_calm_parts b_calm_parts .nil pass0 (pa_cons (pv 0) (pa_cons (pv 1) pa_nil)))) (pg_name (i := 5) sc_loop_paper.nd rfl (.inl rfl))
    (pss_cons (ps_setDc (i := 7) (own := [("name", 6)]) rfl sc_loop_paper.nd rfl rfl (sw_trueD rfl rfl rfl (by decide +kernel)) (pi_tup (pv 5)) (blkOk_by (N := N_loop_paper) (sc := defScope s_loop_paper) (by decide +kernel)) (fun _ _ _ _ _ => (pg_name (i := 6) sc_loop_paper.nd rfl (.inl rfl))) (fun _ _ _ _ _ => pts_nil) (fun _ _ _ _ _ => (pe_op op_shlW pe_int (pe_dget hu (pv 2) (pv 6) (fun _ _ => rfl)))) (fun _ _ _ _ _ => pe_int))
  (pss_cons (ps_for PassesOwn.never rfl (pi_list (pe_call F_raising (hr.mono (by decide)) (by rfl) m_raising k_raising b_raising .nil pass0 (pa_cons (pv 5) (pa_cons (pv 1) pa_nil)))) (pg_name (i := 8) sc_loop_paper.nd rfl (.inl rfl))
    (pss_cons (ps_asg (pe_ix (ix_tupK (K := K)) (pv 1) (pv 8) (fun _ _ => rfl)) (pg_tupK (K := K) 4 rfl (pgs_cons (pg_name (i := 9) sc_loop_paper.nd rfl (.inl rfl)) (pgs_cons (pg_name (i := 10) sc_loop_paper.nd rfl (.inl rfl)) (pgs_cons (pg_name (i := 11) sc_loop_paper.nd rfl (.inl rfl)) (pgs_cons (pg_name (i := 12) sc_loop_paper.nd rfl (.inl rfl)) pgs_nil))))))
  (pss_cons (ps_set (i := 13) sc_loop_paper.nd rfl (.inl rfl) (pe_call F_packed_put (hr.mono (by decide)) (by rfl) m_packed_put k_packed_put b_packed_put .nil pass0 (pa_cons (pv 11) (pa_cons (pv 12) (pa_cons (pv 3) pa_nil)))))
  (C8.pss_cut (ps_if (pt_cmpR (op_eqU (K := K) hu40) (pv 9) pe_str (nomark _)) (pss_one (ps_lock (ps_setDc (i := 13) (own := [("code", 14), ("factor", 15)]) rfl sc_loop_paper.nd rfl rfl (sw_trueD rfl rfl rfl (by decide +kernel)) (pi_items (pv 13)) (blkOk_by (N := N_loop_paper) (sc := defScope s_loop_paper) (by decide +kernel)) (fun _ _ _ _ _ => (pg_tupK (K := K) 2 rfl (pgs_cons (pg_name (i := 14) sc_loop_paper.nd rfl (.inl rfl)) (pgs_cons (pg_name (i := 15) sc_loop_paper.nd rfl (.inl rfl)) pgs_nil)))) (fun _ _ _ _ _ => pts_nil) (fun _ _ _ _ _ => (pe_op (op_addU (K := K)) (pv 14) (pe_op op_shlW pe_int (pe_dget hu (pv 2) pe_str (fun _ _ => rfl))))) (fun _ _ _ _ _ => (pv 15))))) pss_nil)
  (pss_one (ps_set (i := 7) sc_loop_paper.nd rfl (.inl rfl) (pe_call F_packed_plus (hr.mono (by decide)) (by rfl) m_packed_plus k_packed_plus b_packed_plus .nil pass0 (pa_cons (pv 7) (pa_cons (pv 13) pa_nil)))))))))
  (pss_cons (ps_for PassesOwn.never rfl (pi_tup (pv 5)) (pg_name (i := 6) sc_loop_paper.nd rfl (.inl rfl))
    (pss_one (ps_dput hu (pv 3) (pv 6) (pv 7) rfl)))
  (pss_one (ps_expr (pe_bm PySem.F.plainAttrs_list PySem.F.slot_list_append PySem.F.type_list_append mt_append (pv 4) (pa_cons (pe_tup (pa_cons (pv 5) (pa_cons (pe_call F_unpacked (hr.mono (by decide)) (by rfl) m_unpacked k_unpacked b_unpacked .nil pass0 (pa_cons (pv 7) (pa_cons (pv 2) pa_nil))) pa_nil))) pa_nil))))))))
  (pss_one (ps_ret (pe_callTy (call_tupC (K := K)) (by rfl) T.tuple_ (by decide +kernel) (pa_cons (pv 4) pa_nil)))))))), ?_⟩
    rw [show L2.start N_loop_paper [V.ref nm, V.ref fl] = [some (V.ref nm), some (V.ref fl), none, none, none, none, none, none, none, none, none, none, none, none, none, none] from rfl]
    (try dsimp only [cxOf, Cx.nox, Cx.wish])
    walk_at "h"
--B
    refine ⟨nm, xs, rfl, hn, by omega, nZ, fun pd H1 hpd s1 => ?_⟩
    walk_at "h"
    intro kd nkd
    have skd : Same H1 (upd H1 kd (.dK [])) := same_new nkd
    have hkd : (upd H1 kd (.dK [])) kd = some (.dK []) := upd_same
    generalize upd H1 kd (.dK []) = H2 at skd hkd
    walk_at "h"
    refine ⟨Nat.zero_le _, fun pp npp => ?_⟩
    have kpp : kd ≠ pp := ne_of_none hkd npp
    have spp : Same H2 (upd H2 pp (.lst [])) := same_new npp
    have hpp : (upd H2 pp (.lst [])) pp = some (.lst []) := upd_same
    generalize upd H2 pp (.lst []) = H3 at spp hpp
    have hkd3 := spp _ _ hkd
    have npp1 : H1 pp = none := skd.free npp
    have s13 := skd.trans spp
    have s03 := s1.trans s13
    have tp3 := same_tup (K := K) s03
    walk_at "h"
    refine ⟨nm, fl, xs, R, rfl, tp3 _ _ hn, kR.keep tp3, rin, rn, so, low, by omega, fun l0 L0 H4 nl0 hl0 e0 z0 s4 => ?_⟩
    refine ⟨_, rfl, ⟨_, sql hl0⟩, ?_⟩
    have s14 := s13.trans s4
    have lcl := calm_len (xs := xs) (R := R) rn
    have lL0 : L0.length = (calmL R xs).length := by rw [← e0, List.length_map]
    have hpd4 := s14 _ _ hpd
    have hkd4 := s4 _ _ hkd3
    have hpp4 := s4 _ _ hpp
    have tp4 := same_tup (K := K) s4
    have n4 : (Zs xs).length ≤ 4 := by omega
    have dpd : pd ≠ kd := ne_of_none hpd nkd
    have dpp : pd ≠ pp := ne_of_none hpd npp1
    have l0k : l0 ≠ kd := fun e => by rw [e, hkd3] at nl0; cases nl0
    have l0p : l0 ≠ pp := fun e => by rw [e, hpp] at nl0; cases nl0
    refine for_list (xs := refsP L0) (fun i σ H' => ∃ (ad : Str → Addr) (A : Str → Pl) (L : List Ent) (v5 v6 v7 v8 v9 v10 v11 v12 v13 : Option V), σ = [some (V.ref nm), some (V.ref fl), some (V.ref pd), some (V.ref kd), some (V.ref pp), v5, v6, v7, v8, v9, v10, v11, v12, v13, none, none] ∧
      H' kd = some (.dK ((((calmL R xs).take i).flatten).map fun y => ((Sum.inr y : L2.Key), V.ref (ad y)))) ∧ H' pp = some (.lst (L.map fun e => V.ref e.pa)) ∧ L.map (·.p) = (calmL R xs).take i ∧ (∀ e ∈ L, EntOk K H' (Zs xs) A e) ∧ PAt xs R A i ∧
      (∀ y ∈ ((calmL R xs).take i).flatten, H' (ad y) = some (.dK (plV (A y))) ∧ ad y ≠ kd) ∧ Fr2 kd pp H4 H')
      ⟨fun _ => 0, fun _ => [], [], _, _, _, _, _, _, _, _, _, rfl, hkd4, hpp4, rfl, by simp, ⟨fun j p h => absurd h (Nat.not_lt_zero _), fun j p h => absurd h (Nat.not_lt_zero _)⟩, by simp, fun _ _ _ _ h => h⟩ (fun i σ H' _ ⟨_, _, _, _, _, _, _, _, _, _, _, _, _, _, _, _, _, _, _, f2⟩ => sql (f2 _ _ l0k l0p hl0)) ?_ ?_
    · rintro i x σ H5 hx ⟨ad, A, L, v5, v6, v7, v8, v9, v10, v11, v12, v13, rfl, hk5, hp5, eL, eo, PA, hA, f2⟩
      have hi : i < L0.length := by
        have := (List.getElem?_eq_some_iff.mp hx).1
        simpa using this
      obtain rfl : x = V.ref L0[i].1 := by
        rw [List.getElem?_map, List.getElem?_eq_getElem hi] at hx
        exact (Option.some.inj hx).symm
      have qm : L0[i] ∈ L0 := List.getElem_mem hi
      obtain ⟨zq4, _⟩ := z0 _ qm
      have hcp : (calmL R xs)[i]? = some L0[i].2 := by rw [← e0, List.getElem?_map, List.getElem?_eq_getElem hi]; rfl
      have zq5 := f2.zt hkd4 hpp4 zq4
      generalize L0[i] = q0 at zq4 zq5 hcp
      obtain ⟨qa, p⟩ := q0
      replace zq5 : ZT H5 qa (p.map V.str) := zq5
      replace hcp : (calmL R xs)[i]? = some p := hcp
      have pin := List.mem_of_getElem? hcp
      have i2 : i ≤ 2 := by omega
      obtain ⟨ps1, ps2⟩ := calm_sub rn pin
      have ndp : p.Nodup := by
        obtain ⟨x, _, e⟩ := ordR_is rn (calm_mem pin).1
        rw [e]; exact nd.filter _
      have hpd5 := f2 _ _ dpd dpp hpd4
      have tp45 : Tup K H4 H5 := f2.tup hkd4 hpp4
      have tp5 : Tup K H H5 := tp3.trans (tp4.trans tp45)
      have d0 : Dn i = 0 ∨ Dn i = 1 ∨ Dn i = 3 := by
        have : i = 0 ∨ i = 1 ∨ i = 2 := by omega
        rcases this with e | e | e <;> rw [e] <;> decide
      have d1 : Dn (i + 1) = Dn i * 2 + 1 := by
        unfold Dn
        have := Nat.two_pow_pos i
        rw [Nat.pow_succ]
        omega
      have szp : ∀ k, k ≤ 8 → k ^ (Zs xs).length ≤ 100000 := fun k hk => Nat.le_trans (Nat.pow_le_pow_left hk _) (Nat.le_trans (Nat.pow_le_pow_right (by decide) n4) (by decide))
      walk_at "h"
      refine rd_leafT zq5.seq ?_
      intro W nW
      refine dc_itW walk_tup [some (V.ref nm), some (V.ref fl), some (V.ref pd), some (V.ref kd), some (V.ref pp), some (V.ref qa), none, v7, v8, v9, v10, v11, v12, v13, none, none] rfl (fun k H' => Same H5 H' ∧ ∃ m : Pl, H' W = some (.dK (plV m)) ∧ PolyOk (Zs xs).length 1 m ∧ (∀ v, ev (Zs xs) v m = ((p.take k).map v).sum) ∧ ∀ q ∈ m, ∃ z ∈ p.take k, ∃ j : Nat, (Zs xs)[j]? = some z ∧ q.1 = 2 ^ (64 * j))
        ⟨same_new nW, [], upd_same, ⟨List.nodup_nil, by simp, by simp⟩, fun v => by simp [ev, evP, wsum], by simp⟩ (fun k H' _ h => same_tup h.1 _ _ zq5.seq) ?_ ?_
      · rintro k x H6 H6' hk ⟨s6, m, hm, pm, em, km⟩ ⟨rfl, hx⟩
        rw [List.length_map] at hk
        rw [List.getElem?_map, List.getElem?_eq_getElem hk] at hx
        obtain rfl := Option.some.inj hx
        have zin : p[k] ∈ Zs xs := List.mem_cons_of_mem _ (ps1 _ (List.getElem_mem hk))
        obtain ⟨j, hj⟩ := List.mem_iff_getElem?.mp zin
        have jn : j < (Zs xs).length := (List.getElem?_eq_some_iff.mp hj).1
        have knew : (2 : Int) ^ (64 * j) ∉ m.map (·.1) := fun h => by
          obtain ⟨q, hq, eq⟩ := List.mem_map.mp h
          obtain ⟨z, hz, j', hj', e2⟩ := km q hq
          have := unit_inj (e2.symm.trans eq)
          subst this
          rw [hj] at hj'
          obtain rfl := Option.some.inj hj'
          obtain ⟨a, ha, ea⟩ := List.getElem_of_mem hz
          rw [List.length_take] at ha
          rw [List.getElem_take] at ea
          exact (List.pairwise_iff_getElem.mp ndp) a k (by omega) hk (by omega) ea
        obtain ⟨pm2, em2⟩ := pm.add (bd_unit jn) (show (1 : Int) ≤ 1 by decide)
        rw [tget_none knew, Option.getD_none, Int.zero_add] at pm2 em2
        walk_at "h"
        refine ⟨rfl, ?_⟩
        walk_at "h"
        refine ⟨pd, _, rfl, dget_tab (s6 _ _ hpd5) (plT_tget nZ hj), ?_⟩
        refine rd_I (shl_ok (by omega)) ?_
        rw [show (1 : Int) * 2 ^ ((64 * j : Nat) : Int).toNat = 2 ^ (64 * j) by rw [Int.one_mul, Int.toNat_natCast]]
        walk_at "h"
        refine ⟨_, Sum.inl (2 ^ (64 * j)), rfl, hm, by rw [plV_len]; exact sz_lt (by have := pm.le (szp 2 (by decide)); omega), same_mut s6 nW, _, by rw [upd_same, putK_pl], pm2, fun v => ?_, fun q hq => ?_⟩
        · show evP _ _ _ = _
          rw [em2, show evP (Zs xs).length ((Zs xs).map v) m = _ from em v, wc_unit jn (by rw [List.getElem?_map, hj]; rfl), List.take_add_one, List.getElem?_eq_getElem hk, Option.toList_some, List.map_append, List.sum_append]
          simp
        · rcases mem_tput hq with z | z
          · obtain ⟨y, hy, r⟩ := km q z
            exact ⟨y, by rw [List.take_add_one]; exact List.mem_append_left _ hy, r⟩
          · rw [z]
            exact ⟨p[k], by rw [List.take_add_one, List.getElem?_eq_getElem hk]; exact List.mem_append_right _ List.mem_cons_self, j, hj, rfl⟩
      · rintro H6 ⟨s6, m0, hm0, pm0, em0, _⟩
        rw [List.length_map, List.take_length] at em0
        walk_at "h"
        have tp6 := same_tup (K := K) s6
        refine ⟨qa, fl, R, p, rfl, (kR.keep tp5).keep tp6, rin, tp6 _ _ zq5.seq, fun rl H7 hrl s7 => ?_⟩
        refine ⟨_, rfl, ⟨_, sql hrl⟩, ?_⟩
        have s57 := s6.trans s7
        refine for_list (xs := (raisL R p R.length).map fun k => V.int (k : Nat)) (fun k σ H' => ∃ (tm : Addr) (m : Pl) (v8 v9 v10 v11 v12 v13 : Option V), σ = [some (V.ref nm), some (V.ref fl), some (V.ref pd), some (V.ref kd), some (V.ref pp), some (V.ref qa), v6, some (V.ref tm), v8, v9, v10, v11, v12, v13, none, none] ∧ H5 tm = none ∧ H' tm = some (.dK (plV m)) ∧ PolyOk (Zs xs).length (Dn (i + 1)) m ∧
          (∀ v, ev (Zs xs) v m = (p.map v).sum + (((raisL R p R.length).take k).map fun k => match R[k]? with | some r => ctr (Zs xs) A v r | none => 0).sum) ∧ Same H7 H')
          ⟨W, m0, _, _, _, _, _, _, rfl, nW, s7 _ _ hm0, pm0.mono (by omega), fun v => by rw [em0]; simp, Same.refl _⟩ (fun k σ H' _ ⟨_, _, _, _, _, _, _, _, _, _, _, _, _, s⟩ => sql (s _ _ hrl)) ?_ ?_
        · rintro k x σ H8 hx ⟨tm, m, v8, v9, v10, v11, v12, v13, rfl, ntm, htm, pm, em, s8⟩
          have hk : k < (raisL R p R.length).length := by
            have := (List.getElem?_eq_some_iff.mp hx).1
            simpa using this
          rw [List.getElem?_map, List.getElem?_eq_getElem hk] at hx
          obtain rfl := Option.some.inj hx
          obtain ⟨r, er, rz⟩ := raisL_mem (List.getElem_mem hk)
          have nxt : ∀ v, (((raisL R p R.length).take (k + 1)).map fun k => match R[k]? with | some r => ctr (Zs xs) A v r | none => 0).sum = (((raisL R p R.length).take k).map fun k => match R[k]? with | some r => ctr (Zs xs) A v r | none => 0).sum + ctr (Zs xs) A v r := fun v => by
            rw [List.take_add_one, List.getElem?_eq_getElem hk, Option.toList_some, List.map_append, List.sum_append, List.map_cons, List.map_nil, List.sum_cons, List.sum_nil, er, Int.add_zero]
          generalize (raisL R p R.length)[k] = c at er
          have rm := List.mem_of_getElem? er
          obtain ⟨x', ex, kx⟩ := IsKs.get (i := c) (k := rowK r) tR (by rw [List.getElem?_map, er]; rfl)
          obtain ⟨ra, pa, rfl, sr, kp⟩ := row_at kx
          have s58 := s57.trans s8
          have tp8 : Tup K H H8 := tp5.trans (same_tup s58)
          obtain ⟨c1, c2, dg, pw⟩ := rb.row r rm
          walk_at "h"
          refine rd_ixt (tp8 _ _ sR) (atI_nat (j := c) ex) ?_
          refine ⟨ra, _, rfl, tp8 _ _ sr, rfl, ?_⟩
          walk_at "h"
          have hmem : ∀ y ∈ ((calmL R xs).take i).flatten, PolyOk (Zs xs).length (Dn i) (A y) ∧ evP (Zs xs).length (ones (Zs xs).length) (A y) ≤ 10 ^ 6 := fun y hy => by
            obtain ⟨p', hp', hy'⟩ := List.mem_flatten.mp hy
            obtain ⟨j, hj, ej⟩ := List.getElem_of_mem hp'
            rw [List.length_take] at hj
            rw [List.getElem_take] at ej
            have ej2 : (calmL R xs)[j]? = some p' := by rw [← ej]; exact List.getElem?_eq_getElem (by omega)
            have hji : j < i := by omega
            refine ⟨(PA.ok j p' hji ej2 y hy').1.mono ?_, ?_⟩
            · unfold Dn
              have := Nat.pow_le_pow_right (show 0 < 2 by decide) hji
              omega
            · have h1 := PA.bn j p' hji ej2 y hy' (fun _ => 1) (fun z _ => ⟨show (1 : Int) ≤ 1 by decide, show (1 : Int) ≤ 4 by decide⟩)
              have h2 : Bn (j + 1) ≤ Bn 2 := Bn_mono (by omega)
              have h3 : (Zs xs).map (fun _ => (1 : Int)) = ones (Zs xs).length := by unfold ones; exact List.map_const'
              unfold ev at h1
              rw [h3] at h1
              exact Int.le_trans h1 h2
          refine ⟨r.co, pa, kd, r.ps, ((calmL R xs).take i).flatten, ad, A, Dn i, rfl, kp.keep tp8, s58 _ _ hk5, fun q hq => ?_, fun y hy => ⟨s58 _ _ (hA y hy).1, (hmem y hy).1, (hmem y hy).2⟩, c1, by omega, dg, rin.2 r rm, szp _ (by omega), by omega, fun wr wm H9 nwr hwr pwm ewm s9 => ?_⟩
          · obtain ⟨j, p', hj, hp', hg⟩ := calm_back rn hcp rm rz hq
            have := pw q hq
            refine ⟨List.mem_flatten.mpr ⟨p', ?_, hg⟩, by omega⟩
            obtain ⟨hjl, ejl⟩ := List.getElem?_eq_some_iff.mp hp'
            exact List.mem_of_getElem? (i := j) (by rw [List.getElem?_take_of_lt hj]; exact hp')
          walk_at "h"
          refine rd_cut (fun σ' H' => ∃ (wa : Addr) (w2 : Pl), σ' = [some (V.ref nm), some (V.ref fl), some (V.ref pd), some (V.ref kd), some (V.ref pp), some (V.ref qa), v6, some (V.ref tm), some (V.int (c : Nat)), some (V.str (wordK r.add)), some (V.str r.nm), some (V.int r.co), some (V.ref pa), some (V.ref wa), none, none] ∧ H' wa = some (.dK (plV w2)) ∧ PolyOk (Zs xs).length (Dn (i + 1)) w2 ∧ (∀ v, ev (Zs xs) v w2 = ctr (Zs xs) A v r) ∧ Same H9 H') ?_ ?_
          · walk_at "h"
            rw [word_add]
            refine ite2 (fun ca => ?_) (fun ca => ?_)
            · refine rd_lockD hwr fun od => ?_
              walk_at "h"
              refine rd_iIt ?_
              walk_at "h"
              refine ⟨wr, od, plV wm, rfl, upd_same, ?_⟩
              intro U nU0
              obtain ⟨uw, nU⟩ := locked_ne nU0
              have pdw : pd ≠ wr := fun e => by rw [← e, s58 _ _ hpd5] at nwr; cases nwr
              have hpd9 : (upd H9 wr (.frz od (.dK (plV wm)))) pd = some (.dK (tabV (plT (Zs xs)))) := by rw [upd_ne pdw]; exact s9 _ _ (s58 _ _ hpd5)
              refine dc_itW walk_items [some (V.ref nm), some (V.ref fl), some (V.ref pd), some (V.ref kd), some (V.ref pp), some (V.ref qa), v6, some (V.ref tm), some (V.int (c : Nat)), some (V.str (wordK r.add)), some (V.str r.nm), some (V.int r.co), some (V.ref pa), some (V.ref wr), none, none] rfl (fun k H' => Same (upd H9 wr (.frz od (.dK (plV wm)))) H' ∧ ∃ m2 : Pl, H' U = some (.dK (plV m2)) ∧ PolyOk (Zs xs).length (Dn (i + 1)) m2 ∧ (∀ v, ev (Zs xs) v m2 = v "#" * ev (Zs xs) v (wm.take k)) ∧ ∀ q ∈ m2, ∃ q' ∈ wm.take k, q.1 = q'.1 + 2 ^ (64 * 0))
                ⟨same_new nU0, [], upd_same, ⟨List.nodup_nil, by simp, by simp⟩, fun v => by simp [ev, evP, wsum], by simp⟩ (fun k H' _ h => h.1 _ _ upd_same) ?_ ?_
              · rintro k x H10 H11 hk ⟨s10, m2, hm2, pm2, em2, km2⟩ y
                rw [plV_len] at hk
                obtain ⟨t, rfl, nt, rfl⟩ := yp_pl hk y
                have ut : U ≠ t := ne_of_none hm2 nt
                have s11 := s10.trans (same_new (o := .tup [.int wm[k].1, .int wm[k].2]) nt)
                have hm3 : (upd H10 t (.tup [.int wm[k].1, .int wm[k].2])) U = some (.dK (plV m2)) := by rw [upd_ne ut]; exact hm2
                have ht : (upd H10 t (.tup [.int wm[k].1, .int wm[k].2])) t = some (.tup [.int wm[k].1, .int wm[k].2]) := upd_same
                generalize upd H10 t (.tup [.int wm[k].1, .int wm[k].2]) = H11 at s11 hm3 ht
                have mk : wm[k] ∈ wm := List.getElem_mem hk
                have knew : wm[k].1 + 2 ^ (64 * 0) ∉ m2.map (·.1) := fun h => by
                  obtain ⟨q, hq, eq⟩ := List.mem_map.mp h
                  obtain ⟨q', hq', e2⟩ := km2 q hq
                  have : q'.1 = wm[k].1 := by rw [e2] at eq; omega
                  exact nodup_take pwm.nd hk (by rw [← this]; exact List.mem_map_of_mem hq')
                have b1 := pwm.bd _ mk
                have b2 : Bd (Zs xs).length (Dn (i + 1)) (wm[k].1 + 2 ^ (64 * 0)) := by rw [d1]; exact b1.add (bd_unit (by omega))
                obtain ⟨pm3, em3⟩ := pm2.add b2 (pwm.co _ mk)
                rw [tget_none knew, Option.getD_none, Int.zero_add] at pm3 em3
                walk_at "h"
                refine ⟨t, _, rfl, sqt ht, rfl, ?_⟩
                walk_at "h"
                refine ⟨rfl, ?_⟩
                walk_at "h"
                refine ⟨pd, _, rfl, dget_tab (s11 _ _ hpd9) (plT_tget nZ (j := 0) rfl), ?_⟩
                refine rd_I (shl_ok (by omega)) ?_
                rw [show (1 : Int) * 2 ^ ((64 * 0 : Nat) : Int).toNat = 2 ^ (64 * 0) by rw [Int.one_mul, Int.toNat_natCast]]
                walk_at "h"
                refine ⟨_, Sum.inl (wm[k].1 + 2 ^ (64 * 0)), rfl, hm3, by rw [plV_len]; exact sz_lt (by have := pm2.le (szp _ (by omega)); omega), same_mut s11 nU0, _, by rw [upd_same, putK_pl], pm3, fun v => ?_, fun q hq => ?_⟩
                · show evP _ _ _ = _
                  rw [em3, show evP (Zs xs).length ((Zs xs).map v) m2 = _ from em2 v, b1.wc_add (bd_unit (by omega)) (by omega), wc_unit (j := 0) (v := v "#") (by omega) rfl]
                  unfold ev
                  rw [evP_step _ _ _ hk, Int.mul_add]
                  congr 1
                  ac_rfl
                · rcases mem_tput hq with z | z
                  · obtain ⟨y, hy, r⟩ := km2 q z
                    exact ⟨y, by rw [List.take_add_one]; exact List.mem_append_left _ hy, r⟩
                  · rw [z]
                    exact ⟨wm[k], by rw [List.take_add_one, List.getElem?_eq_getElem hk]; exact List.mem_append_right _ List.mem_cons_self, rfl⟩
              · rintro H10 ⟨s10, m2, hm2, pm2, em2, _⟩
                rw [plV_len, List.take_length] at em2
                walk_at "h"
                refine ⟨s10 _ _ upd_same, U, m2, rfl, by rw [upd_ne uw]; exact hm2, pm2, fun v => ?_, same_lock hwr s10⟩
                rw [em2]
                unfold ctr
                rw [if_pos ca]
                congr 1
                exact ewm _
            · walk_at "h"
              refine ⟨wr, wm, rfl, hwr, pwm.mono (by omega), fun v => ?_, Same.refl _⟩
              unfold ctr
              rw [if_neg ca, Int.one_mul]
              exact ewm _
          · rintro σ' H10 ⟨wa, w2, rfl, hw2, pw2, ew2, s10⟩
            have s8a := s9.trans s10
            walk_at "h"
            refine ⟨tm, wa, m, w2, Dn (i + 1), rfl, s8a _ _ htm, hw2, pm, pw2, szp _ (by omega), fun tm' m' H11 ntm' htm' pm' em' s11 => ?_⟩
            walk_at "h"
            refine ⟨tm', m', _, _, _, _, _, _, rfl, (s58.trans s8a).free ntm', htm', pm', fun v => ?_, (s8.trans s8a).trans s11⟩
            rw [nxt, ← Int.add_assoc, ← em v, ← ew2 v]
            exact em' _
        · rintro σ H8 ⟨tm, m, v8, v9, v10, v11, v12, v13, rfl, ntm, htm, pm, em, s8⟩
          rw [List.length_map, List.take_length] at em
          have em' : ∀ v, ev (Zs xs) v m = Ufm (Zs xs) R A p v := fun v => by
            have e := rais_sum (R := R) (ctr (Zs xs) A v) p (Nat.le_refl R.length)
            rw [List.take_length] at e
            rw [em]
            unfold Ufm
            congr 1
          have s58 := s57.trans s8
          have PA2 := PA.step rb lx hcp pm em'
          have hk8 := s58 _ _ hk5
          have zq8 := zq5.keep s58
          have tk : tm ≠ kd := fun e => by rw [e, hk5] at ntm; cases ntm
          have tpd : tm ≠ pd := fun e => by rw [e, hpd5] at ntm; cases ntm
          have tpp : tm ≠ pp := fun e => by rw [e, hp5] at ntm; cases ntm
          have dis : ∀ y ∈ ((calmL R xs).take i).flatten, y ∉ p := fun y hy hyp => by
            obtain ⟨p', hp', hy'⟩ := List.mem_flatten.mp hy
            obtain ⟨j, hj, ej⟩ := List.getElem_of_mem hp'
            rw [List.length_take] at hj
            rw [List.getElem_take] at ej
            have ej2 : (calmL R xs)[j]? = some p' := by rw [← ej]; exact List.getElem?_eq_getElem (by omega)
            have := calm_apart rn ej2 hcp hy' hyp
            omega
          have nks : (((calmL R xs).take i).flatten).length ≤ 30 := by
            have h1 := flat_len (L := (calmL R xs).take i) (n := 3) fun z hz => Nat.le_trans (calm_sub rn (List.mem_of_mem_take hz)).2 lx
            have h2 := List.length_take_le i (calmL R xs)
            have : ((calmL R xs).take i).length * 3 ≤ 3 * 3 := Nat.mul_le_mul_right 3 (by omega)
            omega
          have nxf : ((calmL R xs).take (i + 1)).flatten = ((calmL R xs).take i).flatten ++ p := by
            rw [List.take_add_one, hcp, Option.toList_some, List.flatten_append]
            simp
          walk_at "h"
          refine rd_leafT zq8.seq ?_
          refine for_tup (xs := p.map V.str) (fun k σ H' => ∃ v6 : Option V, σ = [some (V.ref nm), some (V.ref fl), some (V.ref pd), some (V.ref kd), some (V.ref pp), some (V.ref qa), v6, some (V.ref tm), v8, v9, v10, v11, v12, v13, none, none] ∧ H' kd = some (.dK ((((calmL R xs).take i).flatten ++ p.take k).map fun y => ((Sum.inr y : L2.Key), V.ref (if y ∈ p then tm else ad y)))) ∧ HH.Fr kd H8 H')
            ⟨_, rfl, by
              rw [hk8, List.take_zero, List.append_nil]
              congr 2
              exact List.map_congr_left fun y hy => by rw [if_neg (dis y hy)], HH.Fr.refl _ _⟩ (fun k σ H' _ ⟨_, _, _, fr⟩ => fr_tupD fr hk8 _ _ zq8.seq) ?_ ?_
          · rintro k x σ H9 hx ⟨v6, rfl, hk9, fr9⟩
            have hk : k < p.length := by
              have := (List.getElem?_eq_some_iff.mp hx).1
              simpa using this
            rw [List.getElem?_map, List.getElem?_eq_getElem hk] at hx
            obtain rfl := Option.some.inj hx
            have xin : p[k] ∈ p := List.getElem_mem hk
            have xnew : p[k] ∉ ((calmL R xs).take i).flatten ++ p.take k := fun h => by
              rcases List.mem_append.mp h with z | z
              · exact dis _ z xin
              · obtain ⟨a, ha, ea⟩ := List.getElem_of_mem z
                rw [List.length_take] at ha
                rw [List.getElem_take] at ea
                exact (List.pairwise_iff_getElem.mp ndp) a k (by omega) hk (by omega) ea
            walk_at "h"
            refine ⟨kd, _, rfl, DPut.k (k := Sum.inr p[k]) (v := V.ref tm) hk9 (by rw [List.length_map, List.length_append, List.length_take]; exact sz_lt (by omega)), ?_⟩
            refine ⟨_, rfl, ?_, fr_mut fr9⟩
            rw [upd_same, putK_dl xnew, List.take_add_one, List.getElem?_eq_getElem hk, Option.toList_some, ← List.append_assoc]
            congr 2
            refine List.map_congr_left fun y hy => ?_
            by_cases e : y = p[k]
            · rw [if_pos e, e, if_pos xin]
            · rw [if_neg e]
          · rintro σ H9 ⟨v6, rfl, hk9, fr9⟩
            rw [List.length_map, List.take_length, ← nxf] at hk9
            have hp9 := fr9 _ _ kpp.symm (s58 _ _ hp5)
            have htm9 := fr9 _ _ tk htm
            have hpd9 := fr9 _ _ dpd (s58 _ _ hpd5)
            walk_at "h"
            refine ⟨.inl ⟨rfl, _, sql hp9⟩, ?_⟩
            walk_at "h"
            refine ⟨tm, pd, m, Zs xs, Dn (i + 1), rfl, htm9, hpd9, tpd, nZ, by omega, pm, szp _ (by omega), by omega, fun sa S H10 kS s10 lS tS wS => ?_⟩
            walk_at "h"
            refine ⟨sz_le (by simp only [List.length_cons, List.length_nil]; omega), fun u nu => ?_⟩
            have s11 : Same H10 (upd H10 u (.tup [.ref qa, .ref sa])) := same_new nu
            have hu11 : (upd H10 u (.tup [.ref qa, .ref sa])) u = some (.tup [.ref qa, .ref sa]) := upd_same
            generalize upd H10 u (.tup [.ref qa, .ref sa]) = H11 at s11 hu11
            have s911 := s10.trans s11
            have hp11 := s911 _ _ hp9
            walk_at "h"
            have lL : L.length ≤ 3 := by
              have h1 := congrArg List.length eL
              rw [List.length_map, List.length_take] at h1
              omega
            refine rd_app hp11 (by rw [List.length_map]; exact sz_lt (by omega)) ?_
            walk_at "h"
            have E0 : EntOk K H11 (Zs xs) (fun y => if y ∈ p then m else A y) ⟨u, qa, sa, p, S⟩ := ⟨sqt hu11, (fr_ztD fr9 hk8 zq8).keep s911, kS.keep (same_tup s11), fun x hx => by
              dsimp only
              rw [if_pos hx]
              exact ⟨lS, fun q hq => ⟨(tS q hq).1, (tS q hq).2.1, by have := (tS q hq).2.2; omega⟩, wS⟩⟩
            refine ⟨fun y => if y ∈ p then tm else ad y, fun y => if y ∈ p then m else A y, L ++ [⟨u, qa, sa, p, S⟩], _, _, _, _, _, _, _, _, _, rfl, by rw [upd_ne kpp]; exact s911 _ _ hk9, by rw [upd_same, List.map_append]; rfl, ?_, fun e he => ?_, PA2, fun y hy => ?_, fun b o b1 b2 hb => ?_⟩
            · rw [List.map_append, eL, List.take_add_one, hcp]
              rfl
            · refine EntOk.wr (u := .lst (L.map fun e => V.ref e.pa)) ?_ hp11 (fun _ z => nomatch z) (fun _ _ z => nomatch z)
              rcases List.mem_append.mp he with z | z
              · refine ((((eo e z).keep s58).fr fr9 hk8).keep s911).new fun x hx => ?_
                have : x ∉ p := dis x (List.mem_flatten.mpr ⟨e.p, by rw [← eL]; exact List.mem_map_of_mem z, hx⟩)
                try dsimp only
                rw [if_neg this]
              · rw [List.mem_singleton.mp z]; exact E0
            · rw [nxf] at hy
              try dsimp only
              rcases List.mem_append.mp hy with z | z
              · rw [if_neg (dis y z), if_neg (dis y z)]
                obtain ⟨a1, a2⟩ := hA y z
                have a3 : ad y ≠ pp := fun e => by rw [e, hp5] at a1; cases a1
                exact ⟨by rw [upd_ne a3]; exact s911 _ _ (fr9 _ _ a2 (s58 _ _ a1)), a2⟩
              · rw [if_pos z, if_pos z]
                exact ⟨by rw [upd_ne tpp]; exact s911 _ _ htm9, tk⟩
            · rw [upd_ne b2]
              exact s911 _ _ (fr9 _ _ b1 (s58 _ _ (f2 b o b1 b2 hb)))
    · rintro σ H5 ⟨ad, A, L, v5, v6, v7, v8, v9, v10, v11, v12, v13, rfl, hk5, hp5, eL, eo, PA, hA, f2⟩
      rw [List.length_map, lL0] at PA eL
      rw [List.take_length] at eL
      walk_at "h"
      refine rd_tupL (sql hp5) fun t nt => ?_
      refine q t L A _ (sqt upd_same) eL (fun e he => (eo e he).keep (same_new nt)) PA (fun b o hb => same_new nt _ _ ?_)
      refine f2 b o (fun z => ?_) (fun z => ?_) (s14 _ _ (s1 _ _ hb))
      · rw [z] at hb; rw [s1 _ _ hb] at nkd; cases nkd
      · rw [z] at hb; rw [s1 _ _ hb] at npp1; cases npp1
end
end K41
namespace K41
open PySem PySem.Spec PyProof.Rows L2 HH
theorem tget_put (m : Tab) (z : Str) (n : Int) (y : Str) : tget (tput m z n) y = if y = z then some n else tget m y := by
  unfold tput
  split
  · rename_i h
    induction m with
    | nil => simp at h
    | cons q m ih =>
      rw [List.map_cons]
      by_cases e : q.1 = z
      · by_cases e2 : y = z
        · rw [if_pos e2, if_pos e, tget_cons_pos (q := (q.1, n)) (by rw [e2]; exact e)]
        · have ne : ¬ q.1 = y := fun h => e2 (h.symm.trans e)
          rw [if_neg e2, if_pos e, tget_cons_neg (q := (q.1, n)) ne, tget_cons_neg ne]
          by_cases hz : z ∈ m.map (·.1)
          · rw [ih hz, if_neg e2]
          · have : (m.map fun q => if q.1 = z then (q.1, n) else q) = m := by
              have : ∀ r ∈ m, (if r.1 = z then (r.1, n) else r) = r := fun r hr => if_neg fun h => hz (by rw [← h]; exact List.mem_map_of_mem hr)
              rw [List.map_congr_left this, List.map_id']
            rw [this]
      · have hz : z ∈ m.map (·.1) := by
          rw [List.map_cons] at h
          rcases List.mem_cons.mp h with r | r
          · exact absurd r.symm e
          · exact r
        rw [if_neg e]
        by_cases e3 : q.1 = y
        · rw [tget_cons_pos e3, tget_cons_pos e3, if_neg (fun h => e (e3.trans h))]
        · rw [tget_cons_neg e3, tget_cons_neg e3, ih hz]
  · rename_i h
    induction m with
    | nil =>
      by_cases e : y = z
      · rw [if_pos e]; exact tget_cons_pos e.symm
      · rw [if_neg e]; exact tget_cons_neg (fun h => e h.symm)
    | cons q m ih =>
      rw [List.map_cons, List.mem_cons, not_or] at h
      rw [List.cons_append]
      by_cases e3 : q.1 = y
      · rw [tget_cons_pos e3, tget_cons_pos e3, if_neg (fun h2 => h.1 (by rw [← h2]; exact e3.symm))]
      · rw [tget_cons_neg e3, tget_cons_neg e3, ih h.2]
def spWorth (K : PySem.W.Frag) : Sp := fun vs H Q _ => ∃ (t d : Addr) (ps m : Tab) (b : Nat), vs = [.ref t, .ref d] ∧ IsK K H (prodK ps) (.ref t) ∧ H d = some (.dK (tabV m)) ∧ WB m ps b ∧ lackOf m ps = none ∧ Q (.int (worthP m ps)) H
def spTotal (K : PySem.W.Frag) : Sp := fun vs H Q _ => ∃ (t d : Addr) (S : Sm) (m : Tab), vs = [.ref t, .ref d] ∧ IsK K H (sumK S) (.ref t) ∧ H d = some (.dK (tabV m)) ∧ (∀ q ∈ S, WB m q.2 4 ∧ lackOf m q.2 = none ∧ q.1.natAbs < 2 ^ 100) ∧ S.length ≤ 100000 ∧
  ∀ H', Same H H' → Q (.int (worthS m S)) H'
/-- the product without one power of z -/
def wo (z : Str) : Tab → Tab
  | [] => []
  | q :: ps => (if q.1 = z then (if q.2 > 1 then [(z, q.2 - 1)] else []) else [q]) ++ wo z ps
theorem wo_app (z : Str) : ∀ a b : Tab, wo z (a ++ b) = wo z a ++ wo z b
  | [], _ => rfl
  | q :: a, b => by rw [List.cons_append, wo, wo, wo_app z a b, List.append_assoc]
theorem wo_len (z : Str) : ∀ a : Tab, (wo z a).length ≤ a.length
  | [] => Nat.le_refl _
  | q :: a => by
    have := wo_len z a
    rw [wo, List.length_append, List.length_cons]
    split
    · split <;> simp <;> omega
    · simp; omega
theorem wo_mem {z : Str} : ∀ {a : Tab} {q : Str × Int}, (∀ p ∈ a, 1 ≤ p.2) → q ∈ wo z a → q.1 ∈ a.map (·.1) ∧ 1 ≤ q.2
  | [], q, _, h => by simp [wo] at h
  | p :: a, q, g, h => by
    rw [wo] at h
    rcases List.mem_append.mp h with e | e
    · split at e
      · rename_i c
        split at e
        · rename_i d
          rw [List.mem_singleton.mp e]
          exact ⟨by rw [List.map_cons, c]; exact List.mem_cons_self, by show 1 ≤ p.2 - 1; omega⟩
        · cases e
      · rw [List.mem_singleton.mp e]
        exact ⟨List.mem_cons_self, g p List.mem_cons_self⟩
    · obtain ⟨h1, h2⟩ := wo_mem (fun r hr => g r (List.mem_cons_of_mem _ hr)) e
      exact ⟨List.mem_cons_of_mem _ h1, h2⟩
theorem wo_deg (z : Str) : ∀ {a : Tab}, degP (wo z a) ≤ degP a
  | [] => Nat.le_refl _
  | p :: a => by
    have ih := wo_deg z (a := a)
    rw [wo, degP_app, degP]
    split
    · split
      · simp only [degP]; omega
      · simp only [degP]; omega
    · simp only [degP]; omega
theorem wo_out {z : Str} : ∀ {a : Tab}, z ∉ a.map (·.1) → wo z a = a
  | [], _ => rfl
  | p :: a, h => by
    rw [List.map_cons, List.mem_cons, not_or] at h
    rw [wo, if_neg (fun e => h.1 e.symm), wo_out h.2]
    rfl
theorem wo_worth {f : Str → Int} {z : Str} : ∀ {a : Tab}, (a.map (·.1)).Nodup → (∀ p ∈ a, 1 ≤ p.2) → z ∈ a.map (·.1) → f z * wprod f (wo z a) = wprod f a
  | [], _, _, h => by simp at h
  | p :: a, nd, g, h => by
    rw [List.map_cons, List.nodup_cons] at nd
    rw [wo, wprod_app, wprod]
    have g1 := g p List.mem_cons_self
    by_cases c : p.1 = z
    · rw [if_pos c, wo_out (by rw [← c]; exact nd.1), c]
      by_cases d : p.2 > 1
      · rw [if_pos d]
        simp only [wprod]
        rw [Int.mul_one, ← Int.mul_assoc, Int.mul_comm (f z), ← Int.pow_succ, show (p.2 - 1).toNat.succ = p.2.toNat by omega]
      · rw [if_neg d, show p.2 = 1 by omega, show (1 : Int).toNat = 1 from rfl, Int.pow_succ, Int.pow_zero, Int.one_mul]
        simp only [wprod, Int.one_mul]
    · rw [if_neg c]
      have h' : z ∈ a.map (·.1) := by
        rw [List.map_cons] at h
        rcases List.mem_cons.mp h with e | e
        · exact absurd e.symm c
        · exact e
      have ih := wo_worth (f := f) nd.2 (fun r hr => g r (List.mem_cons_of_mem _ hr)) h'
      simp only [wprod, Int.mul_one]
      rw [← ih]
      ac_rfl
def spWithout (K : PySem.W.Frag) : Sp := fun vs H Q _ => ∃ (t : Addr) (z : Str) (ps : Tab), vs = [.ref t, .str z] ∧ IsK K H (prodK ps) (.ref t) ∧ ps.length ≤ 20 ∧
  ∀ (u : Addr) (H' : Hp), IsK K H' (prodK (wo z ps)) (.ref u) → Same H H' → Q (.ref u) H'
def spDo (K : PySem.W.Frag) : Sp := fun vs H Q _ => ∃ (ra d : Addr) (inn : V) (r : FRow) (N : Tab) (x : Int), vs = [.ref ra, inn, .ref d, .int 40] ∧ IsK K H (rowK r) (.ref ra) ∧ H d = some (.dK (tabV N)) ∧ N.length ≤ 20 ∧ tget N r.nm = some x ∧ 1 ≤ x ∧ x ≤ 10 ^ 14 ∧
  (∀ q ∈ r.ps, 1 ≤ q.2 ∧ ∃ n, tget N q.1 = some n ∧ 1 ≤ n ∧ n ≤ 10 ^ 14) ∧ degP r.ps ≤ 2 ∧ (r.ps.map (·.1)).Nodup ∧ r.ps.length ≤ 20 ∧ 1 ≤ r.co ∧ r.co ≤ 3 ∧ (r.add = true → r.nm ∉ r.ps.map (·.1)) ∧ (inn = .non ∨ ∃ z, inn = .str z ∧ r.add = true ∧ z ∈ r.ps.map (·.1)) ∧
  ∀ (v : Int) (N' : Tab) (H' : Hp), (r.add = false → v = if r.co * worthP N r.ps > x then r.co * worthP N r.ps else x) → (r.add = true → x ≤ v ∧ v ≤ x + r.co * worthP N r.ps) → (∀ y, tget N' y = if y = r.nm then some v else tget N y) → N'.length = N.length → H' d = some (.dK (tabV N')) → Fr d H H' → Q .non H'
end K41
namespace K41
open PySem PySem.Spec PyProof.Rows L2 HH
local macro_rules | `(tactic| walk_at "h1") => `(tactic| first
  | with_reducible refine rd_seq ?_ | with_reducible refine rd_asg ?_ | with_reducible refine rd_op ?_
  | ((with_reducible refine' rd_var ?hv ?_); (case hv => exact rfl)) | with_reducible refine rd_c ?_
  | ((with_reducible refine rd_name ?_); dsimp only [List.set_cons_zero, List.set_cons_succ])
  | with_reducible refine rd_I0 ?_ | ((with_reducible refine rd_pow ?_ ?_ ?_ ?_); (· decide); (· decide); (· decide)) | ((with_reducible refine rd_mod ?_ ?_); (· decide)) | ((with_reducible refine rd_mulR ?_ ?_ ?_); (· decide); (· decide)) | ((with_reducible refine rd_divW (n := 64) ?_ ?_ ?_ ?_ ?_); (· decide); (· decide); (· decide); (· decide)) | with_reducible refine rd_addI ?_ | with_reducible refine rd_eqI ?_ | with_reducible refine rd_eqS ?_ | with_reducible refine rd_eqB ?_ | with_reducible refine rd_ltI ?_
  | with_reducible refine rd_callS ?_ | with_reducible refine rd_xf ?_ | with_reducible refine rd_cons ?_ | with_reducible refine rd_nil ?_ | with_reducible refine rd_cb ?_ | with_reducible refine rd_call ?_
  | with_reducible refine rd_ifs ?_ | with_reducible refine rd_test ?_ | with_reducible refine rd_tB ?_ | with_reducible refine rd_blQ ?_ | with_reducible refine iteT ?_ | with_reducible refine iteF ?_ | with_reducible refine iteNotF ?_ | with_reducible refine iteNotT ?_
  | with_reducible refine rd_and ?_ | with_reducible refine rd_or ?_ | with_reducible refine rd_not ?_ | with_reducible refine rd_andV ?_ | with_reducible refine rd_orV ?_ | with_reducible refine rd_notV ?_ | with_reducible refine rd_if ?_
  | with_reducible refine rd_un ?_ | with_reducible refine rd_U ?_ | with_reducible refine rd_sub ?_ | with_reducible refine rd_tup ?_ | with_reducible refine rd_lst ?_
  | with_reducible refine rd_intI ?_ | with_reducible refine rd_absI ?_ | with_reducible refine rd_drop ?_ | with_reducible refine rd_ret ?_ | with_reducible refine rd_retN ?_ | with_reducible refine rd_next ?_ | with_reducible refine rd_bm ?_
  | with_reducible refine rd_tDGet2 ?_ | with_reducible refine rd_tDGet ?_ | with_reducible refine rd_sDPut ?_ | with_reducible refine rd_dnewK ?_ | with_reducible refine rd_nnew ?_ | with_reducible refine rd_nget ?_ | with_reducible refine rd_nget2 ?_ | with_reducible refine rd_npop ?_ | with_reducible refine rd_nput ?_ | with_reducible refine rd_dcn ?_ | with_reducible refine rd_gtup ?_ | with_reducible refine rd_gcons ?_ | with_reducible refine rd_gnil ?_ | with_reducible refine rd_lc ?_ | with_reducible refine rd_yes ?_ | with_reducible refine rd_for ?_ | with_reducible refine rd_iL ?_ | with_reducible refine rd_neS ?_ | with_reducible refine rd_neN ?_ | with_reducible refine rd_neB ?_ | with_reducible refine rd_chain ?_ | with_reducible refine rd_bm0 ?_ | with_reducible refine rd_dc ?_ | with_reducible refine rd_iN ?_ | with_reducible refine rd_iZ ?_ | with_reducible refine rd_ngetF ?_ | with_reducible refine rd_iT ?_ | with_reducible refine rd_iR1 ?_ | with_reducible refine rd_iS ?_ | with_reducible refine rd_leafS ?_ | with_reducible refine rd_sl ?_ | with_reducible refine rd_noPart ?_ | with_reducible refine rd_part ?_ | with_reducible refine rd_leafI ?_)
local macro_rules | `(tactic| walk_at "h") => `(tactic| repeat walk_at "h1")

section
variable {P : Program} {w : World} {K : PySem.W.Frag} {mg : Str → Option Value} {base : Heap}
theorem ok_worth {f : Addr} {fd : FuncData} (F : Fun K "_law_worth" "_law_worth" s_l_worth f fd) (T : Bi mg) : FnOk P w K mg base CX0 1 f fd ["_law_product_here", "_law_numbers"] (spWorth K) := by
  refine F.ok sc_l_worth (fun vs H Q E h => ?_) (fun cdv A outer s H vs Q E hr h => ?_)
  · obtain ⟨t, d, ps, m, b, rfl, _⟩ := h
    rfl
  · obtain ⟨t, d, ps, m, b, rfl, kt, hd, B, l0, q⟩ := h
    have hu := hu_of hr
    have hu20 := hu20_of hr
    have hu40 := hu40_of hr
    obtain ⟨_, vs, et, st, kv, nv⟩ := prod_at kt
    obtain rfl := V.ref.inj et
    refine ⟨_, (pss_cons (ps_set (i := 2) sc_l_worth.nd rfl (.inl rfl) pe_int)
  (pss_cons (ps_for PassesOwn.never rfl (pi_tup (pv 0)) (pg_name (i := 3) sc_l_worth.nd rfl (.inl rfl))
    (pss_one (ps_for PassesOwn.never rfl (pi_range1 (by rfl) T.range (pa_cons (pe_ix (ix_tupK (K := K)) (pv 3) pe_int (fun _ _ => rfl)) pa_nil)) (pg_name (i := 4) sc_l_worth.nd rfl (.inl rfl))
    (pss_one (ps_set (i := 2) sc_l_worth.nd rfl (.inl rfl) (pe_op op_mulW (pv 2) (pe_dget hu (pv 1) (pe_ix (ix_tupK (K := K)) (pv 3) pe_int (fun _ _ => rfl)) (fun _ _ => rfl))))))))
  (pss_one (ps_ret (pv 2))))), ?_⟩
    rw [show L2.start N_l_worth [V.ref t, V.ref d] = [some (V.ref t), some (V.ref d), none, none, none] from rfl]
    (try dsimp only [cxOf, Cx.nox, Cx.wish])
    walk_at "h"
    refine rd_leafT st ?_
    have db : ∀ x : Nat, x ≤ degP ps → b * x ≤ 200000 := fun x hx => Nat.le_trans (Nat.mul_le_mul_left b hx) B.dg
    refine for_tup (xs := vs) (fun i σ H' => ∃ v3 v4 : Option V, σ = [some (V.ref t), some (V.ref d), some (V.int (worthP m (ps.take i))), v3, v4] ∧ H' = H) ⟨none, none, rfl, rfl⟩ (fun i σ H' _ ⟨_, _, _, e⟩ => by rw [e]; exact st) ?_ ?_
    · rintro i x σ H1 hx ⟨v3, v4, rfl, rfl⟩
      have hi : i < ps.length := by rw [← nv]; exact (List.getElem?_eq_some_iff.mp hx).1
      obtain ⟨a, rfl, sa⟩ := pair_get kv hi hx
      have mi : ps[i] ∈ ps := List.getElem_mem hi
      obtain ⟨n, en⟩ := lackOf_has l0 mi
      have pi := B.nn _ mi
      have hb := B.lt _ mi
      rw [en] at hb
      simp only [Option.getD_some] at hb
      have dm := degP_mem mi
      have p9 : b * ps[i].2.toNat ≤ 200000 := db _ dm
      have b1 := B.b1
      have pl : ps[i].2.toNat ≤ 200000 := Nat.le_trans (Nat.le_mul_of_pos_left _ (by omega)) p9
      walk_at "h"
      refine rd_ixt sa rfl ?_
      walk_at "h"
      refine rd_leafR (by omega) (by omega) ?_
      refine for_range (fun j σ H' => ∃ v4 : Option V, σ = [some (V.ref t), some (V.ref d), some (V.int (worthP m (ps.take i) * n ^ j)), some (V.ref a), v4] ∧ H' = H1) ⟨v4, by rw [Int.pow_zero, Int.mul_one], rfl⟩ ?_ ?_
      · rintro j σ H2 hj ⟨v4, rfl, rfl⟩
        walk_at "h"
        refine rd_ixt sa rfl ?_
        refine ⟨d, _, rfl, dget_tab hd en, ?_⟩
        have le1 : (worthP m (ps.take i) * n ^ j).natAbs ≤ 2 ^ (b * degP (ps.take i) + b * j) := by
          rw [Int.natAbs_mul, Nat.pow_add]
          exact Nat.mul_le_mul (worthP_le fun q hq => B.lt q (List.mem_of_mem_take hq)) (pow_bb hb j)
        refine rd_I (wide_mul (lt_pow1 le1) hb (by omega) (by omega) (by have := db (degP (ps.take i)) (degP_take ps i); have : b * j ≤ b * ps[i].2.toNat := Nat.mul_le_mul_left b (by omega); have : b ≤ b * ps[i].2.toNat := Nat.le_mul_of_pos_right _ (by omega); omega)) ?_
        walk_at "h"
        exact ⟨_, by rw [Int.pow_succ, Int.mul_assoc], rfl⟩
      · rintro σ H2 ⟨v4, rfl, rfl⟩
        refine ⟨some (V.ref a), v4, ?_, rfl⟩
        rw [worthP_step m ps hi, en]
        rfl
    · rintro σ H1 ⟨v3, v4, rfl, rfl⟩
      rw [nv, List.take_length]
      walk_at "h"
      exact q
end
end K41
namespace K41
open PySem PySem.Spec PyProof.Rows L2 HH
local macro_rules | `(tactic| walk_at "h1") => `(tactic| first
  | with_reducible refine rd_seq ?_ | with_reducible refine rd_asg ?_ | with_reducible refine rd_op ?_
  | ((with_reducible refine' rd_var ?hv ?_); (case hv => exact rfl)) | with_reducible refine rd_c ?_
  | ((with_reducible refine rd_name ?_); dsimp only [List.set_cons_zero, List.set_cons_succ])
  | with_reducible refine rd_I0 ?_ | ((with_reducible refine rd_pow ?_ ?_ ?_ ?_); (· decide); (· decide); (· decide)) | ((with_reducible refine rd_mod ?_ ?_); (· decide)) | ((with_reducible refine rd_mulR ?_ ?_ ?_); (· decide); (· decide)) | ((with_reducible refine rd_divW (n := 64) ?_ ?_ ?_ ?_ ?_); (· decide); (· decide); (· decide); (· decide)) | with_reducible refine rd_addI ?_ | with_reducible refine rd_eqI ?_ | with_reducible refine rd_eqS ?_ | with_reducible refine rd_eqB ?_ | with_reducible refine rd_ltI ?_
  | with_reducible refine rd_callS ?_ | with_reducible refine rd_xf ?_ | with_reducible refine rd_cons ?_ | with_reducible refine rd_nil ?_ | with_reducible refine rd_cb ?_ | with_reducible refine rd_call ?_
  | with_reducible refine rd_ifs ?_ | with_reducible refine rd_test ?_ | with_reducible refine rd_tB ?_ | with_reducible refine rd_blQ ?_ | with_reducible refine iteT ?_ | with_reducible refine iteF ?_ | with_reducible refine iteNotF ?_ | with_reducible refine iteNotT ?_
  | with_reducible refine rd_and ?_ | with_reducible refine rd_or ?_ | with_reducible refine rd_not ?_ | with_reducible refine rd_andV ?_ | with_reducible refine rd_orV ?_ | with_reducible refine rd_notV ?_ | with_reducible refine rd_if ?_
  | with_reducible refine rd_un ?_ | with_reducible refine rd_U ?_ | with_reducible refine rd_sub ?_ | with_reducible refine rd_tup ?_ | with_reducible refine rd_lst ?_
  | with_reducible refine rd_intI ?_ | with_reducible refine rd_absI ?_ | with_reducible refine rd_drop ?_ | with_reducible refine rd_ret ?_ | with_reducible refine rd_retN ?_ | with_reducible refine rd_next ?_ | with_reducible refine rd_bm ?_
  | with_reducible refine rd_tDGet2 ?_ | with_reducible refine rd_tDGet ?_ | with_reducible refine rd_sDPut ?_ | with_reducible refine rd_dnewK ?_ | with_reducible refine rd_nnew ?_ | with_reducible refine rd_nget ?_ | with_reducible refine rd_nget2 ?_ | with_reducible refine rd_npop ?_ | with_reducible refine rd_nput ?_ | with_reducible refine rd_dcn ?_ | with_reducible refine rd_gtup ?_ | with_reducible refine rd_gcons ?_ | with_reducible refine rd_gnil ?_ | with_reducible refine rd_lc ?_ | with_reducible refine rd_yes ?_ | with_reducible refine rd_for ?_ | with_reducible refine rd_iL ?_ | with_reducible refine rd_neS ?_ | with_reducible refine rd_neN ?_ | with_reducible refine rd_neB ?_ | with_reducible refine rd_chain ?_ | with_reducible refine rd_bm0 ?_ | with_reducible refine rd_dc ?_ | with_reducible refine rd_iN ?_ | with_reducible refine rd_iZ ?_ | with_reducible refine rd_ngetF ?_ | with_reducible refine rd_iT ?_ | with_reducible refine rd_iR1 ?_ | with_reducible refine rd_iS ?_ | with_reducible refine rd_leafS ?_ | with_reducible refine rd_sl ?_ | with_reducible refine rd_noPart ?_ | with_reducible refine rd_part ?_ | with_reducible refine rd_leafI ?_)
local macro_rules | `(tactic| walk_at "h") => `(tactic| repeat walk_at "h1")

section
variable {P : Program} {w : World} {K : PySem.W.Frag} {mg : Str → Option Value} {base : Heap}
theorem ok_total {f : Addr} {fd : FuncData} (F : Fun K "_law_total" "_law_total" s_l_total f fd) (T : Bi mg) (z_sum : mg "sum" = none) (G_l_worth : Callee P w K mg base 1 "_law_worth" ["_law_product_here", "_law_numbers"] (spWorth K)) : FnOk P w K mg base CX0 2 f fd ["_law_terms", "_law_numbers"] (spTotal K) := by
  refine F.ok (k := 1) sc_l_total (fun vs H Q E h => ?_) (fun cdv A outer s H vs Q E hr h => ?_)
  · obtain ⟨t, d, S, m, rfl, _⟩ := h
    rfl
  · obtain ⟨t, d, S, m, rfl, kS, hd, hS, lS, q⟩ := h
    have hu := hu_of hr
    have hu20 := hu20_of hr
    have hu40 := hu40_of hr
    obtain ⟨f_l_worth, fd_l_worth, F_l_worth, m_l_worth, k_l_worth, b_l_worth⟩ := G_l_worth
    obtain ⟨_, us, et, st, ks, ns⟩ := sum_at kS
    obtain rfl := V.ref.inj et
    refine ⟨_, (pss_one (ps_ret (pe_callB (cr_sum rfl) (by rfl) z_sum (by decide +kernel) (pa_cons (pe_lc (own := [("_law_term", 2)]) rfl sc_l_total.nd (pi_tup (pv 0)) (blkOk_by (N := N_l_total) (sc := defScope s_l_total) (by decide +kernel)) (fun _ _ _ _ _ => (pg_name (i := 2) sc_l_total.nd rfl (.inl rfl))) (fun _ _ _ _ _ => pts_nil) (fun _ _ _ _ _ => (pe_op op_mulW (pe_ix (ix_tupK (K := K)) (pv 2) pe_int (fun _ _ => rfl)) (pe_call F_l_worth (hr.mono (by decide)) (by rfl) m_l_worth k_l_worth b_l_worth .nil pass0 (pa_cons (pe_ix (ix_tupK (K := K)) (pv 2) pe_int (fun _ _ => rfl)) (pa_cons (pv 1) pa_nil)))))) pa_nil)))), ?_⟩
    rw [show L2.start N_l_total [V.ref t, V.ref d] = [some (V.ref t), some (V.ref d), none] from rfl]
    (try dsimp only [cxOf, Cx.nox, Cx.wish])
    walk_at "h"
--B
    refine rd_leafT st ?_
    intro W nW
    refine lc_itW walk_tup [some (V.ref t), some (V.ref d), none] rfl (fun i H' => Same H H' ∧ H' W = some (.lst (((S.take i).map fun q => q.1 * worthP m q.2).map V.int))) ⟨same_new nW, upd_same⟩ (fun i H' _ h => same_tup h.1 _ _ st) ?_ ?_
    · rintro i x H1 H1' hi ⟨s1, h1⟩ ⟨rfl, hx⟩
      have hi : i < S.length := by omega
      obtain ⟨x', ex, kx⟩ := IsKs.get (i := i) (k := termK S[i]) ks (by rw [List.getElem?_map, List.getElem?_eq_getElem hi]; rfl)
      obtain rfl : x = x' := Option.some.inj (hx.symm.trans ex)
      obtain ⟨ta, pa, rfl, sq, kp⟩ := term_at kx
      obtain ⟨wb, l0, cb⟩ := hS _ (List.getElem_mem hi)
      have nx : (S.take (i + 1)).map (fun q => q.1 * worthP m q.2) = (S.take i).map (fun q => q.1 * worthP m q.2) ++ [S[i].1 * worthP m S[i].2] := by
        rw [List.take_add_one, List.getElem?_eq_getElem hi, Option.toList_some, List.map_append]
        rfl
      generalize S[i] = q0 at sq kp wb l0 cb nx
      have sq1 := same_tup (K := K) s1 _ _ sq
      have hw : (worthP m q0.2).natAbs < 2 ^ (4 * degP q0.2 + 1) := lt_pow1 (worthP_le wb.lt)
      have dg := wb.dg
      walk_at "h"
      refine ⟨rfl, ?_⟩
      walk_at "h"
      refine rd_ixt sq1 (atI_nat (j := 0) rfl) ?_
      walk_at "h"
      refine rd_ixt sq1 (atI_nat (j := 1) rfl) ?_
      walk_at "h"
      refine ⟨pa, d, q0.2, m, 4, rfl, kp.keep (same_tup s1), s1 _ _ hd, wb, l0, ?_⟩
      refine rd_I (wide_mul cb hw (by omega) (by omega) (by omega)) ?_
      refine ⟨_, h1, by rw [List.length_map, List.length_map, List.length_take]; exact sz_lt (by omega), same_mut s1 nW, ?_⟩
      rw [upd_same, nx, List.map_append]
      rfl
    · rintro H1 ⟨s1, h1⟩
      rw [ns, List.take_length] at h1
      walk_at "h"
      refine ⟨W, _, rfl, sql h1, ?_⟩
      rw [worthS_sum]
      exact q H1 s1
end
end K41
namespace K41
open PySem PySem.Spec PyProof.Rows L2 HH
local macro_rules | `(tactic| walk_at "h1") => `(tactic| first
  | with_reducible refine rd_seq ?_ | with_reducible refine rd_asg ?_ | with_reducible refine rd_op ?_
  | ((with_reducible refine' rd_var ?hv ?_); (case hv => exact rfl)) | with_reducible refine rd_c ?_
  | ((with_reducible refine rd_name ?_); dsimp only [List.set_cons_zero, List.set_cons_succ])
  | with_reducible refine rd_I0 ?_ | ((with_reducible refine rd_pow ?_ ?_ ?_ ?_); (· decide); (· decide); (· decide)) | ((with_reducible refine rd_mod ?_ ?_); (· decide)) | ((with_reducible refine rd_mulR ?_ ?_ ?_); (· decide); (· decide)) | ((with_reducible refine rd_divW (n := 64) ?_ ?_ ?_ ?_ ?_); (· decide); (· decide); (· decide); (· decide)) | with_reducible refine rd_addI ?_ | with_reducible refine rd_eqI ?_ | with_reducible refine rd_eqS ?_ | with_reducible refine rd_eqB ?_ | with_reducible refine rd_ltI ?_
  | with_reducible refine rd_callS ?_ | with_reducible refine rd_xf ?_ | with_reducible refine rd_cons ?_ | with_reducible refine rd_nil ?_ | with_reducible refine rd_cb ?_ | with_reducible refine rd_call ?_
  | with_reducible refine rd_ifs ?_ | with_reducible refine rd_test ?_ | with_reducible refine rd_tB ?_ | with_reducible refine rd_blQ ?_ | with_reducible refine iteT ?_ | with_reducible refine iteF ?_ | with_reducible refine iteNotF ?_ | with_reducible refine iteNotT ?_
  | with_reducible refine rd_and ?_ | with_reducible refine rd_or ?_ | with_reducible refine rd_not ?_ | with_reducible refine rd_andV ?_ | with_reducible refine rd_orV ?_ | with_reducible refine rd_notV ?_ | with_reducible refine rd_if ?_
  | with_reducible refine rd_un ?_ | with_reducible refine rd_U ?_ | with_reducible refine rd_sub ?_ | with_reducible refine rd_tup ?_ | with_reducible refine rd_lst ?_
  | with_reducible refine rd_intI ?_ | with_reducible refine rd_absI ?_ | with_reducible refine rd_drop ?_ | with_reducible refine rd_ret ?_ | with_reducible refine rd_retN ?_ | with_reducible refine rd_next ?_ | with_reducible refine rd_bm ?_
  | with_reducible refine rd_tDGet2 ?_ | with_reducible refine rd_tDGet ?_ | with_reducible refine rd_sDPut ?_ | with_reducible refine rd_dnewK ?_ | with_reducible refine rd_nnew ?_ | with_reducible refine rd_nget ?_ | with_reducible refine rd_nget2 ?_ | with_reducible refine rd_npop ?_ | with_reducible refine rd_nput ?_ | with_reducible refine rd_dcn ?_ | with_reducible refine rd_gtup ?_ | with_reducible refine rd_gcons ?_ | with_reducible refine rd_gnil ?_ | with_reducible refine rd_lc ?_ | with_reducible refine rd_yes ?_ | with_reducible refine rd_for ?_ | with_reducible refine rd_iL ?_ | with_reducible refine rd_neS ?_ | with_reducible refine rd_neN ?_ | with_reducible refine rd_neB ?_ | with_reducible refine rd_chain ?_ | with_reducible refine rd_bm0 ?_ | with_reducible refine rd_dc ?_ | with_reducible refine rd_iN ?_ | with_reducible refine rd_iZ ?_ | with_reducible refine rd_ngetF ?_ | with_reducible refine rd_iT ?_ | with_reducible refine rd_iR1 ?_ | with_reducible refine rd_iS ?_ | with_reducible refine rd_leafS ?_ | with_reducible refine rd_sl ?_ | with_reducible refine rd_noPart ?_ | with_reducible refine rd_part ?_ | with_reducible refine rd_leafI ?_)
local macro_rules | `(tactic| walk_at "h") => `(tactic| repeat walk_at "h1")

section
variable {P : Program} {w : World} {K : PySem.W.Frag} {mg : Str → Option Value} {base : Heap}
theorem ok_without {f : Addr} {fd : FuncData} (F : Fun K "_law_without" "_law_without" s_l_without f fd) (T : Bi mg) : FnOk P w K mg base CX0 1 f fd ["_law_product_here", "_law_name"] (spWithout K) := by
  refine F.ok (k := 0) sc_l_without (fun vs H Q E h => ?_) (fun cdv A outer s H vs Q E hr h => ?_)
  · obtain ⟨t, z, ps, rfl, _⟩ := h
    rfl
  · obtain ⟨t, z, ps, rfl, kt, lp, q⟩ := h
    have hu := hu_of hr
    have hu20 := hu20_of hr
    have hu40 := hu40_of hr
    obtain ⟨_, vs, et, st, kv, nv⟩ := prod_at kt
    obtain rfl := V.ref.inj et
    refine ⟨_, (pss_cons (ps_set (i := 2) sc_l_without.nd rfl (.inl rfl) (pe_lst pa_nil))
  (pss_cons (ps_for PassesOwn.never rfl (pi_tup (pv 0)) (pg_name (i := 3) sc_l_without.nd rfl (.inl rfl))
    (pss_one (ps_if (pt_cmpR op_ne (pe_ix (ix_tupK (K := K)) (pv 3) pe_int (fun _ _ => rfl)) (pv 1) (nomark _)) (pss_one (ps_expr (pe_bm PySem.F.plainAttrs_list PySem.F.slot_list_append PySem.F.type_list_append mt_append (pv 2) (pa_cons (pv 3) pa_nil)))) (pss_one (ps_if (pt_cmpR op_gt (pe_ix (ix_tupK (K := K)) (pv 3) pe_int (fun _ _ => rfl)) pe_int (nomark _)) (pss_one (ps_expr (pe_bm PySem.F.plainAttrs_list PySem.F.slot_list_append PySem.F.type_list_append mt_append (pv 2) (pa_cons (pe_tup (pa_cons (pv 1) (pa_cons (pe_op op_sub (pe_ix (ix_tupK (K := K)) (pv 3) pe_int (fun _ _ => rfl)) pe_int) pa_nil))) pa_nil)))) pss_nil)))))
  (pss_one (ps_ret (pe_callTy (call_tupC (K := K)) (by rfl) T.tuple_ (by decide +kernel) (pa_cons (pv 2) pa_nil)))))), ?_⟩
    rw [show L2.start N_l_without [V.ref t, V.str z] = [some (V.ref t), some (V.str z), none, none] from rfl]
    (try dsimp only [cxOf, Cx.nox, Cx.wish])
    walk_at "h"
--B
    refine ⟨Nat.zero_le _, fun l nl => ?_⟩
    have s1 : Same H (upd H l (.lst [])) := same_new nl
    have h1 : (upd H l (.lst [])) l = some (.lst []) := upd_same
    generalize upd H l (.lst []) = H1 at s1 h1
    have st1 := same_tup (K := K) s1 _ _ st
    walk_at "h"
    refine rd_leafT st1 ?_
    refine for_tup (xs := vs) (fun i σ H' => ∃ (ts : List V) (v3 : Option V), σ = [some (V.ref t), some (V.str z), some (V.ref l), v3] ∧ H' l = some (.lst ts) ∧ IsKs K H' ((wo z (ps.take i)).map pairK) ts ∧ Same H H')
      ⟨[], _, rfl, h1, rfl, s1⟩ (fun i σ H' _ ⟨_, _, _, _, _, s⟩ => same_tup s _ _ st) ?_ ?_
    · rintro i x σ H2 hx ⟨ts, v3, rfl, h2, k2, s2⟩
      have hi : i < ps.length := by rw [← nv]; exact (List.getElem?_eq_some_iff.mp hx).1
      obtain ⟨a, rfl, sa⟩ := pair_get kv hi hx
      have sa2 := same_tup (K := K) s2 _ _ sa
      have lts : ts.length ≤ 20 := by
        have h3 := IsKs.length k2
        have h4 := wo_len z (ps.take i)
        rw [List.length_map] at h3
        rw [List.length_take] at h4
        omega
      have nx : wo z (ps.take (i + 1)) = wo z (ps.take i) ++ (if ps[i].1 = z then (if ps[i].2 > 1 then [(z, ps[i].2 - 1)] else []) else [ps[i]]) := by
        rw [List.take_add_one, List.getElem?_eq_getElem hi, Option.toList_some, wo_app, show wo z [ps[i]] = (if ps[i].1 = z then (if ps[i].2 > 1 then [(z, ps[i].2 - 1)] else []) else [ps[i]]) ++ [] from rfl, List.append_nil]
      generalize ps[i] = q0 at sa sa2 nx
      walk_at "h"
      refine rd_ixt sa2 (atI_nat (j := 0) rfl) ?_
      walk_at "h"
      refine ite2 (fun c => ?_) (fun c => ?_)
      · have c' : ¬ q0.1 = z := by simpa using c
        rw [if_neg c'] at nx
        walk_at "h"
        refine ⟨.inl ⟨rfl, _, sql h2⟩, ?_⟩
        walk_at "h"
        refine rd_app h2 (sz_lt (by omega)) ?_
        walk_at "h"
        have tw : Tup K H2 (upd H2 l (.lst (ts ++ [V.ref a]))) := tup_upd (o := .lst ts) h2 (fun _ z => nomatch z) (fun _ _ z => nomatch z)
        refine ⟨ts ++ [V.ref a], _, rfl, upd_same, ?_, same_mut s2 nl⟩
        rw [nx, List.map_append]
        exact IsKs.app (IsKs.keep tw _ _ k2) ⟨_, [], rfl, ⟨a, _, rfl, tw _ _ sa2, ⟨_, _, rfl, rfl, _, _, rfl, rfl, rfl⟩⟩, rfl⟩
      · have c' : q0.1 = z := by simpa using c
        rw [if_pos c'] at nx
        walk_at "h"
        refine rd_ixt sa2 (atI_nat (j := 1) rfl) ?_
        walk_at "h"
        refine ite2 (fun e => ?_) (fun e => ?_)
        · have e' : q0.2 > 1 := by simpa using e
          rw [if_pos e'] at nx
          walk_at "h"
          refine ⟨.inl ⟨rfl, _, sql h2⟩, ?_⟩
          walk_at "h"
          refine rd_ixt sa2 (atI_nat (j := 1) rfl) ?_
          walk_at "h"
          refine ⟨sz_le (by simp only [List.length_cons, List.length_nil]; omega), fun u nu => ?_⟩
          have lu : l ≠ u := ne_of_none h2 nu
          walk_at "h"
          refine rd_app (by rw [upd_ne lu]; exact h2) (sz_lt (by omega)) ?_
          walk_at "h"
          have tw : Tup K H2 (upd (upd H2 u (.tup [V.str z, V.int (q0.2 - 1)])) l (.lst (ts ++ [V.ref u]))) := (tup_new nu).trans (tup_upd (o := .lst ts) (by rw [upd_ne lu]; exact h2) (fun _ z => nomatch z) (fun _ _ z => nomatch z))
          refine ⟨ts ++ [V.ref u], _, rfl, upd_same, ?_, same_mut (s2.trans (same_new nu)) nl⟩
          rw [nx, List.map_append]
          exact IsKs.app (IsKs.keep tw _ _ k2) ⟨_, [], rfl, ⟨u, _, rfl, sqt (by rw [upd_ne lu.symm, upd_same]), ⟨_, _, rfl, rfl, _, _, rfl, rfl, rfl⟩⟩, rfl⟩
        · have e' : ¬ q0.2 > 1 := by simpa using e
          rw [if_neg e', List.append_nil] at nx
          walk_at "h"
          exact ⟨ts, _, rfl, h2, by rw [nx]; exact k2, s2⟩
    · rintro σ H2 ⟨ts, v3, rfl, h2, k2, s2⟩
      rw [nv, List.take_length] at k2
      walk_at "h"
      refine rd_tupL (sql h2) fun u nu => ?_
      exact q u _ ⟨u, ts, rfl, sqt upd_same, IsKs.keep (tup_new nu) _ _ k2⟩ (s2.trans (same_new nu))
end
end K41
namespace K41
open PySem PySem.Spec PyProof.Rows L2 HH
local macro_rules | `(tactic| walk_at "h1") => `(tactic| first
  | with_reducible refine rd_seq ?_ | with_reducible refine rd_asg ?_ | with_reducible refine rd_op ?_
  | ((with_reducible refine' rd_var ?hv ?_); (case hv => exact rfl)) | with_reducible refine rd_c ?_
  | ((with_reducible refine rd_name ?_); dsimp only [List.set_cons_zero, List.set_cons_succ])
  | with_reducible refine rd_I0 ?_ | ((with_reducible refine rd_pow ?_ ?_ ?_ ?_); (· decide); (· decide); (· decide)) | ((with_reducible refine rd_mod ?_ ?_); (· decide)) | ((with_reducible refine rd_mulR ?_ ?_ ?_); (· decide); (· decide)) | ((with_reducible refine rd_divW (n := 64) ?_ ?_ ?_ ?_ ?_); (· decide); (· decide); (· decide); (· decide)) | with_reducible refine rd_addI ?_ | with_reducible refine rd_eqI ?_ | with_reducible refine rd_eqS ?_ | with_reducible refine rd_eqB ?_ | with_reducible refine rd_ltI ?_
  | with_reducible refine rd_callS ?_ | with_reducible refine rd_xf ?_ | with_reducible refine rd_cons ?_ | with_reducible refine rd_nil ?_ | with_reducible refine rd_cb ?_ | with_reducible refine rd_call ?_
  | with_reducible refine rd_ifs ?_ | with_reducible refine rd_test ?_ | with_reducible refine rd_tB ?_ | with_reducible refine rd_blQ ?_ | with_reducible refine iteT ?_ | with_reducible refine iteF ?_ | with_reducible refine iteNotF ?_ | with_reducible refine iteNotT ?_
  | with_reducible refine rd_and ?_ | with_reducible refine rd_or ?_ | with_reducible refine rd_not ?_ | with_reducible refine rd_andV ?_ | with_reducible refine rd_orV ?_ | with_reducible refine rd_notV ?_ | with_reducible refine rd_if ?_
  | with_reducible refine rd_un ?_ | with_reducible refine rd_U ?_ | with_reducible refine rd_sub ?_ | with_reducible refine rd_tup ?_ | with_reducible refine rd_lst ?_
  | with_reducible refine rd_intI ?_ | with_reducible refine rd_absI ?_ | with_reducible refine rd_drop ?_ | with_reducible refine rd_ret ?_ | with_reducible refine rd_retN ?_ | with_reducible refine rd_next ?_ | with_reducible refine rd_bm ?_
  | with_reducible refine rd_tDGet2 ?_ | with_reducible refine rd_tDGet ?_ | with_reducible refine rd_sDPut ?_ | with_reducible refine rd_dnewK ?_ | with_reducible refine rd_nnew ?_ | with_reducible refine rd_nget ?_ | with_reducible refine rd_nget2 ?_ | with_reducible refine rd_npop ?_ | with_reducible refine rd_nput ?_ | with_reducible refine rd_dcn ?_ | with_reducible refine rd_gtup ?_ | with_reducible refine rd_gcons ?_ | with_reducible refine rd_gnil ?_ | with_reducible refine rd_lc ?_ | with_reducible refine rd_yes ?_ | with_reducible refine rd_for ?_ | with_reducible refine rd_iL ?_ | with_reducible refine rd_neS ?_ | with_reducible refine rd_neN ?_ | with_reducible refine rd_neB ?_ | with_reducible refine rd_chain ?_ | with_reducible refine rd_bm0 ?_ | with_reducible refine rd_dc ?_ | with_reducible refine rd_iN ?_ | with_reducible refine rd_iZ ?_ | with_reducible refine rd_ngetF ?_ | with_reducible refine rd_iT ?_ | with_reducible refine rd_iR1 ?_ | with_reducible refine rd_iS ?_ | with_reducible refine rd_leafS ?_ | with_reducible refine rd_sl ?_ | with_reducible refine rd_noPart ?_ | with_reducible refine rd_part ?_ | with_reducible refine rd_leafI ?_)
local macro_rules | `(tactic| walk_at "h") => `(tactic| repeat walk_at "h1")

section
variable {P : Program} {w : World} {K : PySem.W.Frag} {mg : Str → Option Value} {base : Heap}
theorem lack_none {m ps : Tab} (h : ∀ q ∈ ps, ∃ n, tget m q.1 = some n) : lackOf m ps = none := by
  unfold lackOf
  rw [List.find?_eq_none]
  intro z hz
  obtain ⟨q, hq, rfl⟩ := List.mem_map.mp hz
  obtain ⟨n, e⟩ := h q hq
  rw [e]
  exact Bool.false_ne_true
theorem put_len {m : Tab} {z : Str} {x n : Int} (h : tget m z = some x) : (tput m z n).length = m.length := by
  unfold tput
  rw [if_pos (tget_some.mp (by rw [h]; rfl)), List.length_map]
theorem wb47 {m ps : Tab} (h : ∀ q ∈ ps, 1 ≤ q.2 ∧ ∃ n, tget m q.1 = some n ∧ 1 ≤ n ∧ n ≤ 10 ^ 14) (d : degP ps ≤ 2) : WB m ps 47 := by
  refine ⟨fun q hq => by have := (h q hq).1; omega, fun q hq => ?_, by omega, by decide⟩
  obtain ⟨_, n, e, a, b⟩ := h q hq
  rw [e, Option.getD_some]
  omega
theorem wp_nn {m ps : Tab} (h : ∀ q ∈ ps, 1 ≤ q.2 ∧ ∃ n, tget m q.1 = some n ∧ 1 ≤ n ∧ n ≤ 10 ^ 14) : 0 ≤ worthP m ps := by
  rw [worthP_wprod]
  refine (wprod_mono (g := fun z => (tget m z).getD 0) fun q hq => ?_).1
  obtain ⟨_, n, e, a, b⟩ := h q hq
  rw [e, Option.getD_some]
  exact ⟨by omega, Int.le_refl _⟩
theorem ok_do {f : Addr} {fd : FuncData} (F : Fun K "_law_do_flat" "_law_do_flat" s_l_do_flat f fd) (T : Bi mg) (G_l_worth : Callee P w K mg base 1 "_law_worth" ["_law_product_here", "_law_numbers"] (spWorth K)) (G_l_without : Callee P w K mg base 1 "_law_without" ["_law_product_here", "_law_name"] (spWithout K)) :
    FnOk P w K mg base CX0 2 f fd ["_law_row", "_law_inner", "_law_numbers", "_law_most"] (spDo K) := by
  refine F.ok (k := 1) sc_l_do_flat (fun vs H Q E h => ?_) (fun cdv A outer s H vs Q E hr h => ?_)
  · obtain ⟨ra, d, inn, r, N, x, rfl, _⟩ := h
    rfl
  · obtain ⟨ra, d, inn, r, N, x, rfl, kr, hd, lN, ex, x1, x2, hl, dg, npp, lpp, c1, c2, nin, hin, q⟩ := h
    have hu := hu_of hr
    have hu20 := hu20_of hr
    have hu40 := hu40_of hr
    obtain ⟨f_l_worth, fd_l_worth, F_l_worth, m_l_worth, k_l_worth, b_l_worth⟩ := G_l_worth; obtain ⟨f_l_without, fd_l_without, F_l_without, m_l_without, k_l_without, b_l_without⟩ := G_l_without
    obtain ⟨_, pa, ea, sr, kp⟩ := row_at kr
    obtain rfl := V.ref.inj ea
    refine ⟨_, (pss_one (ps_if (pt_cmpR (op_eqU (K := K) hu40) (pe_ix (ix_tupK (K := K)) (pv 0) pe_int (fun _ _ => rfl)) pe_str (nomark _)) (pss_one (ps_dput hu (pv 2) (pe_ix (ix_tupK (K := K)) (pv 0) pe_int (fun _ _ => rfl)) (pe_callB (call_max2 rfl) (by rfl) T.max_ (by decide +kernel) (pa_cons (pe_dget hu (pv 2) (pe_ix (ix_tupK (K := K)) (pv 0) pe_int (fun _ _ => rfl)) (fun _ _ => rfl)) (pa_cons (pe_op op_mulW (pe_ix (ix_tupK (K := K)) (pv 0) pe_int (fun _ _ => rfl)) (pe_call F_l_worth (hr.mono (by decide)) (by rfl) m_l_worth k_l_worth b_l_worth .nil pass0 (pa_cons (pe_ix (ix_tupK (K := K)) (pv 0) pe_int (fun _ _ => rfl)) (pa_cons (pv 2) pa_nil)))) pa_nil))) rfl)) (pss_one (ps_if (pt_cmpR op_isNK (pv 1) pe_non (nomark _)) (pss_one (ps_dput hu (pv 2) (pe_ix (ix_tupK (K := K)) (pv 0) pe_int (fun _ _ => rfl)) (pe_op (op_addU (K := K)) (pe_dget hu (pv 2) (pe_ix (ix_tupK (K := K)) (pv 0) pe_int (fun _ _ => rfl)) (fun _ _ => rfl)) (pe_op op_mulW (pe_ix (ix_tupK (K := K)) (pv 0) pe_int (fun _ _ => rfl)) (pe_call F_l_worth (hr.mono (by decide)) (by rfl) m_l_worth k_l_worth b_l_worth .nil pass0 (pa_cons (pe_ix (ix_tupK (K := K)) (pv 0) pe_int (fun _ _ => rfl)) (pa_cons (pv 2) pa_nil))))) rfl)) (pss_cons (ps_set (i := 4) sc_l_do_flat.nd rfl (.inl rfl) (pe_call F_l_without (hr.mono (by decide)) (by rfl) m_l_without k_l_without b_l_without .nil pass0 (pa_cons (pe_ix (ix_tupK (K := K)) (pv 0) pe_int (fun _ _ => rfl)) (pa_cons (pv 1) pa_nil))))
  (pss_one (ps_for PassesOwn.never rfl (pi_range1 (by rfl) T.range (pa_cons (pe_callB (call_min2 rfl) (by rfl) T.min_ (by decide +kernel) (pa_cons (pe_dget hu (pv 2) (pv 1) (fun _ _ => rfl)) (pa_cons (pv 3) pa_nil))) pa_nil)) (pg_name (i := 5) sc_l_do_flat.nd rfl (.inl rfl))
    (pss_one (ps_dput hu (pv 2) (pe_ix (ix_tupK (K := K)) (pv 0) pe_int (fun _ _ => rfl)) (pe_op (op_addU (K := K)) (pe_dget hu (pv 2) (pe_ix (ix_tupK (K := K)) (pv 0) pe_int (fun _ _ => rfl)) (fun _ _ => rfl)) (pe_op op_mulW (pe_ix (ix_tupK (K := K)) (pv 0) pe_int (fun _ _ => rfl)) (pe_call F_l_worth (hr.mono (by decide)) (by rfl) m_l_worth k_l_worth b_l_worth .nil pass0 (pa_cons (pv 4) (pa_cons (pv 2) pa_nil))))) rfl))))))))), ?_⟩
    rw [show L2.start N_l_do_flat [V.ref ra, inn, V.ref d, V.int 40] = [some (V.ref ra), some inn, some (V.ref d), some (V.int 40), none, none] from rfl]
    (try dsimp only [cxOf, Cx.nox, Cx.wish])
    walk_at "h"
--B
    have wB := wb47 hl dg
    have l0 : lackOf N r.ps = none := lack_none fun q hq => let ⟨_, n, e, _⟩ := hl q hq; ⟨n, e⟩
    have wn := wp_nn hl
    have ww : (worthP N r.ps).natAbs < 2 ^ (47 * degP r.ps + 1) := lt_pow1 (worthP_le wB.lt)
    have cc : r.co.natAbs < 2 ^ 3 := by omega
    have cw : 0 ≤ r.co * worthP N r.ps := Int.mul_nonneg (by omega) wn
    refine rd_ixt sr (atI_nat (j := 0) rfl) ?_
    walk_at "h"
    rw [word_lift]
    refine ite2 (fun ca => ?_) (fun ca => ?_)
    · have ca' : r.add = false := by simpa using ca
      walk_at "h"
      refine rd_ixt sr (atI_nat (j := 1) rfl) ?_
      refine ⟨d, _, rfl, dget_tab hd ex, ?_⟩
      walk_at "h"
      refine rd_ixt sr (atI_nat (j := 2) rfl) ?_
      walk_at "h"
      refine rd_ixt sr (atI_nat (j := 3) rfl) ?_
      walk_at "h"
      refine ⟨pa, d, r.ps, N, 47, rfl, kp, hd, wB, l0, ?_⟩
      refine rd_I (wide_mul cc ww (by omega) (by omega) (by omega)) ?_
      walk_at "h"
      refine ⟨x, _, rfl, ?_⟩
      walk_at "h"
      refine rd_ixt sr (atI_nat (j := 1) rfl) ?_
      refine rd_dputT hd (by omega) fun H' hd' e' => ?_
      exact q _ _ H' (fun _ => rfl) (fun z => by rw [ca'] at z; cases z) (fun y => tget_put _ _ _ _) (put_len ex) hd' fun b o hb e => by rw [e' b hb]; exact e
    · have ca' : r.add = true := by simpa using ca
      walk_at "h"
      rcases hin with rfl | ⟨z, rfl, _, zin⟩
      · refine rd_isNKn ?_
        walk_at "h"
        refine rd_ixt sr (atI_nat (j := 1) rfl) ?_
        refine ⟨d, _, rfl, dget_tab hd ex, ?_⟩
        walk_at "h"
        refine rd_ixt sr (atI_nat (j := 2) rfl) ?_
        walk_at "h"
        refine rd_ixt sr (atI_nat (j := 3) rfl) ?_
        walk_at "h"
        refine ⟨pa, d, r.ps, N, 47, rfl, kp, hd, wB, l0, ?_⟩
        refine rd_I (wide_mul cc ww (by omega) (by omega) (by omega)) ?_
        walk_at "h"
        refine rd_ixt sr (atI_nat (j := 1) rfl) ?_
        refine rd_dputT hd (by omega) fun H' hd' e' => ?_
        exact q _ _ H' (fun z => by rw [ca'] at z; cases z) (fun _ => ⟨by omega, Int.le_refl _⟩) (fun y => tget_put _ _ _ _) (put_len ex) hd' fun b o hb e => by rw [e' b hb]; exact e
      · refine rd_isNKs ?_
        walk_at "h"
        refine rd_ixt sr (atI_nat (j := 3) rfl) ?_
        walk_at "h"
        refine ⟨pa, z, r.ps, rfl, kp, lpp, fun ta H1 kt s1 => ?_⟩
        walk_at "h"
        obtain ⟨q0, hq0, ez⟩ := List.mem_map.mp zin
        obtain ⟨_, nz, enz, nz1, nz2⟩ := hl q0 hq0
        rw [ez] at enz
        have hd1 := s1 _ _ hd
        have hl2 : ∀ q ∈ wo z r.ps, 1 ≤ q.2 ∧ q.1 ≠ r.nm ∧ ∃ n, tget N q.1 = some n ∧ 1 ≤ n ∧ n ≤ 10 ^ 14 := fun q hq => by
          obtain ⟨m1, m2⟩ := wo_mem (fun p hp => (hl p hp).1) hq
          refine ⟨m2, fun e => nin ca' (by rw [← e]; exact m1), ?_⟩
          obtain ⟨q', hq', e'⟩ := List.mem_map.mp m1
          rw [← e']
          exact (hl q' hq').2
        have dg2 : degP (wo z r.ps) ≤ 2 := Nat.le_trans (wo_deg z) dg
        have wz := wo_worth (f := fun y => (tget N y).getD 0) npp (fun p hp => (hl p hp).1) zin
        rw [← worthP_wprod N r.ps, enz, Option.getD_some] at wz
        have wr0 : 0 ≤ wprod (fun y => (tget N y).getD 0) (wo z r.ps) := by
          rw [← worthP_wprod]
          exact wp_nn fun q hq => ⟨(hl2 q hq).1, (hl2 q hq).2.2⟩
        generalize hwr : wprod (fun y => (tget N y).getD 0) (wo z r.ps) = wr at wz wr0
        refine ⟨d, _, rfl, dget_tab hd1 enz, ?_⟩
        walk_at "h"
        refine ⟨nz, 40, rfl, ?_⟩
        obtain ⟨cnt, ecnt⟩ : ∃ cnt : Nat, (if (40 : Int) < nz then 40 else nz) = (cnt : Int) ∧ (cnt : Int) ≤ nz ∧ cnt ≤ 40 := by
          split
          · exact ⟨40, rfl, by omega, by omega⟩
          · exact ⟨nz.toNat, by omega, by omega, by omega⟩
        obtain ⟨ec, cn, c40⟩ := ecnt
        rw [ec]
        refine rd_leafR (by omega) (by omega) ?_
        refine for_range (fun j σ H' => ∃ (Nj : Tab) (v5 : Option V), σ = [some (V.ref ra), some (V.str z), some (V.ref d), some (V.int 40), some (V.ref ta), v5] ∧ H' d = some (.dK (tabV Nj)) ∧ (∀ y, tget Nj y = if y = r.nm then some (x + j * (r.co * wr)) else tget N y) ∧ Nj.length = N.length ∧ Fr d H1 H')
          ⟨N, _, rfl, hd1, fun y => by
            split
            · rename_i e; rw [e, ex]; congr 1; simp
            · rfl, rfl, Fr.refl _ _⟩ ?_ ?_
        · rintro j σ H2 hj ⟨Nj, v5, rfl, hd2, tj, lj, f2⟩
          have ej : tget Nj r.nm = some (x + j * (r.co * wr)) := by rw [tj, if_pos rfl]
          have hlj : ∀ q ∈ wo z r.ps, 1 ≤ q.2 ∧ ∃ n, tget Nj q.1 = some n ∧ 1 ≤ n ∧ n ≤ 10 ^ 14 := fun q hq => by
            obtain ⟨a, b, c⟩ := hl2 q hq
            refine ⟨a, ?_⟩
            rw [tj, if_neg b]
            exact c
          have wBj := wb47 hlj dg2
          have ewr : worthP Nj (wo z r.ps) = wr := by
            rw [worthP_wprod, ← hwr]
            refine wprod_congr fun q hq => ?_
            rw [tj, if_neg (hl2 q hq).2.1]
          have wwj : (worthP Nj (wo z r.ps)).natAbs < 2 ^ (47 * degP (wo z r.ps) + 1) := lt_pow1 (worthP_le wBj.lt)
          have tp2 : Tup K H1 H2 := fr_tupD f2 hd1
          have sr2 := tp2 _ _ (same_tup (K := K) s1 _ _ sr)
          walk_at "h"
          refine rd_ixt sr2 (atI_nat (j := 1) rfl) ?_
          refine ⟨d, _, rfl, dget_tab hd2 ej, ?_⟩
          walk_at "h"
          refine rd_ixt sr2 (atI_nat (j := 2) rfl) ?_
          walk_at "h"
          refine ⟨ta, d, wo z r.ps, Nj, 47, rfl, kt.keep tp2, hd2, wBj, lack_none fun q hq => let ⟨_, n, e, _⟩ := hlj q hq; ⟨n, e⟩, ?_⟩
          refine rd_I (wide_mul cc wwj (by omega) (by omega) (by omega)) ?_
          walk_at "h"
          refine rd_ixt sr2 (atI_nat (j := 1) rfl) ?_
          refine rd_dputT hd2 (by omega) fun H' hd' e' => ?_
          refine ⟨_, _, rfl, hd', fun y => ?_, (put_len ej).trans lj, fun b o hb e => by rw [e' b hb]; exact f2 b o hb e⟩
          rw [tget_put, ewr]
          split
          · congr 1
            rw [show ((j + 1 : Nat) : Int) * (r.co * wr) = j * (r.co * wr) + r.co * wr by rw [Int.natCast_add, Int.add_mul]; simp]
            omega
          · rw [tj, if_neg (by assumption)]
        · rintro σ H2 ⟨Nj, v5, rfl, hd2, tj, lj, f2⟩
          have g1 : 0 ≤ r.co * wr := Int.mul_nonneg (by omega) wr0
          have g2 : (cnt : Int) * (r.co * wr) ≤ nz * (r.co * wr) := Int.mul_le_mul_of_nonneg_right cn g1
          have g3 : nz * (r.co * wr) = r.co * worthP N r.ps := by rw [← wz]; ac_rfl
          have g4 : 0 ≤ (cnt : Int) * (r.co * wr) := Int.mul_nonneg (Int.natCast_nonneg _) g1
          rw [Int.toNat_natCast] at tj
          refine q _ Nj H2 (fun z => by rw [ca'] at z; cases z) (fun _ => ⟨?_, ?_⟩) tj lj hd2 ((Fr.of s1).trans f2)
          · omega
          · omega
end
end K41
namespace K41
open PySem PySem.Spec PyProof.Rows L2 HH
/-! ### the numbers stay below the paper -/
def vk (b : Str → Int) (k : Int) : Str → Int := fun z => if z = "#" then k else b z
theorem wt_mono {f g : Str → Int} : ∀ {Z : List Str} {e : List Nat}, (∀ z ∈ Z, 0 ≤ f z ∧ f z ≤ g z) → 0 ≤ wt (Z.map f) e ∧ wt (Z.map f) e ≤ wt (Z.map g) e
  | [], e, _ => by cases e <;> exact ⟨by simp only [List.map_nil, wt]; decide, Int.le_refl _⟩
  | z :: Z, [], _ => ⟨by simp only [List.map_cons, wt]; decide, Int.le_refl _⟩
  | z :: Z, d :: ds, h => by
    obtain ⟨a, b⟩ := h z List.mem_cons_self
    obtain ⟨c, e⟩ := wt_mono (Z := Z) (e := ds) fun y hy => h y (List.mem_cons_of_mem _ hy)
    simp only [List.map_cons, wt]
    have e1 : 0 ≤ f z ^ d := Int.pow_nonneg a
    exact ⟨Int.mul_nonneg e1 c, Int.mul_le_mul (pow_le_powI a b _) e c (Int.pow_nonneg (by omega))⟩
theorem ev_mono {Z : List Str} {D : Nat} {m : Pl} (pm : PolyOk Z.length D m) {f g : Str → Int} (h : ∀ z ∈ Z, 0 ≤ f z ∧ f z ≤ g z) : 0 ≤ ev Z f m ∧ ev Z f m ≤ ev Z g m := by
  refine ⟨wsum_nn fun q hq => Int.mul_nonneg (by have := pm.co q hq; omega) (wt_mono h).1, sum_mono2 fun q hq => Int.mul_le_mul_of_nonneg_left (wt_mono h).2 (by have := pm.co q hq; omega)⟩
theorem sum_nn2 {α : Type} {f : α → Int} : ∀ {l : List α}, (∀ x ∈ l, 0 ≤ f x) → 0 ≤ (l.map f).sum
  | [], _ => Int.le_refl _
  | a :: l, h => by
    have h1 := sum_nn2 (l := l) fun x hx => h x (List.mem_cons_of_mem _ hx)
    have h2 := h a List.mem_cons_self
    rw [List.map_cons, List.sum_cons]
    omega
theorem sum_mem2 {α : Type} {f : α → Int} : ∀ {l : List α}, (∀ x ∈ l, 0 ≤ f x) → ∀ x ∈ l, f x ≤ (l.map f).sum
  | [], _, x, hx => nomatch hx
  | a :: l, h, x, hx => by
    have h1 := sum_nn2 (l := l) fun x hx => h x (List.mem_cons_of_mem _ hx)
    have h2 := h a List.mem_cons_self
    rw [List.map_cons, List.sum_cons]
    rcases List.mem_cons.mp hx with e | e
    · rw [e]; omega
    · have := sum_mem2 (l := l) (fun x hx => h x (List.mem_cons_of_mem _ hx)) x e
      omega
def inP (p : List Str) (r : FRow) : Bool := r.add && decide (r.nm ∈ p)
theorem inP_rais {p : List Str} {r : FRow} (h : inP p r = true) : raisR p r = true ∧ r.add = true := by
  unfold inP at h
  rw [Bool.and_eq_true] at h
  refine ⟨?_, h.1⟩
  unfold raisR plainR
  rw [h.1, h.2]
  rfl
theorem sum_split (f : FRow → Int) (p : List Str) : ∀ R : List FRow, ((R.filter (inP p)).map f).sum = ((R.filter (raisR p)).map fun r => if r.add = true then f r else 0).sum
  | [] => rfl
  | r :: R => by
    have ih := sum_split f p R
    by_cases c : inP p r = true
    · obtain ⟨a, b⟩ := inP_rais c
      rw [List.filter_cons, if_pos c, List.filter_cons, if_pos a, List.map_cons, List.map_cons, List.sum_cons, List.sum_cons, ih, if_pos b]
    · rw [List.filter_cons, if_neg c, ih, List.filter_cons]
      split
      · rename_i d
        have : ¬ r.add = true := fun e => c (by
          unfold inP
          unfold raisR at d
          rw [Bool.and_eq_true] at d
          rw [e, d.1]; rfl)
        rw [List.map_cons, List.sum_cons, if_neg this, Int.zero_add]
      · rfl
section
variable {xs : List Str} {R : List FRow} {A : Str → Pl} {b : Str → Int}
def UU (xs : List Str) (A : Str → Pl) (b : Str → Int) (c : Int) (x : Str) : Int := ev (Zs xs) (vk b c) (A x)
def Mp (xs : List Str) (R : List FRow) (A : Str → Pl) (b : Str → Int) (k : Int) (p : List Str) : Int := (p.map b).sum + ((R.filter (raisR p)).map fun r => (if r.add = true then k else 1) * (r.co * wprod (UU xs A b (k + 1)) r.ps)).sum
def Sp1 (xs : List Str) (A : Str → Pl) (b : Str → Int) (k : Int) (p : List Str) (acc : List FRow) : Int := ((acc.filter (inP p)).map fun r => r.co * wprod (UU xs A b (k + 1)) r.ps).sum
structure BOk (xs : List Str) (b : Str → Int) : Prop where
  ge : ∀ x ∈ xs, 1 ≤ b x ∧ b x ≤ 4 ∧ x ≠ "#"
theorem BOk.vok (h : BOk xs b) {k : Int} (h1 : 1 ≤ k) (h2 : k ≤ 4) : VOk xs (vk b k) := fun z hz => by
  unfold vk
  split
  · exact ⟨h1, h2⟩
  · rename_i e
    rcases List.mem_cons.mp hz with c | c
    · exact absurd c e
    · have := h.ge z c
      exact ⟨this.1, this.2.1⟩
theorem BOk.mono (h : BOk xs b) {k l : Int} (h0 : 0 ≤ k) (h1 : k ≤ l) : ∀ z ∈ Zs xs, 0 ≤ vk b k z ∧ vk b k z ≤ vk b l z := fun z hz => by
  unfold vk
  split
  · exact ⟨h0, h1⟩
  · rename_i e
    rcases List.mem_cons.mp hz with c | c
    · exact absurd c e
    · have := (h.ge z c).1
      exact ⟨by omega, Int.le_refl _⟩
structure Ctx (xs : List Str) (R : List FRow) (A : Str → Pl) (b : Str → Int) : Prop where
  rb : RowsB xs R
  P : PAt xs R A (calmL R xs).length
  hb : BOk xs b
  l3 : (calmL R xs).length ≤ 3
variable (C : Ctx xs R A b)
include C
theorem Ctx.poly {i : Nat} {p : List Str} (hp : (calmL R xs)[i]? = some p) {x : Str} (hx : x ∈ p) : PolyOk (Zs xs).length (Dn (i + 1)) (A x) := (C.P.ok i p (List.getElem?_eq_some_iff.mp hp).1 hp x hx).1
theorem Ctx.nn {i : Nat} {p : List Str} (hp : (calmL R xs)[i]? = some p) {x : Str} (hx : x ∈ p) {c d : Int} (h0 : 0 ≤ c) (h1 : c ≤ d) : 0 ≤ UU xs A b c x ∧ UU xs A b c x ≤ UU xs A b d x := ev_mono (C.poly hp hx) (C.hb.mono h0 h1)
theorem Ctx.let {i : Nat} {p : List Str} (hp : (calmL R xs)[i]? = some p) {r : FRow} (hr : r ∈ R) (rz : raisR p r = true) {c d : Int} (h0 : 0 ≤ c) (h1 : c ≤ d) : ∀ q ∈ r.ps, 0 ≤ UU xs A b c q.1 ∧ UU xs A b c q.1 ≤ UU xs A b d q.1 := fun q hq => by
  obtain ⟨j, p', _, hp', hg⟩ := calm_back C.rb.rn hp hr rz hq
  exact C.nn hp' hg h0 h1
theorem Ctx.full {i : Nat} {p : List Str} (hp : (calmL R xs)[i]? = some p) {x : Str} (hx : x ∈ p) (c : Int) : UU xs A b c x = (p.map b).sum + ((R.filter (raisR p)).map fun r => (if r.add = true then c else 1) * (r.co * wprod (UU xs A b c) r.ps)).sum := by
  have h := (C.P.ok i p (List.getElem?_eq_some_iff.mp hp).1 hp x hx).2 (vk b c)
  unfold UU
  rw [h]
  unfold Ufm
  have e : p.map (vk b c) = p.map b := List.map_congr_left fun y hy => by
    unfold vk
    rw [if_neg (C.hb.ge y ((calm_sub C.rb.rn (List.mem_of_getElem? hp)).1 y hy)).2.2]
  rw [e]
  rfl
theorem Ctx.top {i : Nat} {p : List Str} (hp : (calmL R xs)[i]? = some p) {x : Str} (hx : x ∈ p) {c : Int} (h1 : 1 ≤ c) (h2 : c ≤ 4) : UU xs A b c x ≤ 10 ^ 14 := by
  have hi := (List.getElem?_eq_some_iff.mp hp).1
  have := C.P.bn i p hi hp x hx _ (C.hb.vok h1 h2)
  have h3 : Bn (i + 1) ≤ Bn 3 := Bn_mono (by have := C.l3; omega)
  exact Int.le_trans this h3
theorem Ctx.term_nn {i : Nat} {p : List Str} (hp : (calmL R xs)[i]? = some p) {r : FRow} (hr : r ∈ R) (rz : raisR p r = true) {c : Int} (h0 : 0 ≤ c) : 0 ≤ r.co * wprod (UU xs A b c) r.ps :=
  Int.mul_nonneg (by have := (C.rb.row r hr).1; omega) (wprod_mono (C.let hp hr rz h0 (Int.le_refl c))).1
theorem Ctx.begin {i : Nat} {p : List Str} (hp : (calmL R xs)[i]? = some p) {x : Str} (hx : x ∈ p) {k : Int} (k0 : 0 ≤ k) : UU xs A b k x ≤ Mp xs R A b k p := by
  rw [C.full hp hx]
  unfold Mp
  refine Int.add_le_add_left (sum_mono2 fun r hr => ?_) _
  obtain ⟨hr1, hr2⟩ := List.mem_filter.mp hr
  have h1 := (wprod_mono (C.let hp hr1 hr2 k0 (show k ≤ k + 1 by omega))).2
  have h2 : 0 ≤ r.co := by have := (C.rb.row r hr1).1; omega
  refine Int.mul_le_mul_of_nonneg_left (Int.mul_le_mul_of_nonneg_left h1 h2) ?_
  split <;> omega
theorem Ctx.whole {i : Nat} {p : List Str} (hp : (calmL R xs)[i]? = some p) {x : Str} (hx : x ∈ p) (k : Int) : Mp xs R A b k p + Sp1 xs A b k p R = UU xs A b (k + 1) x := by
  rw [C.full hp hx]
  unfold Mp Sp1
  rw [sum_split, Int.add_assoc]
  congr 1
  induction R.filter (raisR p) with
  | nil => rfl
  | cons r l ih =>
    simp only [List.map_cons, List.sum_cons]
    rw [← ih]
    split
    · rw [Int.add_mul, Int.one_mul]; omega
    · omega
theorem Ctx.part {i : Nat} {p : List Str} (hp : (calmL R xs)[i]? = some p) {x : Str} (hx : x ∈ p) {k : Int} (k0 : 0 ≤ k) {acc rest : List FRow} (pm : (acc ++ rest).Perm R) : Mp xs R A b k p + Sp1 xs A b k p acc ≤ UU xs A b (k + 1) x := by
  have e : Sp1 xs A b k p (acc ++ rest) = Sp1 xs A b k p R := by
    unfold Sp1
    exact perm_sum ((pm.filter _).map _)
  rw [← C.whole hp hx, ← e]
  have e2 : Sp1 xs A b k p (acc ++ rest) = Sp1 xs A b k p acc + Sp1 xs A b k p rest := by
    unfold Sp1
    rw [List.filter_append, List.map_append, List.sum_append]
  have e3 : 0 ≤ Sp1 xs A b k p rest := sum_nn2 fun r hr => by
    obtain ⟨h1, h2⟩ := List.mem_filter.mp hr
    exact C.term_nn hp (pm.mem_iff.mp (List.mem_append_right _ h1)) (inP_rais h2).1 (by omega)
  omega
omit C in
structure RI (xs : List Str) (R : List FRow) (A : Str → Pl) (b : Str → Int) (k : Int) (N : Tab) (acc : List FRow) : Prop where
  al : ∀ x ∈ xs, ∃ n, tget N x = some n ∧ 1 ≤ n ∧ n ≤ 10 ^ 14
  bd : ∀ (i : Nat) (p : List Str), (calmL R xs)[i]? = some p → ∀ x ∈ p, ∀ n, tget N x = some n → n ≤ Mp xs R A b k p + Sp1 xs A b k p acc
theorem Ctx.grow {i : Nat} {p : List Str} (hp : (calmL R xs)[i]? = some p) {k : Int} (k0 : 0 ≤ k) {acc : List FRow} {r : FRow} (hr : r ∈ R) : Sp1 xs A b k p acc ≤ Sp1 xs A b k p (acc ++ [r]) := by
  have e2 : Sp1 xs A b k p (acc ++ [r]) = Sp1 xs A b k p acc + Sp1 xs A b k p [r] := by
    unfold Sp1
    rw [List.filter_append, List.map_append, List.sum_append]
  have e3 : 0 ≤ Sp1 xs A b k p [r] := sum_nn2 fun r' hr' => by
    obtain ⟨h1, h2⟩ := List.mem_filter.mp hr'
    rw [List.mem_singleton.mp h1] at h2 ⊢
    exact C.term_nn hp hr (inP_rais h2).1 (by omega)
  omega
theorem Ctx.skip {k : Int} (k0 : 0 ≤ k) {N : Tab} {acc : List FRow} (h : RI xs R A b k N acc) {r : FRow} (hr : r ∈ R) : RI xs R A b k N (acc ++ [r]) :=
  ⟨h.al, fun i p hp x hx n hn => Int.le_trans (h.bd i p hp x hx n hn) (Int.add_le_add_left (C.grow hp k0 hr) _)⟩
theorem Ctx.step {k : Int} (k0 : 0 ≤ k) (k2 : k ≤ 2) {N N' : Tab} {acc rest : List FRow} (h : RI xs R A b k N acc) {r : FRow} (pm : ((acc ++ [r]) ++ rest).Perm R) {i : Nat} {p : List Str} (hp : (calmL R xs)[i]? = some p) (hx : r.nm ∈ p) {n v : Int} (hn : tget N r.nm = some n)
    (v1 : r.add = false → v = if r.co * worthP N r.ps > n then r.co * worthP N r.ps else n) (v2 : r.add = true → n ≤ v ∧ v ≤ n + r.co * worthP N r.ps) (e : ∀ y, tget N' y = if y = r.nm then some v else tget N y) : RI xs R A b k N' (acc ++ [r]) := by
  have hr : r ∈ R := pm.mem_iff.mp (List.mem_append_left _ (List.mem_append_right _ List.mem_cons_self))
  have pm0 : (acc ++ (r :: rest)).Perm R := by rw [List.append_assoc] at pm; exact pm
  obtain ⟨c1, c2, dg, _⟩ := C.rb.row r hr
  have n0 := h.bd i p hp _ hx n hn
  have n1 : 1 ≤ n := by
    obtain ⟨m, em, m1, _⟩ := h.al r.nm (C.rb.rn r hr).1
    rw [hn] at em
    obtain rfl := Option.some.inj em
    exact m1
  have gr := C.grow hp k0 (acc := acc) hr
  -- the worth of the row, if it raises
  have up : raisR p r = true → r.co * worthP N r.ps ≤ r.co * wprod (UU xs A b (k + 1)) r.ps := fun rz => by
    refine Int.mul_le_mul_of_nonneg_left ?_ (by omega)
    rw [worthP_wprod]
    refine (wprod_mono fun q hq => ?_).2
    obtain ⟨j, p', _, hp', hg⟩ := calm_back C.rb.rn hp hr rz hq
    obtain ⟨m, em, m1, _⟩ := h.al q.1 ((C.rb.rn r hr).2 q hq)
    have := h.bd j p' hp' _ hg m em
    have := C.part hp' hg k0 pm0
    rw [em, Option.getD_some]
    exact ⟨by omega, by omega⟩
  have tnn : raisR p r = true → 0 ≤ r.co * wprod (UU xs A b (k + 1)) r.ps := fun rz => C.term_nn hp hr rz (by omega)
  have vb : 1 ≤ v ∧ v ≤ Mp xs R A b k p + Sp1 xs A b k p (acc ++ [r]) := by
    cases ca : r.add with
    | true =>
      obtain ⟨a1, a2⟩ := v2 ca
      have ip : inP p r = true := by unfold inP; rw [ca, decide_eq_true hx]; rfl
      have rz := (inP_rais ip).1
      have := up rz
      have e2 : Sp1 xs A b k p (acc ++ [r]) = Sp1 xs A b k p acc + r.co * wprod (UU xs A b (k + 1)) r.ps := by
        unfold Sp1
        rw [List.filter_append, List.map_append, List.sum_append, List.filter_cons, if_pos ip]
        simp
      exact ⟨by omega, by omega⟩
    | false =>
      have a1 := v1 ca
      have key : r.co * worthP N r.ps ≤ Mp xs R A b k p + Sp1 xs A b k p (acc ++ [r]) := by
        cases rz : raisR p r with
        | true =>
          have u1 := up rz
          have m1 : (fun r : FRow => (if r.add = true then k else 1) * (r.co * wprod (UU xs A b (k + 1)) r.ps)) r ≤ ((R.filter (raisR p)).map fun r => (if r.add = true then k else 1) * (r.co * wprod (UU xs A b (k + 1)) r.ps)).sum := by
            refine sum_mem2 (fun r' hr' => ?_) r (List.mem_filter.mpr ⟨hr, rz⟩)
            obtain ⟨h1, h2⟩ := List.mem_filter.mp hr'
            exact Int.mul_nonneg (by split <;> omega) (C.term_nn hp h1 h2 (by omega))
          dsimp only at m1
          rw [if_neg (by rw [ca]; exact Bool.false_ne_true), Int.one_mul] at m1
          have b0 : 0 ≤ (p.map b).sum := sum_nn2 fun y hy => by have := (C.hb.ge y ((calm_sub C.rb.rn (List.mem_of_getElem? hp)).1 y hy)).1; omega
          have s0 : 0 ≤ Sp1 xs A b k p (acc ++ [r]) := sum_nn2 fun r' hr' => by
            obtain ⟨h1, h2⟩ := List.mem_filter.mp hr'
            exact C.term_nn hp (pm.mem_iff.mp (List.mem_append_left _ h1)) (inP_rais h2).1 (by omega)
          unfold Mp
          omega
        | false =>
          have pl : plainR r p = true := by
            unfold raisR at rz
            rw [decide_eq_true hx, Bool.true_and] at rz
            simpa using rz
          unfold plainR at pl
          rw [Bool.and_eq_true, Bool.and_eq_true, decide_eq_true_eq] at pl
          obtain ⟨_, pc, pp⟩ := pl
          obtain ⟨q, eq, q1, q2⟩ : ∃ q, r.ps = [q] ∧ q.2 = 1 ∧ q.1 ∈ p := by
            generalize r.ps = ps at pp
            match ps, pp with
            | [q], pp =>
              rw [Bool.and_eq_true, decide_eq_true_eq, decide_eq_true_eq] at pp
              exact ⟨q, rfl, pp.1, pp.2⟩
          obtain ⟨m, em, m1, _⟩ := h.al q.1 ((C.rb.rn r hr).2 q (by rw [eq]; exact List.mem_cons_self))
          have := h.bd i p hp _ q2 m em
          rw [pc, eq, Int.one_mul]
          simp only [worthP]
          rw [em, q1, Option.getD_some, Int.mul_one]
          show m ^ 1 ≤ _
          rw [Int.pow_succ, Int.pow_zero, Int.one_mul]
          omega
      rw [a1]
      split
      · exact ⟨by omega, key⟩
      · exact ⟨n1, by omega⟩
  have vt := C.part hp hx k0 pm
  have vt2 := C.top hp hx (c := k + 1) (by omega) (by omega)
  refine ⟨fun x hx' => ?_, fun j p' hp' x hx' m hm => ?_⟩
  · rw [e]
    split
    · exact ⟨v, rfl, vb.1, by omega⟩
    · exact h.al x hx'
  · rw [e] at hm
    split at hm
    · rename_i ex
      obtain rfl := Option.some.inj hm
      subst ex
      have := calm_apart C.rb.rn hp hp' hx hx'
      subst this
      obtain rfl := Option.some.inj (hp.symm.trans hp')
      exact vb.2
    · exact Int.le_trans (h.bd j p' hp' x hx' m hm) (Int.add_le_add_left (C.grow hp' k0 hr) _)
/-- a row that adds has not its own name -/
theorem Ctx.own {i : Nat} {p : List Str} (hp : (calmL R xs)[i]? = some p) {r : FRow} (hr : r ∈ R) (hx : r.nm ∈ p) (ca : r.add = true) : r.nm ∉ r.ps.map (·.1) := fun h => by
  obtain ⟨q, hq, eq⟩ := List.mem_map.mp h
  have ip : inP p r = true := by unfold inP; rw [ca, decide_eq_true hx]; rfl
  obtain ⟨j, p', hj, hp', hg⟩ := calm_back C.rb.rn hp hr (inP_rais ip).1 hq
  rw [eq] at hg
  have := calm_apart C.rb.rn hp' hp hg hx
  omega
end
end K41
namespace K41
open PySem PySem.Spec PyProof.Rows L2 HH
local macro_rules | `(tactic| walk_at "h1") => `(tactic| first
  | with_reducible refine rd_seq ?_ | with_reducible refine rd_asg ?_ | with_reducible refine rd_op ?_
  | ((with_reducible refine' rd_var ?hv ?_); (case hv => exact rfl)) | with_reducible refine rd_c ?_
  | ((with_reducible refine rd_name ?_); dsimp only [List.set_cons_zero, List.set_cons_succ])
  | with_reducible refine rd_I0 ?_ | ((with_reducible refine rd_pow ?_ ?_ ?_ ?_); (· decide); (· decide); (· decide)) | ((with_reducible refine rd_mod ?_ ?_); (· decide)) | ((with_reducible refine rd_mulR ?_ ?_ ?_); (· decide); (· decide)) | ((with_reducible refine rd_divW (n := 64) ?_ ?_ ?_ ?_ ?_); (· decide); (· decide); (· decide); (· decide)) | with_reducible refine rd_addI ?_ | with_reducible refine rd_eqI ?_ | with_reducible refine rd_eqS ?_ | with_reducible refine rd_eqB ?_ | with_reducible refine rd_ltI ?_
  | with_reducible refine rd_callS ?_ | with_reducible refine rd_xf ?_ | with_reducible refine rd_cons ?_ | with_reducible refine rd_nil ?_ | with_reducible refine rd_cb ?_ | with_reducible refine rd_call ?_
  | with_reducible refine rd_ifs ?_ | with_reducible refine rd_test ?_ | with_reducible refine rd_tB ?_ | with_reducible refine rd_blQ ?_ | with_reducible refine iteT ?_ | with_reducible refine iteF ?_ | with_reducible refine iteNotF ?_ | with_reducible refine iteNotT ?_
  | with_reducible refine rd_and ?_ | with_reducible refine rd_or ?_ | with_reducible refine rd_not ?_ | with_reducible refine rd_andV ?_ | with_reducible refine rd_orV ?_ | with_reducible refine rd_notV ?_ | with_reducible refine rd_if ?_
  | with_reducible refine rd_un ?_ | with_reducible refine rd_U ?_ | with_reducible refine rd_sub ?_ | with_reducible refine rd_tup ?_ | with_reducible refine rd_lst ?_
  | with_reducible refine rd_intI ?_ | with_reducible refine rd_absI ?_ | with_reducible refine rd_drop ?_ | with_reducible refine rd_ret ?_ | with_reducible refine rd_retN ?_ | with_reducible refine rd_next ?_ | with_reducible refine rd_bm ?_
  | with_reducible refine rd_tDGet2 ?_ | with_reducible refine rd_tDGet ?_ | with_reducible refine rd_sDPut ?_ | with_reducible refine rd_dnewK ?_ | with_reducible refine rd_nnew ?_ | with_reducible refine rd_nget ?_ | with_reducible refine rd_nget2 ?_ | with_reducible refine rd_npop ?_ | with_reducible refine rd_nput ?_ | with_reducible refine rd_dcn ?_ | with_reducible refine rd_gtup ?_ | with_reducible refine rd_gcons ?_ | with_reducible refine rd_gnil ?_ | with_reducible refine rd_lc ?_ | with_reducible refine rd_yes ?_ | with_reducible refine rd_for ?_ | with_reducible refine rd_iL ?_ | with_reducible refine rd_neS ?_ | with_reducible refine rd_neN ?_ | with_reducible refine rd_neB ?_ | with_reducible refine rd_chain ?_ | with_reducible refine rd_bm0 ?_ | with_reducible refine rd_dc ?_ | with_reducible refine rd_iN ?_ | with_reducible refine rd_iZ ?_ | with_reducible refine rd_ngetF ?_ | with_reducible refine rd_iT ?_ | with_reducible refine rd_iR1 ?_ | with_reducible refine rd_iS ?_ | with_reducible refine rd_leafS ?_ | with_reducible refine rd_sl ?_ | with_reducible refine rd_noPart ?_ | with_reducible refine rd_part ?_ | with_reducible refine rd_leafI ?_)
local macro_rules | `(tactic| walk_at "h") => `(tactic| repeat walk_at "h1")

section
variable {P : Program} {w : World} {K : PySem.W.Frag} {mg : Str → Option Value} {base : Heap}
theorem DiceAt.fr {H H' : Hp} {p c l : Addr} (d : DiceAt H p c) (h1 : p ≠ l) (h2 : c ≠ l) (f : HH.Fr l H H') : DiceAt H' p c := by
  obtain ⟨cells, a, b, k, e, g1, g2, r⟩ := d
  exact ⟨cells, a, b, k, e, f _ _ h1 g1, f _ _ h2 g2, r⟩
theorem fr_via {p l : Addr} {H H1 H' : Hp} (f : HH.Fr p H H1) (g : HH.Fr l H1 H') (n : H l = none) : HH.Fr p H H' := fun b o hb e => g b o (fun z => by rw [z, n] at e; cases e) (f b o hb e)
theorem EntOk.frL {K : PySem.W.Frag} {H H' : Hp} {Z : List Str} {A : Str → Pl} {e : Ent} {l : Addr} {ys : List V} (h : EntOk K H Z A e) (f : HH.Fr l H H') (hl : H l = some (.lst ys)) : EntOk K H' Z A e := by
  refine ⟨f.tup hl _ _ h.pr, ?_, h.su.keep (f.tup hl), h.wo⟩
  obtain ⟨o, c, e⟩ := h.zt
  exact ⟨o, c, f _ _ (ne_of e hl (fun z => nomatch z)) e⟩
/-- one row as it is laid -/
structure It1 where
  ta : Addr
  ra : Addr
  r : FRow
  inn : V
  n : Int
structure ItOk (K : PySem.W.Frag) (H : Hp) (e : It1) : Prop where
  tp : SqT K H e.ta [.ref e.ra, e.inn, .int e.n]
  ro : IsK K H (rowK e.r) (.ref e.ra)
  nn : e.inn = .non ∨ ∃ z, e.inn = .str z ∧ e.r.add = true ∧ z ∈ e.r.ps.map (·.1)
theorem ItOk.keep {K : PySem.W.Frag} {H H' : Hp} {e : It1} (h : ItOk K H e) (t : Tup K H H') : ItOk K H' e := ⟨t _ _ h.tp, h.ro.keep t, h.nn⟩
theorem prod_len {xs : List Str} {n : Int} {ps : Tab} (h : ProdOk xs n ps) : ps.length ≤ xs.length := by
  have := List.Nodup.length_le_of_subset h.nd (fun y hy => by
    obtain ⟨q, hq, rfl⟩ := List.mem_map.mp hy
    exact (h.nm q hq).1)
  rwa [List.length_map] at this
theorem deg_sum : ∀ {ps : Tab}, (∀ q ∈ ps, 1 ≤ q.2) → (degP ps : Int) = (ps.map (·.2)).sum
  | [], _ => rfl
  | q :: ps, h => by
    have ih := deg_sum (ps := ps) fun r hr => h r (List.mem_cons_of_mem _ hr)
    have := h q List.mem_cons_self
    rw [degP, List.map_cons, List.sum_cons, ← ih]
    omega
theorem ix_at {α : Type} {xs : List α} {k : Int} (k0 : 0 ≤ k) (h : k.toNat < xs.length) : atI xs k = some xs[k.toNat] := by
  have := atI_nat (xs := xs) (j := k.toNat) (v := xs[k.toNat]) (List.getElem?_eq_getElem h)
  rwa [Int.toNat_of_nonneg k0] at this
theorem count_one {z : Str} : ∀ {l : List Str}, l.Nodup → z ∈ l → l.count z = 1
  | [], _, h => nomatch h
  | a :: l, nd, h => by
    obtain ⟨n1, n2⟩ := List.nodup_cons.mp nd
    rw [List.count_cons]
    rcases List.mem_cons.mp h with e | e
    · rw [e, List.count_eq_zero_of_not_mem n1]
      simp
    · have : ¬ a = z := fun h2 => n1 (by rw [h2]; exact e)
      rw [count_one n2 e]
      simp [this]
def spLaw (K : PySem.W.Frag) : Sp := fun vs H Q _ => ∃ (a : Addr) (ns : List Int), vs = [.ref a] ∧ SqL K H a (ns.map V.int) ∧ ns.length ≤ 63 ∧ ∀ H', Q (.bl true) H'
theorem ok_law {f : Addr} {fd : FuncData} (F : Fun K "law" "law" s_law f fd) (T : Bi mg)
    (G_l_dice : Callee P w K mg base 1 "_law_dice" ["_law_script"] (spDice K)) (G_l_draw : Callee P w K mg base 1 "_law_draw" ["_law_dice_here", "_law_many"] spDraw)
    (G_l_names : Callee P w K mg base 3 "_law_names" ["_law_dice_here", "_law_many"] spNames)
    (G_l_flat : Callee P w K mg base 3 "_law_flat" ["_law_dice_here", "_law_names_here", "_law_most", "_law_top", "_law_wild"] (spFlat K))
    (G_l_order : Callee P w K mg base 2 "_law_order" ["_law_dice_here", "_law_names_here"] (spOrderV K))
    (G_loop_paper : Callee P w K mg base 6 "loop_paper" ["names", "flat"] (spPaper K))
    (G_l_total : Callee P w K mg base 2 "_law_total" ["_law_terms", "_law_numbers"] (spTotal K))
    (G_l_do_flat : Callee P w K mg base 2 "_law_do_flat" ["_law_row", "_law_inner", "_law_numbers", "_law_most"] (spDo K)) :
    FnOk P w K mg base CX0 7 f fd ["_law_script"] (spLaw K) := by
  refine F.ok (k := 6) sc_law (fun vs H Q E h => ?_) (fun cdv A outer s H vs Q E hr h => ?_)
  · obtain ⟨a, ns, rfl, _⟩ := h
    rfl
  · obtain ⟨a, ns, rfl, ha, h63, q⟩ := h
    have hu := hu_of hr
    have hu20 := hu20_of hr
    have hu40 := hu40_of hr
    have hu65 := hu65_of hr
    obtain ⟨f_l_dice, fd_l_dice, F_l_dice, m_l_dice, k_l_dice, b_l_dice⟩ := G_l_dice; obtain ⟨f_l_names, fd_l_names, F_l_names, m_l_names, k_l_names, b_l_names⟩ := G_l_names; obtain ⟨f_l_draw, fd_l_draw, F_l_draw, m_l_draw, k_l_draw, b_l_draw⟩ := G_l_draw; obtain ⟨f_l_flat, fd_l_flat, F_l_flat, m_l_flat, k_l_flat, b_l_flat⟩ := G_l_flat; obtain ⟨f_loop_paper, fd_loop_paper, F_loop_paper, m_loop_paper, k_loop_paper, b_loop_paper⟩ := G_loop_paper; obtain ⟨f_l_order, fd_l_order, F_l_order, m_l_order, k_l_order, b_l_order⟩ := G_l_order; obtain ⟨f_l_do_flat, fd_l_do_flat, F_l_do_flat, m_l_do_flat, k_l_do_flat, b_l_do_flat⟩ := G_l_do_flat; obtain ⟨f_l_total, fd_l_total, F_l_total, m_l_total, k_l_total, b_l_total⟩ := G_l_total
    refine ⟨_, (pss_cons (ps_set (i := 1) sc_law.nd rfl (.inl rfl) (pe_call F_l_dice (hr.mono (by decide)) (by rfl) m_l_dice k_l_dice b_l_dice .nil pass0 (pa_cons (pv 0) pa_nil)))
  (pss_cons (ps_set (i := 2) sc_law.nd rfl (.inl rfl) (pe_callTy (call_tupC (K := K)) (by rfl) T.tuple_ (by decide +kernel) (pa_cons (pe_call F_l_names (hr.mono (by decide)) (by rfl) m_l_names k_l_names b_l_names .nil pass0 (pa_cons (pv 1) (pa_cons (pe_op (op_addU (K := K)) pe_int (pe_call F_l_draw (hr.mono (by decide)) (by rfl) m_l_draw k_l_draw b_l_draw .nil pass0 (pa_cons (pv 1) (pa_cons pe_int pa_nil)))) pa_nil))) pa_nil)))
  (pss_cons (ps_set (i := 3) sc_law.nd rfl (.inl rfl) (pe_call F_l_flat (hr.mono (by decide)) (by rfl) m_l_flat k_l_flat b_l_flat .nil pass0 (pa_cons (pv 1) (pa_cons (pv 2) (pa_cons pe_int (pa_cons pe_int (pa_cons (pe_cmpR (op_eqU (K := K) hu40) (pe_call F_l_draw (hr.mono (by decide)) (by rfl) m_l_draw k_l_draw b_l_draw .nil pass0 (pa_cons (pv 1) (pa_cons pe_int pa_nil))) pe_int (nomark _)) pa_nil)))))))
  (pss_cons (ps_set (i := 4) sc_law.nd rfl (.inl rfl) (pe_call F_loop_paper (hr.mono (by decide)) (by rfl) m_loop_paper k_loop_paper b_loop_paper .nil pass0 (pa_cons (pv 2) (pa_cons (pv 3) pa_nil))))
  (pss_cons (ps_set (i := 5) sc_law.nd rfl (.inl rfl) pe_dnewK)
  (pss_cons (ps_for PassesOwn.never rfl (pi_tup (pv 2)) (pg_name (i := 6) sc_law.nd rfl (.inl rfl))
    (pss_one (ps_dput hu (pv 5) (pv 6) (pe_op (op_addU (K := K)) pe_int (pe_call F_l_draw (hr.mono (by decide)) (by rfl) m_l_draw k_l_draw b_l_draw .nil pass0 (pa_cons (pv 1) (pa_cons pe_int pa_nil)))) rfl)))
  (pss_cons (ps_set (i := 7) sc_law.nd rfl (.inl rfl) (pe_callTy call_dictD (by rfl) T.dict_ (by decide +kernel) (pa_cons (pv 5) pa_nil)))
  (pss_cons (ps_set (i := 8) sc_law.nd rfl (.inl rfl) (pe_lst pa_nil))
  (pss_cons (ps_for PassesOwn.never rfl (pi_list (pe_call F_l_order (hr.mono (by decide)) (by rfl) m_l_order k_l_order b_l_order .nil pass0 (pa_cons (pv 1) (pa_cons (pv 3) pa_nil)))) (pg_name (i := 9) sc_law.nd rfl (.inl rfl))
    (pss_cons (ps_set (i := 10) sc_law.nd rfl (.inl rfl) pe_non)
  (C8.pss_cut (ps_if (PW.pt (pw_and (pt_cmpR (op_eqU (K := K) hu40) (pe_ix (ix_tupK (K := K)) (pv 9) pe_int (fun _ _ => rfl)) pe_str (nomark _)) (pw_and (pt_cmpR op_gt (pe_callB (call_lenU (P := P) (w := w) (K := K)) (by rfl) T.len_ PySem.boot_len (pa_cons (pe_ix (ix_tupK (K := K)) (pv 9) pe_int (fun _ _ => rfl)) pa_nil)) pe_int (nomark _)) (pw_and1 (pt_cmpR (op_eqU (K := K) hu40) (pe_call F_l_draw (hr.mono (by decide)) (by rfl) m_l_draw k_l_draw b_l_draw .nil pass0 (pa_cons (pv 1) (pa_cons pe_int pa_nil))) pe_int (nomark _)))))) (pss_one (ps_set (i := 10) sc_law.nd rfl (.inl rfl) (pe_ix (ix_tupK (K := K)) (pe_ix (ix_tupK (K := K)) (pe_ix (ix_tupK (K := K)) (pv 9) pe_int (fun _ _ => rfl)) (pe_call F_l_draw (hr.mono (by decide)) (by rfl) m_l_draw k_l_draw b_l_draw .nil pass0 (pa_cons (pv 1) (pa_cons (pe_callB (call_lenU (P := P) (w := w) (K := K)) (by rfl) T.len_ PySem.boot_len (pa_cons (pe_ix (ix_tupK (K := K)) (pv 9) pe_int (fun _ _ => rfl)) pa_nil)) pa_nil))) (fun _ _ => rfl)) pe_int (fun _ _ => rfl)))) pss_nil)
  (pss_one (ps_expr (pe_bm PySem.F.plainAttrs_list PySem.F.slot_list_append PySem.F.type_list_append mt_append (pv 8) (pa_cons (pe_tup (pa_cons (pv 9) (pa_cons (pv 10) (pa_cons (pe_call F_l_draw (hr.mono (by decide)) (by rfl) m_l_draw k_l_draw b_l_draw .nil pass0 (pa_cons (pv 1) (pa_cons pe_int pa_nil))) pa_nil)))) pa_nil)))))))
  (pss_cons (ps_set (i := 11) sc_law.nd rfl (.inl rfl) (pe_lst pa_nil))
  (pss_cons (ps_for PassesOwn.never rfl (pi_tup (pv 4)) (pg_name (i := 12) sc_law.nd rfl (.inl rfl))
    (pss_one (ps_expr (pe_bm PySem.F.plainAttrs_list PySem.F.slot_list_extend PySem.F.type_list_extend mt_extendZ (pv 11) (pa_cons (pe_ix (ix_tupK (K := K)) (pv 12) pe_int (fun _ _ => rfl)) pa_nil)))))
  (pss_cons (ps_for PassesOwn.never rfl (pi_list (pv 11)) (pg_name (i := 6) sc_law.nd rfl (.inl rfl))
    (pss_one (ps_if (pt_cmpR op_ne (pe_bm PySem.F.plainAttrs_list PySem.F.slot_list_count PySem.F.type_list_count (mt_countS (K := K)) (pv 11) (pa_cons (pv 6) pa_nil)) pe_int (nomark _)) (pss_one (ps_ret pe_bl)) pss_nil)))
  (pss_cons (ps_for PassesOwn.never rfl (pi_range1 (by rfl) T.range (pa_cons (pe_op (op_addU (K := K)) pe_int (pe_call F_l_draw (hr.mono (by decide)) (by rfl) m_l_draw k_l_draw b_l_draw .nil pass0 (pa_cons (pv 1) (pa_cons pe_int pa_nil)))) pa_nil)) (pg_name (i := 13) sc_law.nd rfl (.inl rfl))
    (pss_cons (ps_for PassesOwn.never rfl (pi_list (pv 8)) (pg_name (i := 14) sc_law.nd rfl (.inl rfl))
    (pss_one (ps_if (PW.pt (pw_or (pt_cmpR op_gt (pe_ix (ix_tupK (K := K)) (pv 14) pe_int (fun _ _ => rfl)) pe_int (nomark _)) (pw_or1 (pt_cmpR (op_eqU (K := K) hu40) (pe_call F_l_draw (hr.mono (by decide)) (by rfl) m_l_draw k_l_draw b_l_draw .nil pass0 (pa_cons (pv 1) (pa_cons pe_int pa_nil))) pe_int (nomark _))))) (pss_one (ps_if (pt_cmpR (op_inU (P := P) (w := w) (K := K) hu20) (pe_ix (ix_tupK (K := K)) (pe_ix (ix_tupK (K := K)) (pv 14) pe_int (fun _ _ => rfl)) pe_int (fun _ _ => rfl)) (pv 11) (by rfl)) (pss_one (ps_expr (pe_call F_l_do_flat (hr.mono (by decide)) (by rfl) m_l_do_flat k_l_do_flat b_l_do_flat .nil pass0 (pa_cons (pe_ix (ix_tupK (K := K)) (pv 14) pe_int (fun _ _ => rfl)) (pa_cons (pe_ix (ix_tupK (K := K)) (pv 14) pe_int (fun _ _ => rfl)) (pa_cons (pv 5) (pa_cons pe_int pa_nil))))))) pss_nil)) pss_nil)))
  (pss_cons (ps_dput hu (pv 7) pe_str (pe_op (op_addU (K := K)) (pv 13) pe_int) rfl)
  (pss_one (ps_for PassesOwn.never rfl (pi_tup (pv 4)) (pg_name (i := 12) sc_law.nd rfl (.inl rfl))
    (pss_one (ps_for PassesOwn.never rfl (pi_tup (pe_ix (ix_tupK (K := K)) (pv 12) pe_int (fun _ _ => rfl))) (pg_name (i := 6) sc_law.nd rfl (.inl rfl))
    (pss_one (ps_if (pt_cmpR op_gt (pe_dget hu (pv 5) (pv 6) (fun _ _ => rfl)) (pe_call F_l_total (hr.mono (by decide)) (by rfl) m_l_total k_l_total b_l_total .nil pass0 (pa_cons (pe_ix (ix_tupK (K := K)) (pv 12) pe_int (fun _ _ => rfl)) (pa_cons (pv 7) pa_nil))) (nomark _)) (pss_one (ps_ret pe_bl)) pss_nil)))))))))
  (pss_one (ps_ret pe_bl))))))))))))))), ?_⟩
    rw [show L2.start N_law [V.ref a] = [some (V.ref a), none, none, none, none, none, none, none, none, none, none, none, none, none, none] from rfl]
    (try dsimp only [cxOf, Cx.nox, Cx.wish])
    walk_at "h"
--B
    refine use_dice ha h63 fun p c H1 np D1 s1 => ?_
    walk_at "h"
    refine use_draw D1 (by decide) (by decide) fun r H2 r0 r1 D2 f2 => ?_
    walk_at "h"
    refine use_names D2 (by omega) (by omega) fun xs l0 H3 lx xok nl0 hl0 D3 f3 => ?_
    walk_at "h"
    refine rd_tupL (sql hl0) fun nt nnt => ?_
    have s4 : Same H3 (upd H3 nt (.tup (xs.map V.str))) := same_new nnt
    have hnt : SqT K (upd H3 nt (.tup (xs.map V.str))) nt (xs.map V.str) := sqt upd_same
    have ntp := (D3.new nnt).1
    generalize upd H3 nt (.tup (xs.map V.str)) = H4 at s4 hnt
    have D4 := D3.keep s4
    walk_at "h"
    refine use_draw D4 (by decide) (by decide) fun wd H5 _ _ D5 f5 => ?_
    have t5 : Tup K H4 H5 := f5.tup D4.lst.choose_spec
    walk_at "h"
    refine ⟨p, c, nt, xs, 6, 3, _, rfl, D5, .inr (t5 _ _ hnt), ntp, by omega, by omega, by decide, by decide, by decide, by decide, fun R fl H6 rok nfl kR D6 f6 => ?_⟩
    have t6 : Tup K H5 H6 := f6.tup D5.lst.choose_spec
    have hnt6 := t6 _ _ (t5 _ _ hnt)
    have flp : fl ≠ p := fun e => by rw [e, D5.lst.choose_spec] at nfl; cases nfl
    have lx3 : xs.length ≤ 3 := by omega
    have lR : R.length ≤ 6 := by have := rok.le; omega
    have bR : ∀ z ∈ R, z.ps.length ≤ 3 ∧ degP z.ps ≤ 2 ∧ ∀ q ∈ z.ps, 1 ≤ q.2 := fun z hz => by
      obtain ⟨_, h1, h2, h3⟩ := rok.row z hz
      have g1 := prod_len h3
      have g2 := deg_sum (ps := z.ps) fun q hq => (h3.nm q hq).2
      have g3 := h3.dg
      exact ⟨by omega, by omega, fun q hq => (h3.nm q hq).2⟩
    have rin : RowsIn R := ⟨by omega, fun z hz => by have := (bR z hz).1; omega⟩
    have rn : RowsN xs R := fun r hr => ⟨(rok.row r hr).1, fun q hq => ((rok.row r hr).2.2.2.nm q hq).1⟩
    have rb : RowsB xs R := ⟨rn, lR, fun z hz => ⟨(rok.row z hz).2.1, (rok.row z hz).2.2.1, (bR z hz).2.1, (bR z hz).2.2⟩⟩
    have so : xs.Pairwise SLt := strict_of (sorted_pw xok.2.2) xok.2.1
    have low : ∀ x ∈ xs, Low x := fun x hx => (xok.1 x hx).2.2
    have ndR : ∀ z ∈ R, (z.ps.map (·.1)).Nodup := fun z hz => (rok.row z hz).2.2.2.nd
    have ndx := xok.2.1
    walk_at "h"
    refine ⟨nt, fl, xs, R, rfl, hnt6, kR, rin, rb, so, low, lx3, fun t L A H7 ht eL eo PA s7 => ?_⟩
    have D7 := D6.keep s7
    have kR7 := kR.keep (same_tup (K := K) s7)
    have hnt7 := same_tup (K := K) s7 _ _ hnt6
    have lcl : (calmL R xs).length ≤ 3 := Nat.le_trans (calm_len rn) lx3
    clear f2 f3 f5 f6 D1 D2 D3 D4 D5 D6 hl0 s1 s4 hnt t5 t6 hnt6 kR s7 nfl nnt nl0 np r0 r1 rok xok
    obtain ⟨dl, hdl⟩ := D7.lst
    walk_at "h"
    intro nd nnd
    obtain ⟨ndp, ndc⟩ := D7.new nnd
    have s8 : Same H7 (upd H7 nd (.dK [])) := same_new nnd
    have hnd : (upd H7 nd (.dK [])) nd = some (.dK (tabV [])) := upd_same
    generalize upd H7 nd (.dK []) = H8 at s8 hnd
    walk_at "h"
    refine rd_leafT (same_tup s8 _ _ hnt7) ?_
    refine for_tup (xs := xs.map V.str) (fun i σ H' => ∃ (N : Tab) (v6 : Option V), σ = [some (V.ref a), some (V.ref p), some (V.ref nt), some (V.ref fl), some (V.ref t), some (V.ref nd), v6, none, none, none, none, none, none, none, none] ∧ H' nd = some (.dK (tabV N)) ∧ N.length ≤ i ∧ (∀ x ∈ xs.take i, ∃ n, tget N x = some n ∧ 1 ≤ n ∧ n ≤ 4) ∧ DiceAt H' p c ∧ HH.Fr p H7 H')
      ⟨[], _, rfl, hnd, Nat.le_refl _, by simp, D7.keep s8, Fr.of s8⟩ (fun i σ H' _ ⟨_, _, _, _, _, _, _, f⟩ => f.tup hdl _ _ hnt7) ?_ ?_
    · rintro i x σ H9 hx ⟨N, v6, rfl, hN, lN, aN, D9, f9⟩
      have hi : i < xs.length := by
        have := (List.getElem?_eq_some_iff.mp hx).1
        simpa using this
      rw [List.getElem?_map, List.getElem?_eq_getElem hi] at hx
      obtain rfl := Option.some.inj hx
      walk_at "h"
      refine use_draw D9 (by decide) (by decide) fun v H10 v0 v1 D10 f10 => ?_
      have hN10 := f10 _ _ ndp hN
      walk_at "h"
      refine rd_dputT hN10 (by omega) fun H' hd' e' => ?_
      refine ⟨_, _, rfl, hd', by have := tput_len N xs[i] (1 + v); omega, fun y hy => ?_, D10.oth ndp ndc e', fun b o hb e => by rw [e' b (fun z => by rw [z, nnd] at e; cases e)]; exact f10 b o hb (f9 b o hb e)⟩
      rw [tget_put]
      split
      · exact ⟨_, rfl, by omega, by omega⟩
      · rename_i ne
        rw [List.take_add_one, List.getElem?_eq_getElem hi, Option.toList_some] at hy
        rcases List.mem_append.mp hy with z | z
        · exact aN y z
        · exact absurd (List.mem_singleton.mp z) ne
    rintro σ H9 ⟨N0, v6, rfl, hN9, lN0, aN0, D9, f9⟩
    rw [List.length_map] at lN0 aN0
    rw [List.take_length] at aN0
    obtain ⟨b, hb⟩ : ∃ b : Str → Int, b = fun z => (tget N0 z).getD 0 := ⟨_, rfl⟩
    have bN : ∀ x ∈ xs, tget N0 x = some (b x) ∧ 1 ≤ b x ∧ b x ≤ 4 := fun x hx => by
      obtain ⟨n, e, h1, h2⟩ := aN0 x hx
      rw [hb]
      dsimp only
      rw [e]
      exact ⟨rfl, h1, h2⟩
    have C : Ctx xs R A b := ⟨rb, PA, ⟨fun x hx => ⟨(bN x hx).2.1, (bN x hx).2.2, fun e => by
      have := low x hx 35 (by rw [e]; decide)
      omega⟩⟩, lcl⟩
    clear hb aN0
    walk_at "h"
    refine ⟨nd, _, rfl, .inl hN9, fun bd nbd => ?_⟩
    obtain ⟨bdp, bdc⟩ := D9.new nbd
    have ndb : nd ≠ bd := ne_of_none hN9 nbd
    have s10 : Same H9 (upd H9 bd (.dK (tabV N0))) := same_new nbd
    have hb10 : (upd H9 bd (.dK (tabV N0))) bd = some (.dK (tabV N0)) := upd_same
    generalize upd H9 bd (.dK (tabV N0)) = H10 at s10 hb10
    have hN10 := s10 _ _ hN9
    have D10 := D9.keep s10
    have f10 : HH.Fr p H7 H10 := f9.trans (Fr.of s10)
    have nbd7 : H7 bd = none := f9.back bdp nbd
    clear f9 D9 hN9 nbd
    walk_at "h"
    refine ⟨Nat.zero_le _, fun ll nll => ?_⟩
    obtain ⟨llp, llc⟩ := D10.new nll
    have s11 : Same H10 (upd H10 ll (.lst [])) := same_new nll
    have hl11 : (upd H10 ll (.lst [])) ll = some (.lst []) := upd_same
    have ndl : nd ≠ ll := ne_of_none hN10 nll
    have bdl : bd ≠ ll := ne_of_none hb10 nll
    have nll7 : H7 ll = none := f10.back llp nll
    generalize upd H10 ll (.lst []) = H11 at s11 hl11
    have hN11 := s11 _ _ hN10
    have hb11 := s11 _ _ hb10
    have D11 := D10.keep s11
    have f11 : HH.Fr p H7 H11 := f10.trans (Fr.of s11)
    clear f10 D10 hN10 hb10
    obtain ⟨_, vR, ea, sR, tR, nR⟩ := rows_at kR7
    obtain rfl := V.ref.inj ea
    walk_at "h"
    refine ⟨p, c, fl, vR, rfl, D11, .inr (f11.tup hdl _ _ sR), flp, by omega, fun ys lo H12 pmy nlo hlo D12 f12 => ?_⟩
    refine ⟨_, rfl, ⟨_, sql hlo⟩, ?_⟩
    have eZ : vR = (R.zip vR).map (·.2) := by rw [List.map_snd_zip (by omega)]
    rw [eZ] at pmy
    obtain ⟨ZL, rfl, pZ⟩ := perm_map_inv pmy rfl
    have kZ : ∀ z ∈ ZL, IsK K H7 (rowK z.1) z.2 := fun z hz => by
      have hz2 := pZ.mem_iff.mp hz
      obtain ⟨j, hj⟩ := List.mem_iff_getElem?.mp hz2
      obtain ⟨j1, j2⟩ := List.getElem?_zip_eq_some.mp hj
      obtain ⟨x', ex, kx⟩ := IsKs.get (i := j) (k := rowK z.1) tR (by rw [List.getElem?_map, j1]; rfl)
      obtain rfl : z.2 = x' := Option.some.inj (j2.symm.trans ex)
      exact kx
    have pR : (ZL.map (·.1)).Perm R := by
      have := pZ.map (·.1)
      rwa [List.map_fst_zip (by omega)] at this
    have lZ : ZL.length ≤ 6 := by
      have := pR.length_eq
      rw [List.length_map] at this
      omega
    have hN12 := f12 _ _ ndp hN11
    have hb12 := f12 _ _ bdp hb11
    have hl12 := f12 _ _ llp hl11
    have f712 := f11.trans f12
    have lop : lo ≠ p := fun e => by rw [e, D11.lst.choose_spec] at nlo; cases nlo
    have loll : lo ≠ ll := fun e => by rw [e, hl11] at nlo; cases nlo
    clear hN11 hb11 hl11 f11 D11 s11 s10
    refine for_list (xs := ZL.map (·.2)) (fun i σ H' => ∃ (M : List It1) (v9 v10 : Option V), σ = [some (V.ref a), some (V.ref p), some (V.ref nt), some (V.ref fl), some (V.ref t), some (V.ref nd), v6, some (V.ref bd), some (V.ref ll), v9, v10, none, none, none, none] ∧ H' ll = some (.lst (M.map fun e => V.ref e.ta)) ∧ M.map (·.r) = (ZL.take i).map (·.1) ∧ (∀ e ∈ M, ItOk K H' e) ∧
      H' nd = some (.dK (tabV N0)) ∧ H' bd = some (.dK (tabV N0)) ∧ H' lo = some (.lst (ZL.map (·.2))) ∧ DiceAt H' p c ∧ HH.Fr p H7 H')
      ⟨[], _, _, rfl, hl12, rfl, by simp, hN12, hb12, hlo, D12, f712⟩ (fun i σ H' _ ⟨_, _, _, _, _, _, _, _, _, h, _⟩ => sql h) ?_ ?_
    · rintro i x σ H13 hx ⟨M, v9, v10, rfl, hM, eM, oM, hN13, hb13, hlo13, D13, f13⟩
      have hi : i < ZL.length := by
        have := (List.getElem?_eq_some_iff.mp hx).1
        simpa using this
      rw [List.getElem?_map, List.getElem?_eq_getElem hi] at hx
      obtain rfl := Option.some.inj hx
      have kz := kZ _ (List.getElem_mem hi)
      have nM : (ZL.take (i + 1)).map (·.1) = (ZL.take i).map (·.1) ++ [ZL[i].1] := by
        rw [List.take_add_one, List.getElem?_eq_getElem hi, Option.toList_some, List.map_append]
        rfl
      have rR : ZL[i].1 ∈ R := pR.mem_iff.mp (List.mem_map_of_mem (List.getElem_mem hi))
      generalize ZL[i] = z at kz nM rR
      obtain ⟨rr, vv⟩ := z
      replace kz : IsK K H7 (rowK rr) vv := kz
      replace nM : (ZL.take (i + 1)).map (·.1) = (ZL.take i).map (·.1) ++ [rr] := nM
      replace rR : rr ∈ R := rR
      obtain ⟨ra, pa, rfl, sr, kp⟩ := row_at kz
      obtain ⟨_, ws, ep, sp, kws, nws⟩ := prod_at kp
      obtain rfl := V.ref.inj ep
      have lps := (bR _ rR).1
      have lM : M.length = i := by
        have := congrArg List.length eM
        rw [List.length_map, List.length_map, List.length_take] at this
        omega
      walk_at "h"
      refine rd_cut (fun σ' H' => ∃ inn : V, σ' = [some (V.ref a), some (V.ref p), some (V.ref nt), some (V.ref fl), some (V.ref t), some (V.ref nd), v6, some (V.ref bd), some (V.ref ll), some (V.ref ra), some inn, none, none, none, none] ∧ (inn = .non ∨ ∃ z, inn = .str z ∧ rr.add = true ∧ z ∈ rr.ps.map (·.1)) ∧ DiceAt H' p c ∧ HH.Fr p H13 H') ?_ ?_
      · walk_at "h"
        refine rd_ixt (f13.tup hdl _ _ sr) (atI_nat (j := 0) rfl) ?_
        walk_at "h"
        rw [word_add]
        refine ite2 (fun ca => ?_) (fun ca => ?_)
        · walk_at "h"
          refine rd_ixt (f13.tup hdl _ _ sr) (atI_nat (j := 3) rfl) ?_
          walk_at "h"
          refine rd_lenA (.inr (f13.tup hdl _ _ sp)) ?_
          walk_at "h"
          refine ite2 (fun cl => ?_) (fun cl => ?_)
          · have cl' : 0 < ws.length := by
              have := of_decide_eq_true cl
              omega
            walk_at "h"
            refine use_draw D13 (by decide) (by decide) fun w1 H14 _ _ D14 f14 => ?_
            have f714 := f13.trans f14
            walk_at "h"
            refine ite2 (fun cw => ?_) (fun cw => ?_)
            · walk_at "h"
              refine rd_ixt (f714.tup hdl _ _ sr) (atI_nat (j := 3) rfl) ?_
              walk_at "h"
              refine rd_ixt (f714.tup hdl _ _ sr) (atI_nat (j := 3) rfl) ?_
              walk_at "h"
              refine rd_lenA (.inr (f714.tup hdl _ _ sp)) ?_
              walk_at "h"
              refine use_draw D14 (by omega) (by omega) fun w2 H15 w0 w3 D15 f15 => ?_
              have f715 := f714.trans f15
              have hw : w2.toNat < ws.length := by omega
              refine rd_ixt (f715.tup hdl _ _ sp) (ix_at w0 hw) ?_
              have hj : w2.toNat < rr.ps.length := by omega
              obtain ⟨qa, eq, sq⟩ := pair_get kws hj (List.getElem?_eq_getElem hw)
              rw [eq]
              refine rd_ixt (f715.tup hdl _ _ sq) (atI_nat (j := 0) rfl) ?_
              walk_at "h"
              exact ⟨_, rfl, .inr ⟨_, rfl, ca, List.mem_map_of_mem (List.getElem_mem hj)⟩, D15, f14.trans f15⟩
            · walk_at "h"
              exact ⟨_, rfl, .inl rfl, D14, f14⟩
          · walk_at "h"
            exact ⟨_, rfl, .inl rfl, D13, Fr.refl _ _⟩
        · walk_at "h"
          exact ⟨_, rfl, .inl rfl, D13, Fr.refl _ _⟩
      · rintro σ' H14 ⟨inn, rfl, oin, D14, f14⟩
        have hM14 := f14 _ _ llp hM
        walk_at "h"
        refine ⟨.inl ⟨rfl, _, sql hM14⟩, ?_⟩
        walk_at "h"
        refine use_draw D14 (by decide) (by decide) fun w4 H15 _ _ D15 f15 => ?_
        have f1315 := f14.trans f15
        have f715 := f13.trans f1315
        have t1315 : Tup K H13 H15 := f1315.tup D13.lst.choose_spec
        refine ⟨sz_le (by simp only [List.length_cons, List.length_nil]; omega), fun u nu => ?_⟩
        have s16 : Same H15 (upd H15 u (.tup [.ref ra, inn, .int w4])) := same_new nu
        have hu16 : (upd H15 u (.tup [.ref ra, inn, .int w4])) u = some (.tup [.ref ra, inn, .int w4]) := upd_same
        generalize upd H15 u (.tup [.ref ra, inn, .int w4]) = H16 at s16 hu16
        have hM16 := s16 _ _ (f1315 _ _ llp hM)
        have t1316 := t1315.trans (same_tup (K := K) s16)
        have t716 : Tup K H7 H16 := (f715.tup hdl).trans (same_tup s16)
        walk_at "h"
        refine rd_app hM16 (by rw [List.length_map]; exact sz_lt (by omega)) ?_
        walk_at "h"
        have tw : Tup K H16 (upd H16 ll (.lst (M.map (fun e => V.ref e.ta) ++ [V.ref u]))) := tup_upd hM16 (fun _ z => nomatch z) (fun _ _ z => nomatch z)
        refine ⟨M ++ [⟨u, ra, rr, inn, w4⟩], _, _, rfl, by rw [upd_same, List.map_append]; rfl, by rw [nM, List.map_append, eM]; rfl, fun e he => ?_, by rw [upd_ne ndl]; exact s16 _ _ (f1315 _ _ ndp hN13), by rw [upd_ne bdl]; exact s16 _ _ (f1315 _ _ bdp hb13), by rw [upd_ne loll]; exact s16 _ _ (f1315 _ _ lop hlo13), (D15.keep s16).mut llp llc, (f715.trans (Fr.of s16)).mut nll7⟩
        rcases List.mem_append.mp he with y | y
        · exact (oM e y).keep (t1316.trans tw)
        · rw [List.mem_singleton.mp y]
          exact ⟨tw _ _ (sqt hu16), (kz.keep t716).keep tw, oin⟩
    rintro σ H13 ⟨M, v9, v10, rfl, hM, eM, oM, hN13, hb13, _, D13, f13⟩
    rw [List.length_map, List.take_length] at eM
    have pM : (M.map (·.r)).Perm R := by rw [eM]; exact pR
    have lM : M.length ≤ 6 := by
      have := pM.length_eq
      rw [List.length_map] at this
      omega
    clear hlo hN12 hb12 hl12 f712 D12 f12
    walk_at "h"
    refine ⟨Nat.zero_le _, fun pl npl => ?_⟩
    obtain ⟨plp, plc⟩ := D13.new npl
    have ndpl : nd ≠ pl := ne_of_none hN13 npl
    have bdpl : bd ≠ pl := ne_of_none hb13 npl
    have llpl : ll ≠ pl := ne_of_none hM npl
    have npl7 : H7 pl = none := f13.back plp npl
    have s14 : Same H13 (upd H13 pl (.lst [])) := same_new npl
    have hp14 : (upd H13 pl (.lst [])) pl = some (.lst []) := upd_same
    generalize upd H13 pl (.lst []) = H14 at s14 hp14
    have lL : L.length = (calmL R xs).length := by rw [← eL, List.length_map]
    have f14 : HH.Fr p H7 H14 := f13.trans (Fr.of s14)
    have oM14 : ∀ e ∈ M, ItOk K H14 e := fun e he => (oM e he).keep (same_tup s14)
    have hM14 := s14 _ _ hM
    have hN14 := s14 _ _ hN13
    have hb14 := s14 _ _ hb13
    have D14 := D13.keep s14
    clear hM hN13 hb13 D13 oM
    walk_at "h"
    refine rd_leafT (f14.tup hdl _ _ ht) ?_
    refine for_tup (xs := L.map fun e => V.ref e.pa) (fun i σ H' => ∃ v12 : Option V, σ = [some (V.ref a), some (V.ref p), some (V.ref nt), some (V.ref fl), some (V.ref t), some (V.ref nd), v6, some (V.ref bd), some (V.ref ll), v9, v10, some (V.ref pl), v12, none, none] ∧ H' pl = some (.lst ((((L.take i).map (·.p)).flatten).map V.str)) ∧ HH.Fr pl H14 H')
      ⟨_, rfl, hp14, Fr.refl _ _⟩ (fun i σ H' _ ⟨_, _, _, f⟩ => (f14.tup hdl).trans (f.tup hp14) _ _ ht) ?_ ?_
    · rintro i x σ H15 hx ⟨v12, rfl, hp15, f15⟩
      have hi : i < L.length := by
        have := (List.getElem?_eq_some_iff.mp hx).1
        simpa using this
      rw [List.getElem?_map, List.getElem?_eq_getElem hi] at hx
      obtain rfl := Option.some.inj hx
      have f715 : HH.Fr p H7 H15 := fr_via f14 f15 npl7
      have em := eo _ (List.getElem_mem hi)
      have e15 := em.frL f715 hdl
      have pin : L[i].p ∈ calmL R xs := by rw [← eL]; exact List.mem_map_of_mem (List.getElem_mem hi)
      have nx : ((L.take (i + 1)).map (·.p)).flatten = ((L.take i).map (·.p)).flatten ++ L[i].p := by
        rw [List.take_add_one, List.getElem?_eq_getElem hi, Option.toList_some, List.map_append, List.flatten_append]
        simp
      have l1 : (((L.take i).map (·.p)).flatten).length ≤ 30 := by
        have h1 := flat_len (L := (L.take i).map (·.p)) (n := 3) fun z hz => by
          obtain ⟨e, he, rfl⟩ := List.mem_map.mp hz
          refine Nat.le_trans (calm_sub rn (p := e.p) ?_).2 lx3
          rw [← eL]; exact List.mem_map_of_mem (List.mem_of_mem_take he)
        rw [List.length_map, List.length_take] at h1
        have : min i L.length * 3 ≤ 3 * 3 := Nat.mul_le_mul_right 3 (by omega)
        omega
      have l2 := Nat.le_trans (calm_sub rn pin).2 lx3
      walk_at "h"
      refine ⟨.inl ⟨rfl, _, sql hp15⟩, ?_⟩
      walk_at "h"
      refine rd_ixt e15.pr (atI_nat (j := 0) rfl) ?_
      walk_at "h"
      refine ⟨pl, L[i].qa, _, _, rfl, rfl, hp15, e15.zt, sz_le (by rw [List.length_map, List.length_map]; omega), ?_⟩
      rw [← List.map_append, ← nx]
      walk_at "h"
      exact ⟨_, rfl, upd_same, fr_mut f15⟩
    rintro σ H15 ⟨v12, rfl, hp15, f15⟩
    rw [List.length_map, List.take_length, eL] at hp15
    have f715 : HH.Fr p H7 H15 := fr_via f14 f15 npl7
    have hM15 := f15 _ _ llpl hM14
    have hN15 := f15 _ _ ndpl hN14
    have hb15 := f15 _ _ bdpl hb14
    have D15 := D14.fr plp.symm plc.symm f15
    have oM15 : ∀ e ∈ M, ItOk K H15 e := fun e he => (oM14 e he).keep (f15.tup hp14)
    have ndf := calm_nodup rn ndx
    clear hM14 hN14 hb14 D14 oM14 f15 f14 hp14 s14 f13
    walk_at "h"
    refine ⟨_, rfl, ⟨_, sql hp15⟩, ?_⟩
    refine for_list (xs := ((calmL R xs).flatten).map V.str) (fun i σ H' => ∃ v6 : Option V, σ = [some (V.ref a), some (V.ref p), some (V.ref nt), some (V.ref fl), some (V.ref t), some (V.ref nd), v6, some (V.ref bd), some (V.ref ll), v9, v10, some (V.ref pl), v12, none, none] ∧ H' = H15)
      ⟨_, rfl, rfl⟩ (fun i σ H' _ ⟨_, _, e⟩ => by rw [e]; exact sql hp15) ?_ ?_
    · rintro i x σ H16 hx ⟨v6, rfl, rfl⟩
      have hi : i < ((calmL R xs).flatten).length := by
        have := (List.getElem?_eq_some_iff.mp hx).1
        rwa [List.length_map] at this
      rw [List.getElem?_map, List.getElem?_eq_getElem hi] at hx
      obtain rfl := Option.some.inj hx
      walk_at "h"
      refine ⟨.inl ⟨rfl, _, sql hp15⟩, ?_⟩
      walk_at "h"
      refine ⟨pl, _, _, rfl, rfl, sql hp15, ?_⟩
      rw [count_one ndf (List.getElem_mem hi)]
      walk_at "h"
      exact ⟨_, rfl, rfl⟩
    rintro σ H16 ⟨v6, rfl, e16⟩
    rw [e16]
    clear e16 H16
    walk_at "h"
    refine use_draw D15 (by decide) (by decide) fun kk H16 kk0 kk1 D16 f16 => ?_
    walk_at "h"
    refine rd_leafR (by omega) (by omega) ?_
    have t16 : Tup K H15 H16 := f16.tup D15.lst.choose_spec
    refine for_range (fun k σ H' => ∃ (N Mb : Tab) (v6 v12 v13 v14 : Option V), σ = [some (V.ref a), some (V.ref p), some (V.ref nt), some (V.ref fl), some (V.ref t), some (V.ref nd), v6, some (V.ref bd), some (V.ref ll), v9, v10, some (V.ref pl), v12, v13, v14] ∧ H' nd = some (.dK (tabV N)) ∧ N.length ≤ 3 ∧ (∀ x ∈ xs, ∃ n, tget N x = some n ∧ 1 ≤ n ∧ n ≤ 10 ^ 14) ∧
      (∀ (i : Nat) (p : List Str), (calmL R xs)[i]? = some p → ∀ x ∈ p, ∀ n, tget N x = some n → n ≤ UU xs A b (k : Nat) x) ∧ H' bd = some (.dK (tabV Mb)) ∧ Mb.length ≤ 10 + k ∧ (∀ x ∈ xs, tget Mb x = some (b x)) ∧ H' ll = some (.lst (M.map fun e => V.ref e.ta)) ∧ (∀ e ∈ M, ItOk K H' e) ∧ H' pl = some (.lst (((calmL R xs).flatten).map V.str)) ∧ DiceAt H' p c ∧ HH.Fr p H7 H')
      ⟨N0, N0, _, _, _, _, rfl, f16 _ _ ndp hN15, by omega, fun x hx => ⟨b x, (bN x hx).1, (bN x hx).2.1, by have := (bN x hx).2.2; omega⟩, fun i p hp x hx n hn => ?_, f16 _ _ bdp hb15, by omega, fun x hx => (bN x hx).1, f16 _ _ llp hM15, fun e he => (oM15 e he).keep t16, f16 _ _ plp hp15, D16, f715.trans f16⟩ ?_ ?_
    · -- the beginning
      have xin := (calm_sub rn (List.mem_of_getElem? hp)).1 x hx
      rw [(bN x xin).1] at hn
      obtain rfl := Option.some.inj hn
      rw [C.full hp hx]
      have h1 := sum_mem2 (f := b) (l := p) (fun y hy => by have := (bN y ((calm_sub rn (List.mem_of_getElem? hp)).1 y hy)).2.1; omega) x hx
      have h2 : 0 ≤ ((R.filter (raisR p)).map fun r => (if r.add = true then (((0 : Nat) : Int)) else 1) * (r.co * wprod (UU xs A b ((0 : Nat) : Int)) r.ps)).sum := sum_nn2 fun r hr => by
        obtain ⟨g1, g2⟩ := List.mem_filter.mp hr
        exact Int.mul_nonneg (by split <;> simp) (C.term_nn hp g1 g2 (by simp))
      omega
    · rintro k σ H17 hk ⟨N, Mb, v6, v12, v13, v14, rfl, hN17, lN, aN, bU, hb17, lMb, aMb, hM17, oM17, hp17, D17, f17⟩
      have k2 : k ≤ 2 := by omega
      walk_at "h"
      refine ⟨_, rfl, ⟨_, sql hM17⟩, ?_⟩
      refine for_list (xs := M.map fun e => V.ref e.ta) (fun j σ H' => ∃ (N : Tab) (v14 : Option V), σ = [some (V.ref a), some (V.ref p), some (V.ref nt), some (V.ref fl), some (V.ref t), some (V.ref nd), v6, some (V.ref bd), some (V.ref ll), v9, v10, some (V.ref pl), v12, some (V.int (0 + (k : Nat))), v14] ∧ H' nd = some (.dK (tabV N)) ∧ N.length ≤ 3 ∧ RI xs R A b (k : Nat) N ((M.take j).map (·.r)) ∧
        H' bd = some (.dK (tabV Mb)) ∧ H' ll = some (.lst (M.map fun e => V.ref e.ta)) ∧ (∀ e ∈ M, ItOk K H' e) ∧ H' pl = some (.lst (((calmL R xs).flatten).map V.str)) ∧ DiceAt H' p c ∧ HH.Fr p H7 H')
        ⟨N, _, rfl, hN17, lN, ⟨aN, fun i p hp x hx n hn => ?_⟩, hb17, hM17, oM17, hp17, D17, f17⟩ (fun j σ H' _ ⟨_, _, _, _, _, _, _, h, _⟩ => sql h) ?_ ?_
      · have h1 := bU i p hp x hx n hn
        have h2 := C.begin hp hx (k := (k : Nat)) (by omega)
        show n ≤ Mp xs R A b (k : Nat) p + 0
        omega
      · rintro j x σ H18 hx ⟨N, v14, rfl, hN18, lN, RI1, hb18, hM18, oM18, hp18, D18, f18⟩
        have hj : j < M.length := by
          have := (List.getElem?_eq_some_iff.mp hx).1
          simpa using this
        rw [List.getElem?_map, List.getElem?_eq_getElem hj] at hx
        obtain rfl := Option.some.inj hx
        have em := oM18 _ (List.getElem_mem hj)
        have nx : (M.take (j + 1)).map (·.r) = (M.take j).map (·.r) ++ [M[j].r] := by
          rw [List.take_add_one, List.getElem?_eq_getElem hj, Option.toList_some, List.map_append]
          rfl
        have pj : (((M.take j).map (·.r) ++ [M[j].r]) ++ (M.drop (j + 1)).map (·.r)).Perm R := by
          rw [← nx, ← List.map_append, List.take_append_drop]
          exact pM
        have rR : M[j].r ∈ R := pM.mem_iff.mp (List.mem_map_of_mem (List.getElem_mem hj))
        rw [nx]
        generalize M[j] = e at em pj rR
        have skp := C.skip (k := (k : Nat)) (by omega) RI1 rR
        -- the row is done
        have doit : ∀ (H19 : Hp), H19 nd = some (.dK (tabV N)) → H19 bd = some (.dK (tabV Mb)) → H19 ll = some (.lst (M.map fun e => V.ref e.ta)) → (∀ e ∈ M, ItOk K H19 e) → H19 pl = some (.lst (((calmL R xs).flatten).map V.str)) → DiceAt H19 p c → HH.Fr p H7 H19 → ItOk K H19 e → e.r.nm ∈ (calmL R xs).flatten →
            ∀ (Q2 : VK) (E2 : XK), (∀ (N2 : Tab) (H20 : Hp), H20 nd = some (.dK (tabV N2)) → N2.length ≤ 3 → RI xs R A b (k : Nat) N2 ((M.take j).map (·.r) ++ [e.r]) → H20 bd = some (.dK (tabV Mb)) → H20 ll = some (.lst (M.map fun e => V.ref e.ta)) → (∀ e ∈ M, ItOk K H20 e) → H20 pl = some (.lst (((calmL R xs).flatten).map V.str)) → DiceAt H20 p c → HH.Fr p H7 H20 → Q2 .non H20) → spDo K [.ref e.ra, e.inn, .ref nd, .int 40] H19 Q2 E2 := by
          intro H19 hN hb' hM' oM' hp' D' f' oe inpl Q2 E2 q2
          obtain ⟨pp, hpp, hx⟩ := List.mem_flatten.mp inpl
          obtain ⟨i, hi⟩ := List.mem_iff_getElem?.mp hpp
          obtain ⟨n, en, n1, n2⟩ := RI1.al e.r.nm (rn e.r rR).1
          obtain ⟨c1, c2, dg, pw⟩ := rb.row e.r rR
          refine ⟨e.ra, nd, e.inn, e.r, N, n, rfl, oe.ro, hN, by omega, en, n1, n2, fun q hq => ⟨pw q hq, RI1.al q.1 ((rn e.r rR).2 q hq)⟩, dg, ndR _ rR, by have := (bR _ rR).1; omega, c1, c2, C.own hi rR hx, oe.nn, fun v N' H20 w1 w2 tN lN' hN20 f20 => ?_⟩
          have tp : Tup K H19 H20 := fr_tupD f20 hN
          exact q2 N' H20 hN20 (by omega) (C.step (by omega) (by omega) RI1 pj hi hx en w1 w2 tN) (f20 _ _ ndb.symm hb') (f20 _ _ ndl.symm hM') (fun e he => (oM' e he).keep tp) (f20 _ _ ndpl.symm hp') (D'.fr ndp.symm ndc.symm f20) (fr_via f' f20 nnd)
        walk_at "h"
        refine rd_ixt em.tp (atI_nat (j := 2) rfl) ?_
        walk_at "h"
        refine ite2 (fun cn => ?_) (fun cn => ?_)
        · walk_at "h"
          refine rd_ixt em.tp (atI_nat (j := 0) rfl) ?_
          walk_at "h"
          obtain ⟨_, pa, ea, sr, kp⟩ := row_at em.ro
          obtain rfl := V.ref.inj ea
          refine rd_ixt sr (atI_nat (j := 1) rfl) ?_
          walk_at "h"
          refine rd_inA (.inl (sql hp18)) ?_
          walk_at "h"
          refine ite2 (fun ci => ?_) (fun ci => ?_)
          · walk_at "h"
            refine rd_ixt em.tp (atI_nat (j := 0) rfl) ?_
            walk_at "h"
            refine rd_ixt em.tp (atI_nat (j := 1) rfl) ?_
            walk_at "h"
            refine doit H18 hN18 hb18 hM18 oM18 hp18 D18 f18 em (of_decide_eq_true ci) _ _ fun N2 H20 a1 a2 a3 a4 a5 a6 a7 a8 a9 => ?_
            walk_at "h"
            exact ⟨N2, _, rfl, a1, a2, a3, a4, a5, a6, a7, a8, a9⟩
          · walk_at "h"
            exact ⟨N, _, rfl, hN18, lN, skp, hb18, hM18, oM18, hp18, D18, f18⟩
        · walk_at "h"
          refine use_draw D18 (by decide) (by decide) fun w5 H19 _ _ D19 f19 => ?_
          have t19 : Tup K H18 H19 := f19.tup D18.lst.choose_spec
          have em19 := em.keep t19
          have hp19 := f19 _ _ plp hp18
          have hN19 := f19 _ _ ndp hN18
          have hb19 := f19 _ _ bdp hb18
          have hM19 := f19 _ _ llp hM18
          have oM19 : ∀ e ∈ M, ItOk K H19 e := fun e he => (oM18 e he).keep t19
          have f719 := f18.trans f19
          walk_at "h"
          refine ite2 (fun cw => ?_) (fun cw => ?_)
          · walk_at "h"
            refine rd_ixt em19.tp (atI_nat (j := 0) rfl) ?_
            walk_at "h"
            obtain ⟨_, pa, ea, sr, kp⟩ := row_at em19.ro
            obtain rfl := V.ref.inj ea
            refine rd_ixt sr (atI_nat (j := 1) rfl) ?_
            walk_at "h"
            refine rd_inA (.inl (sql hp19)) ?_
            walk_at "h"
            refine ite2 (fun ci => ?_) (fun ci => ?_)
            · walk_at "h"
              refine rd_ixt em19.tp (atI_nat (j := 0) rfl) ?_
              walk_at "h"
              refine rd_ixt em19.tp (atI_nat (j := 1) rfl) ?_
              walk_at "h"
              refine doit H19 hN19 hb19 hM19 oM19 hp19 D19 f719 em19 (of_decide_eq_true ci) _ _ fun N2 H20 a1 a2 a3 a4 a5 a6 a7 a8 a9 => ?_
              walk_at "h"
              exact ⟨N2, _, rfl, a1, a2, a3, a4, a5, a6, a7, a8, a9⟩
            · walk_at "h"
              exact ⟨N, _, rfl, hN19, lN, skp, hb19, hM19, oM19, hp19, D19, f719⟩
          · walk_at "h"
            exact ⟨N, _, rfl, hN19, lN, skp, hb19, hM19, oM19, hp19, D19, f719⟩
      · rintro σ H18 ⟨N, v14, rfl, hN18, lN, RI1, hb18, hM18, oM18, hp18, D18, f18⟩
        rw [List.length_map, List.take_length] at RI1
        have bU2 : ∀ (i : Nat) (p : List Str), (calmL R xs)[i]? = some p → ∀ x ∈ p, ∀ n, tget N x = some n → n ≤ UU xs A b ((k : Nat) + 1) x := fun i p hp x hx n hn =>
          Int.le_trans (RI1.bd i p hp x hx n hn) (C.part hp hx (by omega) (rest := []) (by rw [List.append_nil]; exact pM))
        walk_at "h"
        refine rd_dputT hb18 (by omega) fun H19 hb19 e19 => ?_
        rw [show (0 + ((k : Nat) : Int) + 1) = ((k + 1 : Nat) : Int) by omega] at hb19
        have aMb2 : ∀ x ∈ xs, tget (tput Mb "#" ((k + 1 : Nat) : Int)) x = some (b x) := fun x hx => by
          rw [tget_put, if_neg (C.hb.ge x hx).2.2]
          exact aMb x hx
        have aMb0 : tget (tput Mb "#" ((k + 1 : Nat) : Int)) "#" = some ((k + 1 : Nat) : Int) := by rw [tget_put, if_pos rfl]
        have lMb2 : (tput Mb "#" ((k + 1 : Nat) : Int)).length ≤ 10 + (k + 1) := by have := tput_len Mb "#" ((k + 1 : Nat) : Int); omega
        have hN19 : H19 nd = some (.dK (tabV N)) := by rw [e19 _ ndb]; exact hN18
        have fb : HH.Fr bd H18 H19 := fun b o hb e => by rw [e19 b hb]; exact e
        have tp19 : Tup K H18 H19 := fr_tupD fb hb18
        have f719 : HH.Fr p H7 H19 := fr_via f18 fb nbd7
        have hM19 := fb _ _ bdl.symm hM18
        have hp19 := fb _ _ bdpl.symm hp18
        have D19 := D18.fr bdp.symm bdc.symm fb
        have oM19 : ∀ e ∈ M, ItOk K H19 e := fun e he => (oM18 e he).keep tp19
        generalize tput Mb "#" ((k + 1 : Nat) : Int) = Mc at hb19 aMb2 aMb0 lMb2
        clear hb18 e19 hN18 hM18 hp18 D18 oM18 hN17 hb17 hM17 oM17 hp17 D17 f17 f18
        have evE : ∀ m : Pl, ev (Zs xs) (fun z => (tget Mc z).getD 0) m = ev (Zs xs) (vk b ((k : Nat) + 1)) m := fun m => by
          unfold ev
          congr 1
          refine List.map_congr_left fun z hz => ?_
          unfold vk
          rcases List.mem_cons.mp hz with y | y
          · rw [y, if_pos rfl, aMb0]; simp
          · rw [if_neg (C.hb.ge z y).2.2, aMb2 z y]; rfl
        walk_at "h"
        refine rd_leafT (f719.tup hdl _ _ ht) ?_
        refine for_tup (xs := L.map fun e => V.ref e.pa) (fun i σ H' => ∃ v6 v12 : Option V, σ = [some (V.ref a), some (V.ref p), some (V.ref nt), some (V.ref fl), some (V.ref t), some (V.ref nd), v6, some (V.ref bd), some (V.ref ll), v9, v10, some (V.ref pl), v12, some (V.int (0 + (k : Nat))), v14] ∧ Same H19 H')
          ⟨_, _, rfl, Same.refl _⟩ (fun i σ H' _ ⟨_, _, _, s⟩ => same_tup s _ _ (f719.tup hdl _ _ ht)) ?_ ?_
        · rintro i x σ H20 hx ⟨v6, v12, rfl, s20⟩
          have hi : i < L.length := by
            have := (List.getElem?_eq_some_iff.mp hx).1
            simpa using this
          rw [List.getElem?_map, List.getElem?_eq_getElem hi] at hx
          obtain rfl := Option.some.inj hx
          have em := (eo _ (List.getElem_mem hi)).frL f719 hdl
          have hcl : (calmL R xs)[i]? = some L[i].p := by rw [← eL, List.getElem?_map, List.getElem?_eq_getElem hi]; rfl
          generalize L[i] = e at em hcl
          have em20 := em.keep s20
          walk_at "h"
          refine rd_ixt em20.pr (atI_nat (j := 0) rfl) ?_
          refine rd_leafT em20.zt.seq ?_
          refine for_tup (xs := e.p.map V.str) (fun m σ H' => ∃ v6 : Option V, σ = [some (V.ref a), some (V.ref p), some (V.ref nt), some (V.ref fl), some (V.ref t), some (V.ref nd), v6, some (V.ref bd), some (V.ref ll), v9, v10, some (V.ref pl), some (V.ref e.pa), some (V.int (0 + (k : Nat))), v14] ∧ Same H19 H')
            ⟨_, rfl, s20⟩ (fun m σ H' _ ⟨_, _, s⟩ => (em.zt.keep s).seq) ?_ ?_
          · rintro m x σ H21 hx ⟨v6, rfl, s21⟩
            have hm : m < e.p.length := by
              have := (List.getElem?_eq_some_iff.mp hx).1
              simpa using this
            rw [List.getElem?_map, List.getElem?_eq_getElem hm] at hx
            obtain rfl := Option.some.inj hx
            have xp : e.p[m] ∈ e.p := List.getElem_mem hm
            generalize e.p[m] = y at xp
            obtain ⟨n, en, n1, n2⟩ := RI1.al y ((calm_sub rn (List.mem_of_getElem? hcl)).1 y xp)
            have em21 := em.keep s21
            have sf := em21.wo y xp
            have py := C.poly hcl xp
            have vo := C.hb.vok (k := ((k : Nat) : Int) + 1) (by omega) (by omega)
            have tp := C.top hcl xp (c := ((k : Nat) : Int) + 1) (by omega) (by omega)
            walk_at "h"
            refine ⟨nd, _, rfl, dget_tab (s21 _ _ hN19) en, ?_⟩
            walk_at "h"
            refine rd_ixt em21.pr (atI_nat (j := 1) rfl) ?_
            walk_at "h"
            refine ⟨e.sa, bd, e.S, Mc, rfl, em21.su, s21 _ _ hb19, fun q0 hq0 => ?_, sf.len, fun H22 s22 => ?_⟩
            · obtain ⟨⟨cc, hcc⟩, nmz, dgz⟩ := sf.trm q0 hq0
              have vz : ∀ z ∈ Zs xs, ∃ n, tget Mc z = some n ∧ 1 ≤ n ∧ n ≤ 4 := fun z hz => by
                rcases List.mem_cons.mp hz with w | w
                · rw [w]; exact ⟨_, aMb0, by omega, by omega⟩
                · exact ⟨_, aMb2 z w, (C.hb.ge z w).1, (C.hb.ge z w).2.1⟩
              refine ⟨⟨fun w hw => by have := (nmz w hw).2; omega, fun w hw => ?_, by omega, by decide⟩, lack_none fun w hw => let ⟨n, e, _⟩ := vz _ (nmz w hw).1; ⟨n, e⟩, ?_⟩
              · obtain ⟨n, e, g1, g2⟩ := vz _ (nmz w hw).1
                rw [e, Option.getD_some]
                omega
              · have g1 := py.co_le (vpos vo) hcc
                have g2 := py.co _ hcc
                have g3 : q0.1 ≤ 10 ^ 14 := Int.le_trans g1 tp
                dsimp only at g2
                omega
            · rw [sf.wor, evE]
              have le := bU2 i e.p hcl y xp n en
              have no : decide (ev (Zs xs) (vk b ((k : Nat) + 1)) (A y) < n) = false := decide_eq_false (by
                have : UU xs A b ((k : Nat) + 1) y = ev (Zs xs) (vk b ((k : Nat) + 1)) (A y) := rfl
                omega)
              walk_at "h"
              rw [no]
              walk_at "h"
              exact ⟨_, rfl, s21.trans s22⟩
          · rintro σ H21 ⟨v6, rfl, s21⟩
            exact ⟨_, _, rfl, s21⟩
        · rintro σ H20 ⟨v6, v12, rfl, s20⟩
          refine ⟨N, Mc, _, _, _, _, rfl, s20 _ _ hN19, lN, RI1.al, fun i p hp x hx n hn => ?_, s20 _ _ hb19, lMb2, aMb2, s20 _ _ hM19, fun e he => (oM19 e he).keep (same_tup s20), s20 _ _ hp19, D19.keep s20, f719.trans (Fr.of s20)⟩
          have := bU2 i p hp x hx n hn
          rw [show ((k + 1 : Nat) : Int) = ((k : Nat) : Int) + 1 by omega]
          exact this
    · rintro σ H17 ⟨N, Mb, v6, v12, v13, v14, rfl, _⟩
      walk_at "h"
      exact q _
end
end K41
namespace K41
open PySem PySem.Spec PyProof.Rows L2 HH
theorem all_mk {l : PySem.W.OpenLaw} {w : World} {K : PySem.W.Frag} {h : Heap} {mg : Str → Option Value} {fa : Addr} (X : K.In h) (G : h.Ns mainGlobals mg) (hfa : mg "law" = some (.ref fa))
    {f0 f1 f2 f3 f4 f5 f6 f7 f8 f9 f10 f11 f12 f13 f14 f15 f16 f17 f18 f19 f20 f21 f22 f23 f24 : Addr} {od0 an0 od1 an1 od2 an2 od3 an3 od4 an4 od5 an5 od6 an6 od7 an7 od8 an8 od9 an9 od10 an10 od11 an11 od12 an12 od13 an13 od14 an14 od15 an15 od16 an16 od17 an17 od18 an18 od19 an19 od20 an20 od21 an21 od22 an22 od23 an23 od24 an24 : Option Addr} {sl0 sl1 sl2 sl3 sl4 sl5 sl6 sl7 sl8 sl9 sl10 sl11 sl12 sl13 sl14 sl15 sl16 sl17 sl18 sl19 sl20 sl21 sl22 sl23 sl24 : Array (Option Value)} {oc0 kV0 dc0 pm0 cd0 ct0 oc1 kV1 dc1 pm1 cd1 ct1 oc2 kV2 dc2 pm2 cd2 ct2 oc3 kV3 dc3 pm3 cd3 ct3 oc4 kV4 dc4 pm4 cd4 ct4 oc5 kV5 dc5 pm5 cd5 ct5 oc6 kV6 dc6 pm6 cd6 ct6 oc7 kV7 dc7 pm7 cd7 ct7 oc8 kV8 dc8 pm8 cd8 ct8 oc9 kV9 dc9 pm9 cd9 ct9 oc10 kV10 dc10 pm10 cd10 ct10 oc11 kV11 dc11 pm11 cd11 ct11 oc12 kV12 dc12 pm12 cd12 ct12 oc13 kV13 dc13 pm13 cd13 ct13 oc14 kV14 dc14 pm14 cd14 ct14 oc15 kV15 dc15 pm15 cd15 ct15 oc16 kV16 dc16 pm16 cd16 ct16 oc17 kV17 dc17 pm17 cd17 ct17 oc18 kV18 dc18 pm18 cd18 ct18 oc19 kV19 dc19 pm19 cd19 ct19 oc20 kV20 dc20 pm20 cd20 ct20 oc21 kV21 dc21 pm21 cd21 ct21 oc22 kV22 dc22 pm22 cd22 ct22 oc23 kV23 dc23 pm23 cd23 ct23 oc24 kV24 dc24 pm24 cd24 ct24 : Value} {t8 : Tok}
    (e8 : PySem.W.nsIn K mainGlobals "WIDTH" = some (some (.int 64 t8))) (e9 : PySem.W.nsIn K mainGlobals "sum" = some none)
    (a0 : PySem.W.nsIn K mainGlobals "givers" = some (some (.ref f0))) (l0 : K.lookup f0 = some ⟨oc0, od0, .func (PySem.W.fnOf "givers" "givers" (defArgs s_givers) (defBody s_givers) (defScope s_givers) .none kV0 dc0 pm0 an0 cd0 ct0), sl0⟩) (c0 : PySem.W.codeIn K cd0 "givers" = true) (k0 : PySem.W.keepIn K (.ref f0) = true)
    (a1 : PySem.W.nsIn K mainGlobals "hands_on_plainly" = some (some (.ref f1))) (l1 : K.lookup f1 = some ⟨oc1, od1, .func (PySem.W.fnOf "hands_on_plainly" "hands_on_plainly" (defArgs s_hands_on_plainly) (defBody s_hands_on_plainly) (defScope s_hands_on_plainly) .none kV1 dc1 pm1 an1 cd1 ct1), sl1⟩) (c1 : PySem.W.codeIn K cd1 "hands_on_plainly" = true) (k1 : PySem.W.keepIn K (.ref f1) = true)
    (a2 : PySem.W.nsIn K mainGlobals "raising" = some (some (.ref f2))) (l2 : K.lookup f2 = some ⟨oc2, od2, .func (PySem.W.fnOf "raising" "raising" (defArgs s_raising) (defBody s_raising) (defScope s_raising) .none kV2 dc2 pm2 an2 cd2 ct2), sl2⟩) (c2 : PySem.W.codeIn K cd2 "raising" = true) (k2 : PySem.W.keepIn K (.ref f2) = true)
    (a3 : PySem.W.nsIn K mainGlobals "parts" = some (some (.ref f3))) (l3 : K.lookup f3 = some ⟨oc3, od3, .func (PySem.W.fnOf "parts" "parts" (defArgs s_parts) (defBody s_parts) (defScope s_parts) .none kV3 dc3 pm3 an3 cd3 ct3), sl3⟩) (c3 : PySem.W.codeIn K cd3 "parts" = true) (k3 : PySem.W.keepIn K (.ref f3) = true)
    (a4 : PySem.W.nsIn K mainGlobals "doubling" = some (some (.ref f4))) (l4 : K.lookup f4 = some ⟨oc4, od4, .func (PySem.W.fnOf "doubling" "doubling" (defArgs s_doubling) (defBody s_doubling) (defScope s_doubling) .none kV4 dc4 pm4 an4 cd4 ct4), sl4⟩) (c4 : PySem.W.codeIn K cd4 "doubling" = true) (k4 : PySem.W.keepIn K (.ref f4) = true)
    (a5 : PySem.W.nsIn K mainGlobals "_doubles" = some (some (.ref f5))) (l5 : K.lookup f5 = some ⟨oc5, od5, .func (PySem.W.fnOf "_doubles" "_doubles" (defArgs s__doubles) (defBody s__doubles) (defScope s__doubles) .none kV5 dc5 pm5 an5 cd5 ct5), sl5⟩) (c5 : PySem.W.codeIn K cd5 "_doubles" = true) (k5 : PySem.W.keepIn K (.ref f5) = true)
    (a6 : PySem.W.nsIn K mainGlobals "calm_parts" = some (some (.ref f6))) (l6 : K.lookup f6 = some ⟨oc6, od6, .func (PySem.W.fnOf "calm_parts" "calm_parts" (defArgs s_calm_parts) (defBody s_calm_parts) (defScope s_calm_parts) .none kV6 dc6 pm6 an6 cd6 ct6), sl6⟩) (c6 : PySem.W.codeIn K cd6 "calm_parts" = true) (k6 : PySem.W.keepIn K (.ref f6) = true)
    (a7 : PySem.W.nsIn K mainGlobals "places_of" = some (some (.ref f7))) (l7 : K.lookup f7 = some ⟨oc7, od7, .func (PySem.W.fnOf "places_of" "places_of" (defArgs s_places_of) (defBody s_places_of) (defScope s_places_of) .none kV7 dc7 pm7 an7 cd7 ct7), sl7⟩) (c7 : PySem.W.codeIn K cd7 "places_of" = true) (k7 : PySem.W.keepIn K (.ref f7) = true)
    (a8 : PySem.W.nsIn K mainGlobals "unpacked" = some (some (.ref f8))) (l8 : K.lookup f8 = some ⟨oc8, od8, .func (PySem.W.fnOf "unpacked" "unpacked" (defArgs s_unpacked) (defBody s_unpacked) (defScope s_unpacked) .none kV8 dc8 pm8 an8 cd8 ct8), sl8⟩) (c8 : PySem.W.codeIn K cd8 "unpacked" = true) (k8 : PySem.W.keepIn K (.ref f8) = true)
    (a9 : PySem.W.nsIn K mainGlobals "packed_plus" = some (some (.ref f9))) (l9 : K.lookup f9 = some ⟨oc9, od9, .func (PySem.W.fnOf "packed_plus" "packed_plus" (defArgs s_packed_plus) (defBody s_packed_plus) (defScope s_packed_plus) .none kV9 dc9 pm9 an9 cd9 ct9), sl9⟩) (c9 : PySem.W.codeIn K cd9 "packed_plus" = true) (k9 : PySem.W.keepIn K (.ref f9) = true)
    (a10 : PySem.W.nsIn K mainGlobals "packed_times" = some (some (.ref f10))) (l10 : K.lookup f10 = some ⟨oc10, od10, .func (PySem.W.fnOf "packed_times" "packed_times" (defArgs s_packed_times) (defBody s_packed_times) (defScope s_packed_times) .none kV10 dc10 pm10 an10 cd10 ct10), sl10⟩) (c10 : PySem.W.codeIn K cd10 "packed_times" = true) (k10 : PySem.W.keepIn K (.ref f10) = true)
    (a11 : PySem.W.nsIn K mainGlobals "packed_put" = some (some (.ref f11))) (l11 : K.lookup f11 = some ⟨oc11, od11, .func (PySem.W.fnOf "packed_put" "packed_put" (defArgs s_packed_put) (defBody s_packed_put) (defScope s_packed_put) .none kV11 dc11 pm11 an11 cd11 ct11), sl11⟩) (c11 : PySem.W.codeIn K cd11 "packed_put" = true) (k11 : PySem.W.keepIn K (.ref f11) = true)
    (a12 : PySem.W.nsIn K mainGlobals "loop_paper" = some (some (.ref f12))) (l12 : K.lookup f12 = some ⟨oc12, od12, .func (PySem.W.fnOf "loop_paper" "loop_paper" (defArgs s_loop_paper) (defBody s_loop_paper) (defScope s_loop_paper) .none kV12 dc12 pm12 an12 cd12 ct12), sl12⟩) (c12 : PySem.W.codeIn K cd12 "loop_paper" = true) (k12 : PySem.W.keepIn K (.ref f12) = true)
    (a13 : PySem.W.nsIn K mainGlobals "_law_dice" = some (some (.ref f13))) (l13 : K.lookup f13 = some ⟨oc13, od13, .func (PySem.W.fnOf "_law_dice" "_law_dice" (defArgs s_l_dice) (defBody s_l_dice) (defScope s_l_dice) .none kV13 dc13 pm13 an13 cd13 ct13), sl13⟩) (c13 : PySem.W.codeIn K cd13 "_law_dice" = true) (k13 : PySem.W.keepIn K (.ref f13) = true)
    (a14 : PySem.W.nsIn K mainGlobals "_law_draw" = some (some (.ref f14))) (l14 : K.lookup f14 = some ⟨oc14, od14, .func (PySem.W.fnOf "_law_draw" "_law_draw" (defArgs s_l_draw) (defBody s_l_draw) (defScope s_l_draw) .none kV14 dc14 pm14 an14 cd14 ct14), sl14⟩) (c14 : PySem.W.codeIn K cd14 "_law_draw" = true) (k14 : PySem.W.keepIn K (.ref f14) = true)
    (a15 : PySem.W.nsIn K mainGlobals "_law_word" = some (some (.ref f15))) (l15 : K.lookup f15 = some ⟨oc15, od15, .func (PySem.W.fnOf "_law_word" "_law_word" (defArgs s_l_word) (defBody s_l_word) (defScope s_l_word) .none kV15 dc15 pm15 an15 cd15 ct15), sl15⟩) (c15 : PySem.W.codeIn K cd15 "_law_word" = true) (k15 : PySem.W.keepIn K (.ref f15) = true)
    (a16 : PySem.W.nsIn K mainGlobals "_law_names" = some (some (.ref f16))) (l16 : K.lookup f16 = some ⟨oc16, od16, .func (PySem.W.fnOf "_law_names" "_law_names" (defArgs s_l_names) (defBody s_l_names) (defScope s_l_names) .none kV16 dc16 pm16 an16 cd16 ct16), sl16⟩) (c16 : PySem.W.codeIn K cd16 "_law_names" = true) (k16 : PySem.W.keepIn K (.ref f16) = true)
    (a17 : PySem.W.nsIn K mainGlobals "_law_product" = some (some (.ref f17))) (l17 : K.lookup f17 = some ⟨oc17, od17, .func (PySem.W.fnOf "_law_product" "_law_product" (defArgs s_l_product) (defBody s_l_product) (defScope s_l_product) .none kV17 dc17 pm17 an17 cd17 ct17), sl17⟩) (c17 : PySem.W.codeIn K cd17 "_law_product" = true) (k17 : PySem.W.keepIn K (.ref f17) = true)
    (a18 : PySem.W.nsIn K mainGlobals "_law_order" = some (some (.ref f18))) (l18 : K.lookup f18 = some ⟨oc18, od18, .func (PySem.W.fnOf "_law_order" "_law_order" (defArgs s_l_order) (defBody s_l_order) (defScope s_l_order) .none kV18 dc18 pm18 an18 cd18 ct18), sl18⟩) (c18 : PySem.W.codeIn K cd18 "_law_order" = true) (k18 : PySem.W.keepIn K (.ref f18) = true)
    (a19 : PySem.W.nsIn K mainGlobals "_law_flat" = some (some (.ref f19))) (l19 : K.lookup f19 = some ⟨oc19, od19, .func (PySem.W.fnOf "_law_flat" "_law_flat" (defArgs s_l_flat) (defBody s_l_flat) (defScope s_l_flat) .none kV19 dc19 pm19 an19 cd19 ct19), sl19⟩) (c19 : PySem.W.codeIn K cd19 "_law_flat" = true) (k19 : PySem.W.keepIn K (.ref f19) = true)
    (a20 : PySem.W.nsIn K mainGlobals "_law_worth" = some (some (.ref f20))) (l20 : K.lookup f20 = some ⟨oc20, od20, .func (PySem.W.fnOf "_law_worth" "_law_worth" (defArgs s_l_worth) (defBody s_l_worth) (defScope s_l_worth) .none kV20 dc20 pm20 an20 cd20 ct20), sl20⟩) (c20 : PySem.W.codeIn K cd20 "_law_worth" = true) (k20 : PySem.W.keepIn K (.ref f20) = true)
    (a21 : PySem.W.nsIn K mainGlobals "_law_total" = some (some (.ref f21))) (l21 : K.lookup f21 = some ⟨oc21, od21, .func (PySem.W.fnOf "_law_total" "_law_total" (defArgs s_l_total) (defBody s_l_total) (defScope s_l_total) .none kV21 dc21 pm21 an21 cd21 ct21), sl21⟩) (c21 : PySem.W.codeIn K cd21 "_law_total" = true) (k21 : PySem.W.keepIn K (.ref f21) = true)
    (a22 : PySem.W.nsIn K mainGlobals "_law_without" = some (some (.ref f22))) (l22 : K.lookup f22 = some ⟨oc22, od22, .func (PySem.W.fnOf "_law_without" "_law_without" (defArgs s_l_without) (defBody s_l_without) (defScope s_l_without) .none kV22 dc22 pm22 an22 cd22 ct22), sl22⟩) (c22 : PySem.W.codeIn K cd22 "_law_without" = true) (k22 : PySem.W.keepIn K (.ref f22) = true)
    (a23 : PySem.W.nsIn K mainGlobals "_law_do_flat" = some (some (.ref f23))) (l23 : K.lookup f23 = some ⟨oc23, od23, .func (PySem.W.fnOf "_law_do_flat" "_law_do_flat" (defArgs s_l_do_flat) (defBody s_l_do_flat) (defScope s_l_do_flat) .none kV23 dc23 pm23 an23 cd23 ct23), sl23⟩) (c23 : PySem.W.codeIn K cd23 "_law_do_flat" = true) (k23 : PySem.W.keepIn K (.ref f23) = true)
    (a24 : PySem.W.nsIn K mainGlobals "law" = some (some (.ref f24))) (l24 : K.lookup f24 = some ⟨oc24, od24, .func (PySem.W.fnOf "law" "law" (defArgs s_law) (defBody s_law) (defScope s_law) .none kV24 dc24 pm24 an24 cd24 ct24), sl24⟩) (c24 : PySem.W.codeIn K cd24 "law" = true) (k24 : PySem.W.keepIn K (.ref f24) = true)
    (z0 : PySem.W.nsIn K mainGlobals "len" = some none)
    (z1 : PySem.W.nsIn K mainGlobals "int" = some none)
    (z2 : PySem.W.nsIn K mainGlobals "abs" = some none)
    (z3 : PySem.W.nsIn K mainGlobals "range" = some none)
    (z4 : PySem.W.nsIn K mainGlobals "sorted" = some none)
    (z5 : PySem.W.nsIn K mainGlobals "tuple" = some none)
    (z6 : PySem.W.nsIn K mainGlobals "list" = some none)
    (z7 : PySem.W.nsIn K mainGlobals "all" = some none)
    (z8 : PySem.W.nsIn K mainGlobals "any" = some none)
    (z9 : PySem.W.nsIn K mainGlobals "isinstance" = some none)
    (z10 : PySem.W.nsIn K mainGlobals "bool" = some none)
    (z11 : PySem.W.nsIn K mainGlobals "str" = some none)
    (z12 : PySem.W.nsIn K mainGlobals "dict" = some none)
    (z13 : PySem.W.nsIn K mainGlobals "min" = some none)
    (z14 : PySem.W.nsIn K mainGlobals "max" = some none)
    (z15 : PySem.W.nsIn K mainGlobals "zip" = some none)
    (z16 : PySem.W.nsIn K mainGlobals "enumerate" = some none) :
    ∃ fd : FuncData, (∀ (s : Shared) (v : Value), BindsTo s fd ⟨[v], []⟩ [("_law_script", v)]) ∧ ∀ base : Heap, K.In base → base.Ns mainGlobals mg → FnOk l.prog w K mg base CX0 7 fa fd ["_law_script"] (spLaw K) := by
  have e := hfa.symm.trans (PySem.W.mg_of X G a24)
  cases e
  have T : Bi mg := ⟨PySem.W.mg_none_of X G z0, PySem.W.mg_none_of X G z1, PySem.W.mg_none_of X G z2, PySem.W.mg_none_of X G z3, PySem.W.mg_none_of X G z4, PySem.W.mg_none_of X G z5, PySem.W.mg_none_of X G z6, PySem.W.mg_none_of X G z7, PySem.W.mg_none_of X G z8, PySem.W.mg_none_of X G z9, PySem.W.mg_none_of X G z10, PySem.W.mg_none_of X G z11, PySem.W.mg_none_of X G z12, PySem.W.mg_none_of X G z13, PySem.W.mg_none_of X G z14, PySem.W.mg_none_of X G z15, PySem.W.mg_none_of X G z16⟩
  have F_givers := fun_mk (st := s_givers) l0 c0 k0
  have B_givers := F_givers.binds (ps := ["names", "flat"]) fun _ _ _ _ _ _ us hl => match us, hl with | [_, _], _ => rfl
  have F_hands_on_plainly := fun_mk (st := s_hands_on_plainly) l1 c1 k1
  have B_hands_on_plainly := F_hands_on_plainly.binds (ps := ["row", "part"]) fun _ _ _ _ _ _ us hl => match us, hl with | [_, _], _ => rfl
  have F_raising := fun_mk (st := s_raising) l2 c2 k2
  have B_raising := F_raising.binds (ps := ["part", "flat"]) fun _ _ _ _ _ _ us hl => match us, hl with | [_, _], _ => rfl
  have F_parts := fun_mk (st := s_parts) l3 c3 k3
  have B_parts := F_parts.binds (ps := ["names", "flat"]) fun _ _ _ _ _ _ us hl => match us, hl with | [_, _], _ => rfl
  have F_doubling := fun_mk (st := s_doubling) l4 c4 k4
  have B_doubling := F_doubling.binds (ps := ["names", "flat"]) fun _ _ _ _ _ _ us hl => match us, hl with | [_, _], _ => rfl
  have F__doubles := fun_mk (st := s__doubles) l5 c5 k5
  have B__doubles := F__doubles.binds (ps := ["part", "flat"]) fun _ _ _ _ _ _ us hl => match us, hl with | [_, _], _ => rfl
  have F_calm_parts := fun_mk (st := s_calm_parts) l6 c6 k6
  have B_calm_parts := F_calm_parts.binds (ps := ["names", "flat"]) fun _ _ _ _ _ _ us hl => match us, hl with | [_, _], _ => rfl
  have F_places_of := fun_mk (st := s_places_of) l7 c7 k7
  have B_places_of := F_places_of.binds (ps := ["names"]) fun _ _ _ _ _ _ us hl => match us, hl with | [_], _ => rfl
  have F_unpacked := fun_mk (st := s_unpacked) l8 c8 k8
  have B_unpacked := F_unpacked.binds (ps := ["terms", "places"]) fun _ _ _ _ _ _ us hl => match us, hl with | [_, _], _ => rfl
  have F_packed_plus := fun_mk (st := s_packed_plus) l9 c9 k9
  have B_packed_plus := F_packed_plus.binds (ps := ["one", "other"]) fun _ _ _ _ _ _ us hl => match us, hl with | [_, _], _ => rfl
  have F_packed_times := fun_mk (st := s_packed_times) l10 c10 k10
  have B_packed_times := F_packed_times.binds (ps := ["one", "other"]) fun _ _ _ _ _ _ us hl => match us, hl with | [_, _], _ => rfl
  have F_packed_put := fun_mk (st := s_packed_put) l11 c11 k11
  have B_packed_put := F_packed_put.binds (ps := ["coefficient", "product", "sums"]) fun _ _ _ _ _ _ us hl => match us, hl with | [_, _, _], _ => rfl
  have F_loop_paper := fun_mk (st := s_loop_paper) l12 c12 k12
  have B_loop_paper := F_loop_paper.binds (ps := ["names", "flat"]) fun _ _ _ _ _ _ us hl => match us, hl with | [_, _], _ => rfl
  have F_l_dice := fun_mk (st := s_l_dice) l13 c13 k13
  have B_l_dice := F_l_dice.binds (ps := ["_law_script"]) fun _ _ _ _ _ _ us hl => match us, hl with | [_], _ => rfl
  have F_l_draw := fun_mk (st := s_l_draw) l14 c14 k14
  have B_l_draw := F_l_draw.binds (ps := ["_law_dice_here", "_law_many"]) fun _ _ _ _ _ _ us hl => match us, hl with | [_, _], _ => rfl
  have F_l_word := fun_mk (st := s_l_word) l15 c15 k15
  have B_l_word := F_l_word.binds (ps := ["_law_dice_here", "_law_most"]) fun _ _ _ _ _ _ us hl => match us, hl with | [_, _], _ => rfl
  have F_l_names := fun_mk (st := s_l_names) l16 c16 k16
  have B_l_names := F_l_names.binds (ps := ["_law_dice_here", "_law_many"]) fun _ _ _ _ _ _ us hl => match us, hl with | [_, _], _ => rfl
  have F_l_product := fun_mk (st := s_l_product) l17 c17 k17
  have B_l_product := F_l_product.binds (ps := ["_law_dice_here", "_law_names_here", "_law_most"]) fun _ _ _ _ _ _ us hl => match us, hl with | [_, _, _], _ => rfl
  have F_l_order := fun_mk (st := s_l_order) l18 c18 k18
  have B_l_order := F_l_order.binds (ps := ["_law_dice_here", "_law_names_here"]) fun _ _ _ _ _ _ us hl => match us, hl with | [_, _], _ => rfl
  have F_l_flat := fun_mk (st := s_l_flat) l19 c19 k19
  have B_l_flat := F_l_flat.binds (ps := ["_law_dice_here", "_law_names_here", "_law_most", "_law_top", "_law_wild"]) fun _ _ _ _ _ _ us hl => match us, hl with | [_, _, _, _, _], _ => rfl
  have F_l_worth := fun_mk (st := s_l_worth) l20 c20 k20
  have B_l_worth := F_l_worth.binds (ps := ["_law_product_here", "_law_numbers"]) fun _ _ _ _ _ _ us hl => match us, hl with | [_, _], _ => rfl
  have F_l_total := fun_mk (st := s_l_total) l21 c21 k21
  have B_l_total := F_l_total.binds (ps := ["_law_terms", "_law_numbers"]) fun _ _ _ _ _ _ us hl => match us, hl with | [_, _], _ => rfl
  have F_l_without := fun_mk (st := s_l_without) l22 c22 k22
  have B_l_without := F_l_without.binds (ps := ["_law_product_here", "_law_name"]) fun _ _ _ _ _ _ us hl => match us, hl with | [_, _], _ => rfl
  have F_l_do_flat := fun_mk (st := s_l_do_flat) l23 c23 k23
  have B_l_do_flat := F_l_do_flat.binds (ps := ["_law_row", "_law_inner", "_law_numbers", "_law_most"]) fun _ _ _ _ _ _ us hl => match us, hl with | [_, _, _, _], _ => rfl
  have F_law := fun_mk (st := s_law) l24 c24 k24
  refine ⟨PySem.W.fnOf "law" "law" (defArgs s_law) (defBody s_law) (defScope s_law) .none kV24 dc24 pm24 an24 cd24 ct24, fun s v => .of_eq rfl, fun base _ _ => ?_⟩
  have G_l_dice : Callee l.prog w K mg base 1 "_law_dice" ["_law_script"] (spDice K) := ⟨_, _, ok_dice F_l_dice T, PySem.W.mg_of X G a13, F_l_dice.kp, B_l_dice⟩
  have G_l_draw : Callee l.prog w K mg base 1 "_law_draw" ["_law_dice_here", "_law_many"] spDraw := ⟨_, _, ok_draw F_l_draw T, PySem.W.mg_of X G a14, F_l_draw.kp, B_l_draw⟩
  have G_l_word : Callee l.prog w K mg base 2 "_law_word" ["_law_dice_here", "_law_most"] spWord := ⟨_, _, ok_word F_l_word T G_l_draw, PySem.W.mg_of X G a15, F_l_word.kp, B_l_word⟩
  have G_l_names : Callee l.prog w K mg base 3 "_law_names" ["_law_dice_here", "_law_many"] spNames := ⟨_, _, ok_names F_l_names T G_l_draw G_l_word, PySem.W.mg_of X G a16, F_l_names.kp, B_l_names⟩
  have G_l_product : Callee l.prog w K mg base 2 "_law_product" ["_law_dice_here", "_law_names_here", "_law_most"] (spProduct K) := ⟨_, _, ok_product F_l_product T G_l_draw, PySem.W.mg_of X G a17, F_l_product.kp, B_l_product⟩
  have G_l_order : Callee l.prog w K mg base 2 "_law_order" ["_law_dice_here", "_law_names_here"] (spOrderV K) := ⟨_, _, ok_order F_l_order T G_l_draw, PySem.W.mg_of X G a18, F_l_order.kp, B_l_order⟩
  have G_l_orderS : Callee l.prog w K mg base 2 "_law_order" ["_law_dice_here", "_law_names_here"] (spOrder K) := ⟨_, _, (ok_order F_l_order T G_l_draw).imp order_str, PySem.W.mg_of X G a18, F_l_order.kp, B_l_order⟩
  have G_l_flat : Callee l.prog w K mg base 3 "_law_flat" ["_law_dice_here", "_law_names_here", "_law_most", "_law_top", "_law_wild"] (spFlat K) := ⟨_, _, ok_flat F_l_flat T G_l_draw G_l_product G_l_orderS, PySem.W.mg_of X G a19, F_l_flat.kp, B_l_flat⟩
  have G_givers : Callee l.prog w K mg base 1 "givers" ["names", "flat"] (spGivers K) := ⟨_, _, ok_givers F_givers T, PySem.W.mg_of X G a0, F_givers.kp, B_givers⟩
  have G_parts : Callee l.prog w K mg base 2 "parts" ["names", "flat"] (spParts K) := ⟨_, _, ok_parts F_parts T G_givers, PySem.W.mg_of X G a3, F_parts.kp, B_parts⟩
  have G_hands : Callee l.prog w K mg base 1 "hands_on_plainly" ["row", "part"] (spHands K) := ⟨_, _, ok_hands F_hands_on_plainly T, PySem.W.mg_of X G a1, F_hands_on_plainly.kp, B_hands_on_plainly⟩
  have G_raising : Callee l.prog w K mg base 2 "raising" ["part", "flat"] (spRaising K) := ⟨_, _, ok_raising F_raising T G_hands, PySem.W.mg_of X G a2, F_raising.kp, B_raising⟩
  have G_doubles : Callee l.prog w K mg base 3 "_doubles" ["part", "flat"] (spDoubles K) := ⟨_, _, ok_doubles F__doubles T G_raising, PySem.W.mg_of X G a5, F__doubles.kp, B__doubles⟩
  have G_doubling : Callee l.prog w K mg base 4 "doubling" ["names", "flat"] (spDoubling K) := ⟨_, _, ok_doubling F_doubling T G_parts G_doubles, PySem.W.mg_of X G a4, F_doubling.kp, B_doubling⟩
  have G_calm : Callee l.prog w K mg base 5 "calm_parts" ["names", "flat"] (spCalm K) := ⟨_, _, ok_calm F_calm_parts T G_givers G_parts G_doubling, PySem.W.mg_of X G a6, F_calm_parts.kp, B_calm_parts⟩
  have gW : ∃ t, mg "WIDTH" = some (.int 64 t) := ⟨_, PySem.W.mg_of X G e8⟩
  have G_places : Callee l.prog w K mg base 1 "places_of" ["names"] (spPlaces K) := ⟨_, _, ok_places F_places_of T gW, PySem.W.mg_of X G a7, F_places_of.kp, B_places_of⟩
  have G_unpacked : Callee l.prog w K mg base 1 "unpacked" ["terms", "places"] (spUnpacked K) := ⟨_, _, ok_unpacked F_unpacked T gW, PySem.W.mg_of X G a8, F_unpacked.kp, B_unpacked⟩
  have G_plus : ∀ n, Callee l.prog w K mg base 1 "packed_plus" ["one", "other"] (spPlus n) := fun n => ⟨_, _, ok_plus F_packed_plus T, PySem.W.mg_of X G a9, F_packed_plus.kp, B_packed_plus⟩
  have G_times : ∀ n, Callee l.prog w K mg base 1 "packed_times" ["one", "other"] (spTimes n) := fun n => ⟨_, _, ok_times F_packed_times T, PySem.W.mg_of X G a10, F_packed_times.kp, B_packed_times⟩
  have G_put : ∀ n, Callee l.prog w K mg base 2 "packed_put" ["coefficient", "product", "sums"] (spPut K n) := fun n => ⟨_, _, ok_put F_packed_put T (G_times n), PySem.W.mg_of X G a11, F_packed_put.kp, B_packed_put⟩
  have G_paper : Callee l.prog w K mg base 6 "loop_paper" ["names", "flat"] (spPaper K) := ⟨_, _, ok_paper F_loop_paper T G_places G_calm G_raising G_put G_plus G_unpacked, PySem.W.mg_of X G a12, F_loop_paper.kp, B_loop_paper⟩
  have G_worth : Callee l.prog w K mg base 1 "_law_worth" ["_law_product_here", "_law_numbers"] (spWorth K) := ⟨_, _, ok_worth F_l_worth T, PySem.W.mg_of X G a20, F_l_worth.kp, B_l_worth⟩
  have G_total : Callee l.prog w K mg base 2 "_law_total" ["_law_terms", "_law_numbers"] (spTotal K) := ⟨_, _, ok_total F_l_total T (PySem.W.mg_none_of X G e9) G_worth, PySem.W.mg_of X G a21, F_l_total.kp, B_l_total⟩
  have G_without : Callee l.prog w K mg base 1 "_law_without" ["_law_product_here", "_law_name"] (spWithout K) := ⟨_, _, ok_without F_l_without T, PySem.W.mg_of X G a22, F_l_without.kp, B_l_without⟩
  have G_do : Callee l.prog w K mg base 2 "_law_do_flat" ["_law_row", "_law_inner", "_law_numbers", "_law_most"] (spDo K) := ⟨_, _, ok_do F_l_do_flat T G_worth G_without, PySem.W.mg_of X G a23, F_l_do_flat.kp, B_l_do_flat⟩
  exact ok_law F_law T G_l_dice G_l_draw G_l_names G_l_flat G_l_order G_paper G_total G_do
end K41
open PySem PySem.W PyProof.Rows
set_option maxRecDepth 100000 in
set_option maxHeartbeats 0 in
theorem PySem.Challenge.cw_howhigh_k41_whole_rounds_stay_below_the_holds : PySem.Challenge.rw_howhigh_k41_whole_rounds_stay_below_the.Holds := by
  w_on; o_law; k_head; (case hw => w_witness2)
  k_fill
  refine L2.walk_of (l := PySem.Challenge.rw_howhigh_k41_whole_rounds_stay_below_the) (n := 63) (k := 7) (x := "_law_script") (CX := fun _ => L2.CX0) (sp := fun w => K41.spLaw _) rfl (by decide) rfl ⟨rfl, by decide, by decide⟩ (fun w h Y => PySem.W.kIn_of Y) ?F (fun _ _ a ns hl _ hS => ⟨a, ns, rfl, hS, hl, fun _ => rfl⟩) (fun _ _ _ _ _ h => h)
  case F =>
    intro w mg fa h KX G hmg
    refine' K41.all_mk KX G hmg ?e8 ?e9 ?a0 ?l0 ?c0 ?k0 ?a1 ?l1 ?c1 ?k1 ?a2 ?l2 ?c2 ?k2 ?a3 ?l3 ?c3 ?k3 ?a4 ?l4 ?c4 ?k4 ?a5 ?l5 ?c5 ?k5 ?a6 ?l6 ?c6 ?k6 ?a7 ?l7 ?c7 ?k7 ?a8 ?l8 ?c8 ?k8 ?a9 ?l9 ?c9 ?k9 ?a10 ?l10 ?c10 ?k10 ?a11 ?l11 ?c11 ?k11 ?a12 ?l12 ?c12 ?k12 ?a13 ?l13 ?c13 ?k13 ?a14 ?l14 ?c14 ?k14 ?a15 ?l15 ?c15 ?k15 ?a16 ?l16 ?c16 ?k16 ?a17 ?l17 ?c17 ?k17 ?a18 ?l18 ?c18 ?k18 ?a19 ?l19 ?c19 ?k19 ?a20 ?l20 ?c20 ?k20 ?a21 ?l21 ?c21 ?k21 ?a22 ?l22 ?c22 ?k22 ?a23 ?l23 ?c23 ?k23 ?a24 ?l24 ?c24 ?k24 ?z0 ?z1 ?z2 ?z3 ?z4 ?z5 ?z6 ?z7 ?z8 ?z9 ?z10 ?z11 ?z12 ?z13 ?z14 ?z15 ?z16
    (case e8 => k_is); (case e9 => k_is)
    (case a0 => k_is); (case l0 => k_is); (case c0 => k_is); (case k0 => k_is); (case a1 => k_is); (case l1 => k_is); (case c1 => k_is); (case k1 => k_is)
    (case a2 => k_is); (case l2 => k_is); (case c2 => k_is); (case k2 => k_is); (case a3 => k_is); (case l3 => k_is); (case c3 => k_is); (case k3 => k_is)
    (case a4 => k_is); (case l4 => k_is); (case c4 => k_is); (case k4 => k_is); (case a5 => k_is); (case l5 => k_is); (case c5 => k_is); (case k5 => k_is)
    (case a6 => k_is); (case l6 => k_is); (case c6 => k_is); (case k6 => k_is); (case a7 => k_is); (case l7 => k_is); (case c7 => k_is); (case k7 => k_is)
    (case a8 => k_is); (case l8 => k_is); (case c8 => k_is); (case k8 => k_is); (case a9 => k_is); (case l9 => k_is); (case c9 => k_is); (case k9 => k_is)
    (case a10 => k_is); (case l10 => k_is); (case c10 => k_is); (case k10 => k_is); (case a11 => k_is); (case l11 => k_is); (case c11 => k_is); (case k11 => k_is)
    (case a12 => k_is); (case l12 => k_is); (case c12 => k_is); (case k12 => k_is); (case a13 => k_is); (case l13 => k_is); (case c13 => k_is); (case k13 => k_is)
    (case a14 => k_is); (case l14 => k_is); (case c14 => k_is); (case k14 => k_is); (case a15 => k_is); (case l15 => k_is); (case c15 => k_is); (case k15 => k_is)
    (case a16 => k_is); (case l16 => k_is); (case c16 => k_is); (case k16 => k_is); (case a17 => k_is); (case l17 => k_is); (case c17 => k_is); (case k17 => k_is)
    (case a18 => k_is); (case l18 => k_is); (case c18 => k_is); (case k18 => k_is); (case a19 => k_is); (case l19 => k_is); (case c19 => k_is); (case k19 => k_is)
    (case a20 => k_is); (case l20 => k_is); (case c20 => k_is); (case k20 => k_is); (case a21 => k_is); (case l21 => k_is); (case c21 => k_is); (case k21 => k_is)
    (case a22 => k_is); (case l22 => k_is); (case c22 => k_is); (case k22 => k_is); (case a23 => k_is); (case l23 => k_is); (case c23 => k_is); (case k23 => k_is)
    (case a24 => k_is); (case l24 => k_is); (case c24 => k_is); (case k24 => k_is); (case z0 => k_is); (case z1 => k_is); (case z2 => k_is); (case z3 => k_is)
    (case z4 => k_is); (case z5 => k_is); (case z6 => k_is); (case z7 => k_is); (case z8 => k_is); (case z9 => k_is); (case z10 => k_is); (case z11 => k_is)
    (case z12 => k_is); (case z13 => k_is); (case z14 => k_is); (case z15 => k_is); (case z16 => k_is)
