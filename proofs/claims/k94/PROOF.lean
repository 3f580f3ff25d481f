import PyProof.Rows.All
import Wide.All
import OpenK.AllK
import Wide.FinOn
import HandS.ForMost
import HandS.SortOrd
import HandS.TupLe
import KE.KDictKeyed
import HandS.DictComp
import HandS.More
import KE.KDictSum
import KE.KDictCopyH
import HandS.Wide
import HandS.TupAny
import HandS.Codes
import HandS.IsInst
import HandS.Walk
import HandS.ForExc
import HandS.ExcInit
import HandS.ExcField
import KE.KExcIs
import KE.KIsAll
import KE.BitLaws
import KE.GoesComp
import KE.KAsSuite
import KE.DataCmp
import KE.KDictPairs
import HandS.Star
import HandS.DictTup
import HandS.Zip
import HandS.Deep
import KE.DataMinMax
import KE.DataFind
import KE.GoesEnum
import HandS.Text
import HandS.FStr
import HandS.Steps
import PyProof.StrOps2
import HandS.ExcIs
import PySem.Challenge.RW_howhigh_k94_product_texts_there_and_back
set_option Elab.async false
set_option linter.all false
set_option maxRecDepth 100000
set_option maxHeartbeats 4000000
namespace HH
open PySem PySem.Spec PyProof.Rows L2 PySem.SeqAt

/-! ### the order of nested data -/
mutual
def ltK : NestedKey → NestedKey → Bool
  | .none, .none => false
  | .none, .num _ => true
  | .none, .text _ => true
  | .none, .tup _ => true
  | .num _, .none => false
  | .num a, .num b => decide (a < b)
  | .num _, .text _ => true
  | .num _, .tup _ => true
  | .text _, .none => false
  | .text _, .num _ => false
  | .text a, .text b => decide (a.cps.toList < b.cps.toList)
  | .text _, .tup _ => true
  | .tup _, .none => false
  | .tup _, .num _ => false
  | .tup _, .text _ => false
  | .tup a, .tup b => ltL a b
def ltL : List NestedKey → List NestedKey → Bool
  | [], [] => false
  | [], _ :: _ => true
  | _ :: _, [] => false
  | a :: as, b :: bs => if a = b then ltL as bs else ltK a b
end
mutual
def cmK : NestedKey → NestedKey → Bool
  | .num _, .num _ => true
  | .text _, .text _ => true
  | .tup a, .tup b => cmL a b
  | .none, _ => false
  | .num _, .none => false
  | .num _, .text _ => false
  | .num _, .tup _ => false
  | .text _, .none => false
  | .text _, .num _ => false
  | .text _, .tup _ => false
  | .tup _, .none => false
  | .tup _, .num _ => false
  | .tup _, .text _ => false
def cmL : List NestedKey → List NestedKey → Bool
  | [], [] => true
  | [], _ :: _ => true
  | _ :: _, [] => true
  | a :: as, b :: bs => cmK a b && cmL as bs
end
theorem str_ext {a b : Str} (h : a.cps.toList = b.cps.toList) : a = b := by
  cases a; cases b; simp only [Str.mk.injEq]; exact Array.ext' h
theorem lln_tri (a b : List Nat) : a < b ∨ a = b ∨ b < a := by
  rcases Classical.em (a < b) with h | h
  · exact .inl h
  · rcases Classical.em (b < a) with h' | h'
    · exact .inr (.inr h')
    · exact .inr (.inl (List.le_antisymm (List.not_lt.mp h') (List.not_lt.mp h)))
mutual
theorem ltK_tri : ∀ a b : NestedKey, ltK a b = true ∨ a = b ∨ ltK b a = true
  | .none, .none => by simp
  | .none, .num _ => by simp [ltK]
  | .none, .text _ => by simp [ltK]
  | .none, .tup _ => by simp [ltK]
  | .num _, .none => by simp [ltK]
  | .num a, .num b => by simp only [ltK, decide_eq_true_eq, NestedKey.num.injEq]; omega
  | .num _, .text _ => by simp [ltK]
  | .num _, .tup _ => by simp [ltK]
  | .text _, .none => by simp [ltK]
  | .text _, .num _ => by simp [ltK]
  | .text a, .text b => by
    simp only [ltK, decide_eq_true_eq, NestedKey.text.injEq]
    rcases lln_tri a.cps.toList b.cps.toList with h | h | h
    · exact .inl h
    · exact .inr (.inl (str_ext h))
    · exact .inr (.inr h)
  | .text _, .tup _ => by simp [ltK]
  | .tup _, .none => by simp [ltK]
  | .tup _, .num _ => by simp [ltK]
  | .tup _, .text _ => by simp [ltK]
  | .tup a, .tup b => by simp only [ltK, NestedKey.tup.injEq]; exact ltL_tri a b
theorem ltL_tri : ∀ a b : List NestedKey, ltL a b = true ∨ a = b ∨ ltL b a = true
  | [], [] => by simp
  | [], _ :: _ => by simp [ltL]
  | _ :: _, [] => by simp [ltL]
  | a :: as, b :: bs => by
    by_cases e : a = b
    · subst e
      simp only [ltL, if_true, List.cons.injEq, true_and]
      exact ltL_tri as bs
    · have e' : ¬ b = a := fun h => e h.symm
      simp only [ltL, if_neg e, if_neg e', List.cons.injEq, e, false_and, false_or]
      rcases ltK_tri a b with h | h | h
      · exact .inl h
      · exact absurd h e
      · exact .inr h
end
mutual
theorem ltK_asym : ∀ a b : NestedKey, ltK a b = true → ltK b a = false
  | .none, .none, h => by simp [ltK] at h
  | .none, .num _, h => by simp [ltK]
  | .none, .text _, h => by simp [ltK]
  | .none, .tup _, h => by simp [ltK]
  | .num _, .none, h => by simp [ltK] at h
  | .num a, .num b, h => by simp only [ltK, decide_eq_true_eq, decide_eq_false_iff_not] at h ⊢; omega
  | .num _, .text _, h => by simp [ltK]
  | .num _, .tup _, h => by simp [ltK]
  | .text _, .none, h => by simp [ltK] at h
  | .text _, .num _, h => by simp [ltK] at h
  | .text a, .text b, h => by
    simp only [ltK, decide_eq_true_eq, decide_eq_false_iff_not] at h ⊢
    exact List.lt_asymm h
  | .text _, .tup _, h => by simp [ltK]
  | .tup _, .none, h => by simp [ltK] at h
  | .tup _, .num _, h => by simp [ltK] at h
  | .tup _, .text _, h => by simp [ltK] at h
  | .tup a, .tup b, h => by simp only [ltK] at h ⊢; exact ltL_asym a b h
theorem ltL_asym : ∀ a b : List NestedKey, ltL a b = true → ltL b a = false
  | [], [], h => by simp [ltL] at h
  | [], _ :: _, h => by simp [ltL]
  | _ :: _, [], h => by simp [ltL] at h
  | a :: as, b :: bs, h => by
    by_cases e : a = b
    · subst e
      simp only [ltL, if_true] at h ⊢
      exact ltL_asym as bs h
    · have e' : ¬ b = a := fun h => e h.symm
      simp only [ltL, if_neg e, if_neg e'] at h ⊢
      exact ltK_asym a b h
end
theorem ltK_irr (a : NestedKey) : ltK a a = false := by
  cases h : ltK a a with
  | false => rfl
  | true => have := ltK_asym a a h; rw [h] at this; cases this
mutual
theorem ltK_trans : ∀ a b c : NestedKey, ltK a b = true → ltK b c = true → ltK a c = true
  | .none, b, .none, h, g => by cases b <;> simp [ltK] at h g
  | .none, b, .num _, h, g => by simp [ltK]
  | .none, b, .text _, h, g => by simp [ltK]
  | .none, b, .tup _, h, g => by simp [ltK]
  | .num _, b, .none, h, g => by cases b <;> simp [ltK] at h g
  | .num a, b, .num c, h, g => by
    cases b <;> simp [ltK] at h g
    simp only [ltK, decide_eq_true_eq]; omega
  | .num _, b, .text _, h, g => by simp [ltK]
  | .num _, b, .tup _, h, g => by simp [ltK]
  | .text _, b, .none, h, g => by cases b <;> simp [ltK] at h g
  | .text _, b, .num _, h, g => by cases b <;> simp [ltK] at h g
  | .text a, b, .text c, h, g => by
    cases b <;> simp [ltK] at h g
    simp only [ltK, decide_eq_true_eq]; exact List.lt_trans h g
  | .text _, b, .tup _, h, g => by simp [ltK]
  | .tup _, b, .none, h, g => by cases b <;> simp [ltK] at h g
  | .tup _, b, .num _, h, g => by cases b <;> simp [ltK] at h g
  | .tup _, b, .text _, h, g => by cases b <;> simp [ltK] at h g
  | .tup a, .none, .tup c, h, g => by simp [ltK] at h
  | .tup a, .num _, .tup c, h, g => by simp [ltK] at h
  | .tup a, .text _, .tup c, h, g => by simp [ltK] at h
  | .tup a, .tup b, .tup c, h, g => by simp only [ltK] at h g ⊢; exact ltL_trans a b c h g
theorem ltL_trans : ∀ a b c : List NestedKey, ltL a b = true → ltL b c = true → ltL a c = true
  | [], _, _ :: _, h, g => by simp [ltL]
  | [], b, [], h, g => by cases b <;> simp [ltL] at h g
  | _ :: _, b, [], h, g => by cases b <;> simp [ltL] at h g
  | a :: as, [], c :: cs, h, g => by simp [ltL] at h
  | a :: as, b :: bs, c :: cs, h, g => by
    by_cases e : a = b
    · subst e
      simp only [ltL, if_true] at h
      by_cases e2 : a = c
      · subst e2
        simp only [ltL, if_true] at g ⊢
        exact ltL_trans as bs cs h g
      · simp only [ltL, if_neg e2] at g ⊢
        exact g
    · simp only [ltL, if_neg e] at h
      by_cases e2 : b = c
      · subst e2
        simp only [ltL, if_neg e]
        exact h
      · simp only [ltL, if_neg e2] at g
        have t := ltK_trans a b c h g
        have ne : ¬ a = c := fun z => by subst z; rw [ltK_irr] at t; cases t
        simp only [ltL, if_neg ne]
        exact t
end
theorem ltK_swo : SrtO.Swo ltK := by
  refine ⟨ltK_asym, fun x y z h1 h2 => ?_⟩
  cases h3 : ltK z x with
  | false => rfl
  | true =>
    rcases ltK_tri y z with h | h | h
    · have := ltK_trans y z x h h3; rw [h1] at this; cases this
    · subst h; rw [h1] at h3; cases h3
    · rw [h2] at h; cases h
end HH
namespace HH
open PySem PySem.Spec PyProof.Rows L2 PySem.SeqAt

/-! ### nested data in the heap, without flags -/
mutual
inductive DIs (h : Heap) : NestedKey → Value → Prop
  | int (i : Int) (t : Tok) : DIs h (.num i) (.int i t)
  | text (x : Str) (t : Tok) : DIs h (.text x) (.str x t)
  | tup {a : Addr} {vs : Array Value} {ks : List NestedKey} : h.IsTuple a vs → DAll h ks vs.toList → DIs h (.tup ks) (.ref a)
inductive DAll (h : Heap) : List NestedKey → List Value → Prop
  | nil : DAll h [] []
  | cons {k : NestedKey} {ks : List NestedKey} {v : Value} {vs : List Value} : DIs h k v → DAll h ks vs → DAll h (k :: ks) (v :: vs)
end
mutual
theorem DIs.nested {h : Heap} : ∀ (k : NestedKey) (v : Value), DIs h k v → NestedIs h k v
  | .none, _, x => nomatch x
  | .num i, _, x => by cases x; exact .int _ _
  | .text i, _, x => by cases x; exact .text _ _
  | .tup ks, _, x => by
    cases x with
    | tup p r =>
      obtain ⟨o, ho, hc, n, hd⟩ := p
      exact .tup ho hc hd (DAll.nested ks _ r)
theorem DAll.nested {h : Heap} : ∀ (k : List NestedKey) (v : List Value), DAll h k v → NestedAll h k v
  | [], _, x => by cases x; exact .nil
  | k :: ks, _, x => by
    cases x with
    | cons p r => exact .cons (DIs.nested k _ p) (DAll.nested ks _ r)
end
mutual
theorem DIs.keep {h h' : Heap} (hk : ∀ a vs, h.IsTuple a vs → h'.IsTuple a vs) : ∀ (k : NestedKey) (v : Value), DIs h k v → DIs h' k v
  | .none, _, x => nomatch x
  | .num i, _, x => by cases x; exact .int _ _
  | .text i, _, x => by cases x; exact .text _ _
  | .tup ks, _, x => by
    cases x with
    | tup p r => exact .tup (hk _ _ p) (DAll.keep hk ks _ r)
theorem DAll.keep {h h' : Heap} (hk : ∀ a vs, h.IsTuple a vs → h'.IsTuple a vs) : ∀ (k : List NestedKey) (v : List Value), DAll h k v → DAll h' k v
  | [], _, x => by cases x; exact .nil
  | k :: ks, _, x => by
    cases x with
    | cons p r => exact .cons (DIs.keep hk k _ p) (DAll.keep hk ks _ r)
end
theorem DAll.length {h : Heap} : ∀ {ks : List NestedKey} {vs : List Value}, DAll h ks vs → vs.length = ks.length
  | [], _, x => by cases x; rfl
  | k :: ks, _, x => by
    cases x with
    | cons p r => simp [DAll.length r]
theorem DAll.get {h : Heap} : ∀ {ks : List NestedKey} {vs : List Value}, DAll h ks vs → ∀ (j : Nat) (h1 : j < vs.length) (h2 : j < ks.length), DIs h ks[j] vs[j]
  | [], _, x, j, h1, h2 => absurd h2 (Nat.not_lt_zero _)
  | k :: ks, _, x, j, h1, h2 => by
    cases x with
    | cons p r =>
      cases j with
      | zero => exact p
      | succ j => exact DAll.get r j _ _
theorem DAll.mem {h : Heap} : ∀ {ks : List NestedKey} {vs : List Value}, DAll h ks vs → ∀ v ∈ vs, ∃ k ∈ ks, DIs h k v
  | [], _, x, v, hv => by cases x; cases hv
  | k :: ks, _, x, v, hv => by
    cases x with
    | cons p r =>
      rcases List.mem_cons.mp hv with e | e
      · subst e; exact ⟨k, List.mem_cons_self, p⟩
      · obtain ⟨k', m, q⟩ := DAll.mem r v e
        exact ⟨k', List.mem_cons_of_mem _ m, q⟩
def kEq (xs ys : List NestedKey) (j : Nat) : Bool := NestedKey.beq (xs.getD j .none) (ys.getD j .none)
def kLt (xs ys : List NestedKey) (j : Nat) : Bool := ltK (xs.getD j .none) (ys.getD j .none)
theorem lexAt_shift {e r e' r' : Nat → Bool} {z : Bool} : ∀ (k i : Nat), (∀ j, i ≤ j → e (j + 1) = e' j) → (∀ j, i ≤ j → r (j + 1) = r' j) → Ob.lexAt e r z (i + 1) k = Ob.lexAt e' r' z i k
  | 0, i, _, _ => rfl
  | k + 1, i, h1, h2 => by
    rw [Ob.lexAt_succ, Ob.lexAt_succ, h1 i (Nat.le_refl _), h2 i (Nat.le_refl _), lexAt_shift k (i + 1) (fun j hj => h1 j (by omega)) (fun j hj => h2 j (by omega))]
theorem lexAt_lt : ∀ (xs ys : List NestedKey), Ob.lexAt (kEq xs ys) (kLt xs ys) (decide (xs.length < ys.length)) 0 (min xs.length ys.length) = ltL xs ys
  | [], [] => by simp [Ob.lexAt_zero, ltL]
  | [], y :: ys => by simp [Ob.lexAt_zero, ltL]
  | x :: xs, [] => by simp [Ob.lexAt_zero, ltL]
  | x :: xs, y :: ys => by
    have ih := lexAt_lt xs ys
    have em : min (x :: xs).length (y :: ys).length = min xs.length ys.length + 1 := by simp only [List.length_cons]; omega
    rw [em, Ob.lexAt_succ, ltL]
    have e0 : kEq (x :: xs) (y :: ys) 0 = NestedKey.beq x y := rfl
    have r0 : kLt (x :: xs) (y :: ys) 0 = ltK x y := rfl
    rw [e0, r0]
    by_cases e : x = y
    · subst e
      rw [NestedKey.beq_self, if_pos rfl, if_pos rfl]
      have ez : decide ((x :: xs).length < (x :: ys).length) = decide (xs.length < ys.length) := by simp
      rw [ez, ← ih]
      exact lexAt_shift _ 0 (fun j _ => rfl) (fun j _ => rfl)
    · have hb : NestedKey.beq x y = false := by
        cases h : NestedKey.beq x y with
        | false => rfl
        | true => exact absurd (NestedKey.eq_of_beq x y h) e
      rw [hb, if_neg (by simp), if_neg e]
theorem cmL_get : ∀ {xs ys : List NestedKey}, cmL xs ys = true → ∀ (j : Nat) (h1 : j < xs.length) (h2 : j < ys.length), cmK xs[j] ys[j] = true
  | [], _, _, j, h1, _ => absurd h1 (Nat.not_lt_zero _)
  | _ :: _, [], _, j, _, h2 => absurd h2 (Nat.not_lt_zero _)
  | x :: xs, y :: ys, h, j, h1, h2 => by
    rw [cmL, Bool.and_eq_true] at h
    cases j with
    | zero => exact h.1
    | succ j => exact cmL_get h.2 j _ _
theorem depth_mem {ks : List NestedKey} : ∀ {k : NestedKey}, k ∈ ks → k.depth ≤ NestedKey.depthAll ks := by
  induction ks with
  | nil => intro k h; cases h
  | cons a as ih =>
    intro k h
    simp only [NestedKey.depthAll]
    rcases List.mem_cons.mp h with e | e
    · subst e; omega
    · have := ih e; omega
/-- u < v of nested data -/
theorem rc_lt : ∀ (n : Nat) (x y : NestedKey) (A : Around) (s : Shared) (u v : Value), x.depth ≤ n → DIs s.heap x u → DIs s.heap y v → cmK x y = true → A.units + x.depth < cLine → Ob.RcOp .Lt A s u v (ltK x y)
  | n, .none, y, A, s, u, v, hn, hx, hy, hc, hu => nomatch hx
  | n, .num a, y, A, s, u, v, hn, hx, hy, hc, hu => by
    cases hy with
    | int b t => cases hx; exact Ob.RcOp.lt_int _ _ _ _
    | text b t => simp [cmK] at hc
    | tup p r => simp [cmK] at hc
  | n, .text a, y, A, s, u, v, hn, hx, hy, hc, hu => by
    cases hy with
    | int b t => simp [cmK] at hc
    | text b t => cases hx; exact fun _ _ _ _ h => PyProof.Rows.lt_str h
    | tup p r => simp [cmK] at hc
  | 0, .tup xs, y, A, s, u, v, hn, hx, hy, hc, hu => by simp [NestedKey.depth] at hn
  | n + 1, .tup xs, y, A, s, u, v, hn, hx, hy, hc, hu => by
    cases hy with
    | int b t => simp [cmK] at hc
    | text b t => simp [cmK] at hc
    | @tup b vs' ys p' r' =>
      cases hx with
      | @tup a vs xs p r =>
        simp only [NestedKey.depth] at hn hu
        simp only [cmK] at hc
        have l1 : vs.size = xs.length := by simpa using r.length
        have l2 : vs'.size = ys.length := by simpa using r'.length
        have hu1 : A.in1.units = A.units + 1 := rfl
        have key := Ob.RcOp.tuples_lt (e := kEq xs ys) (r := kLt xs ys) p p' (A := A) (s := s) (by omega) (fun j h1 h2 => ?_) (fun j h1 h2 _ => ?_)
        · rw [l1, l2, lexAt_lt] at key
          simpa only [ltK] using key
        · have q1 := r.get j (by simpa using h1) (by omega)
          have q2 := r'.get j (by simpa using h2) (by omega)
          have m1 := depth_mem (List.getElem_mem (h := show j < xs.length by omega))
          have := eqAt_key xs[j] ys[j] A.in1 s _ _ (q1.nested _ _) (q2.nested _ _) (by omega)
          simp only [kEq, List.getD_eq_getElem?_getD, List.getElem?_eq_getElem (show j < xs.length by omega), List.getElem?_eq_getElem (show j < ys.length by omega), Option.getD_some]
          simpa using this
        · have q1 := r.get j (by simpa using h1) (by omega)
          have q2 := r'.get j (by simpa using h2) (by omega)
          have m1 := depth_mem (List.getElem_mem (h := show j < xs.length by omega))
          have := rc_lt n xs[j] ys[j] A.in1 s _ _ (by omega) q1 q2 (cmL_get hc j _ _) (by omega)
          simp only [kLt, List.getD_eq_getElem?_getD, List.getElem?_eq_getElem (show j < xs.length by omega), List.getElem?_eq_getElem (show j < ys.length by omega), Option.getD_some]
          simpa using this
end HH
namespace HH
open PySem PySem.Spec PyProof.Rows L2 PySem.SeqAt

def tyK : NestedKey → String
  | .none => "NoneType"
  | .num _ => "int"
  | .text _ => "str"
  | .tup _ => "tuple"
theorem DIs.type {M : Model} {h : Heap} {k : NestedKey} {v : Value} (x : DIs h k v) : PySem.W.Looks M h (typeOf v) (.type (tyK k)) := by
  cases x with
  | int i t => exact PySem.W.Looks.now
  | text i t => exact PySem.W.Looks.now
  | tup p r =>
    obtain ⟨o, ho, hc, n, hd⟩ := p
    have q : PySem.W.Looks M h (typeOf (.ref _)) o.cls := (PySem.W.Looks.ld ho).andThen .now
    rw [hc] at q
    exact q
/-- the first item of a tuple that has one -/
inductive Fst (h : Heap) : NestedKey → Option Value → Prop
  | num (i : Int) : Fst h (.num i) none
  | text (x : Str) : Fst h (.text x) none
  | emp : Fst h (.tup []) none
  | tup {k : NestedKey} {ks : List NestedKey} {u : Value} : DIs h k u → Fst h (.tup (k :: ks)) (some u)
section
variable {M : Model} {A : Around} {s : Shared}
theorem first_one {k : NestedKey} {v : Value} (x : DIs s.heap k v) : ∃ f, Fst s.heap k f ∧ ∀ (E : Value → Shared → Prop) (Q : Option Value → Shared → Prop), Q f s → wpAny M A (firstOfTuple' v) Q E s := by
  have ty := x.type (M := M)
  cases x with
  | int i t =>
    refine ⟨none, .num i, fun E Q q => ?_⟩
    rw [PySem.W.kas_first_eq]
    refine wpAny_bind (ty.here ?_)
    rw [if_pos (by first | rfl | decide +kernel)]
    exact wpAny_pure q
  | text i t =>
    refine ⟨none, .text i, fun E Q q => ?_⟩
    rw [PySem.W.kas_first_eq]
    refine wpAny_bind (ty.here ?_)
    rw [if_pos (by first | rfl | decide +kernel)]
    exact wpAny_pure q
  | @tup a vs ks p r =>
    obtain ⟨o, ho, hc, n, hd⟩ := p
    have run : ∀ (E : Value → Shared → Prop) (Q : Option Value → Shared → Prop), Q vs[0]? s → wpAny M A (firstOfTuple' (.ref a)) Q E s := fun E Q q => by
      rw [PySem.W.kas_first_eq]
      refine wpAny_bind (ty.here ?_)
      rw [if_neg (by show ¬ (Value.type "tuple" != Value.type "tuple") = true; decide +kernel)]
      exact wpAny_bind (listItems_at ho hd (wpAny_pure q))
    rw [← Array.getElem?_toList] at run
    cases r' : vs.toList with
    | nil =>
      rw [r'] at r run
      cases r
      exact ⟨none, .emp, run⟩
    | cons u us =>
      rw [r'] at r run
      cases r with
      | cons y ys => exact ⟨some u, .tup y, run⟩
theorem firsts_run (M : Model) (A : Around) {s : Shared} : ∀ {ks : List NestedKey} {vs : List Value}, DAll s.heap ks vs → ∃ fs : List (Option Value), Paired (Fst s.heap) ks fs ∧ ∀ (E : Value → Shared → Prop) (Q : List (Option Value) → Shared → Prop), Q fs s → wpAny M A (vs.mapM firstOfTuple') Q E s
  | [], _, x => by
    cases x
    exact ⟨[], .nil, fun E Q q => by rw [List.mapM_nil]; exact wpAny_pure q⟩
  | k :: ks, _, x => by
    cases x with
    | cons p r =>
      obtain ⟨f, hf, rf⟩ := first_one (M := M) (A := A) p
      obtain ⟨fs, hfs, rfs⟩ := firsts_run M A r
      refine ⟨f :: fs, .cons hf hfs, fun E Q q => ?_⟩
      rw [List.mapM_cons]
      exact wpAny_bind (rf _ _ (wpAny_bind (rfs _ _ (wpAny_pure q))))
variable {E : Value → Shared → Prop}
theorem types_run : ∀ {ks : List NestedKey} {vs : List Value}, DAll s.heap ks vs → ∀ Q : List Value → Shared → Prop, Q (ks.map fun k => Value.type (tyK k)) s → wpAny M A (vs.mapM typeOf) Q E s
  | [], _, x, Q, q => by
    cases x
    rw [List.mapM_nil]; exact wpAny_pure q
  | k :: ks, _, x, Q, q => by
    cases x with
    | cons p r =>
      rw [List.mapM_cons]
      exact wpAny_bind ((p.type (M := M)).here (wpAny_bind (types_run r _ (wpAny_pure q))))
def oneTy (ks : List NestedKey) : Option Value := match ks with
  | [] => none
  | k :: ks => if ((k :: ks).map fun k => Value.type (tyK k)).toArray.all (· == Value.type (tyK k)) then some (Value.type (tyK k)) else none
theorem oneTy_run {ks : List NestedKey} {vs : List Value} (x : DAll s.heap ks vs) {Q : Option Value → Shared → Prop} (q : Q (oneTy ks) s) : wpAny M A (oneTypeOnly' vs.toArray) Q E s := by
  rw [oneTypeOnly'_eq, List.mapM_toArray, map_eq_pure_bind]
  refine wpAny_bind (wpAny_bind (types_run x _ (wpAny_pure ?_)))
  cases ks with
  | nil => exact wpAny_pure q
  | cons k ks =>
    have h0 : (List.map (fun k => Value.type (tyK k)) (k :: ks)).toArray[0]? = some (Value.type (tyK k)) := by simp
    rw [h0]
    exact wpAny_pure q
theorem vtype_eq {a b : String} (h : (Value.type a == Value.type b) = true) : a = b := by
  have : Value.type a = Value.type b := by first | exact eq_of_beq h | exact (beq_iff_eq ..).mp h
  exact Value.type.inj this
theorem oneTy_some {ks : List NestedKey} {t : Value} (h : oneTy ks = some t) : ∀ k ∈ ks, Value.type (tyK k) = t := by
  cases ks with
  | nil => intro k hk; cases hk
  | cons a as =>
    intro k hk
    simp only [oneTy] at h
    split at h
    · rename_i hall
      have e := Option.some.inj h
      rw [← e]
      simp only [List.all_toArray, List.all_map, List.all_eq_true] at hall
      have := vtype_eq (hall k hk)
      rw [this]
    · cases h
inductive KindOk (h : Heap) (ks : List NestedKey) : SortKind → Prop
  | gen : KindOk h ks general'
  | one : (∃ T, ∀ k ∈ ks, tyK k = T) → KindOk h ks oneType'
  | tup (b : Bool) : (∀ k ∈ ks, ∃ k0 r, k = .tup (k0 :: r)) → (b = true → ∃ T, T ≠ "tuple" ∧ ∀ k ∈ ks, ∀ k0 r, k = .tup (k0 :: r) → tyK k0 = T) → KindOk h ks (tuples' b)
theorem heads_of {h : Heap} : ∀ {ks : List NestedKey} {fs : List (Option Value)}, Paired (Fst h) ks fs → (fs.all (·.isSome)) = true → ∃ hs us, fs = us.map some ∧ DAll h hs us ∧ (∀ k ∈ ks, ∃ k0 r, k = .tup (k0 :: r) ∧ k0 ∈ hs)
  | [], _, x, _ => by cases x; exact ⟨[], [], rfl, .nil, fun k hk => nomatch hk⟩
  | k :: ks, _, x, ha => by
    cases x with
    | cons p r =>
      rw [List.all_cons, Bool.and_eq_true] at ha
      obtain ⟨hs, us, e1, e2, e3⟩ := heads_of r ha.2
      cases p with
      | num i => simp at ha
      | text i => simp at ha
      | emp => simp at ha
      | @tup k0 ks0 u q =>
        refine ⟨k0 :: hs, u :: us, by rw [e1]; rfl, .cons q e2, fun k hk => ?_⟩
        rcases List.mem_cons.mp hk with e | e
        · exact ⟨k0, ks0, e, List.mem_cons_self⟩
        · obtain ⟨a, b, c, d⟩ := e3 k e
          exact ⟨a, b, c, List.mem_cons_of_mem _ d⟩
theorem kind_run (M : Model) (A : Around) {s : Shared} {ks : List NestedKey} {vs : List Value} (x : DAll s.heap ks vs) : ∃ κ, KindOk s.heap ks κ ∧ ∀ (Q : SortKind → Shared → Prop) (E : Value → Shared → Prop), Q κ s → wpAny M A (keyKind' vs.toArray) Q E s := by
  obtain ⟨fs, hfs, rfs⟩ := firsts_run M A x
  by_cases hall : fs.all (·.isSome) = true
  · obtain ⟨hs, us, e1, e2, e3⟩ := heads_of hfs hall
    refine ⟨tuples' ((oneTy hs).any (· != .type "tuple")), .tup _ (fun k hk => by obtain ⟨a, b, c, _⟩ := e3 k hk; exact ⟨a, b, c⟩) (fun hb => ?_), fun Q E q => ?_⟩
    · cases h : oneTy hs with
      | none => rw [h] at hb; simp at hb
      | some t =>
        rw [h] at hb
        have all := oneTy_some h
        cases hs with
        | nil => simp [oneTy] at h
        | cons k0 hs =>
          have e := all k0 List.mem_cons_self
          refine ⟨tyK k0, fun z => ?_, fun k hk k1 r hk1 => ?_⟩
          · rw [← e, z] at hb
            exact absurd hb (by show ¬ (Value.type "tuple" != Value.type "tuple") = true; decide +kernel)
          · obtain ⟨a, b, c, d⟩ := e3 k hk
            rw [hk1] at c
            injection c with c
            injection c with c1 c2
            subst c1
            exact Value.type.inj ((all _ d).trans e.symm)
    · rw [keyKind'_eq, List.mapM_toArray, map_eq_pure_bind]
      refine wpAny_bind (wpAny_bind (rfs _ _ (wpAny_pure ?_)))
      have hall' : (fs.toArray.all fun x => x.isSome) = true := by simpa using hall
      rw [if_pos hall']
      refine wpAny_bind (wpAny_rule ?_)
      have hfm : (fs.toArray.filterMap id) = us.toArray := by rw [e1]; simp
      rw [hfm]
      exact wpAny_bind (oneTy_run e2 (wpAny_pure q))
  · by_cases h0 : ((fs.toArray[0]?).bind id).isSome = true
    · refine ⟨general', .gen, fun Q E q => ?_⟩
      rw [keyKind'_eq, List.mapM_toArray, map_eq_pure_bind]
      refine wpAny_bind (wpAny_bind (rfs _ _ (wpAny_pure ?_)))
      have hall' : ¬ (fs.toArray.all fun x => x.isSome) = true := by simpa using hall
      rw [if_neg hall', if_pos h0]
      exact wpAny_pure q
    · cases h1 : oneTy ks with
      | none =>
        refine ⟨general', .gen, fun Q E q => ?_⟩
        rw [keyKind'_eq, List.mapM_toArray, map_eq_pure_bind]
        refine wpAny_bind (wpAny_bind (rfs _ _ (wpAny_pure ?_)))
        have hall' : ¬ (fs.toArray.all fun x => x.isSome) = true := by simpa using hall
        rw [if_neg hall', if_neg h0]
        refine wpAny_bind (oneTy_run x ?_)
        rw [h1]
        exact wpAny_pure q
      | some t =>
        refine ⟨oneType', .one ?_, fun Q E q => ?_⟩
        · have all := oneTy_some h1
          cases ks with
          | nil => simp [oneTy] at h1
          | cons k0 ks =>
            have e := all k0 List.mem_cons_self
            exact ⟨tyK k0, fun k hk => Value.type.inj ((all _ hk).trans e.symm)⟩
        · rw [keyKind'_eq, List.mapM_toArray, map_eq_pure_bind]
          refine wpAny_bind (wpAny_bind (rfs _ _ (wpAny_pure ?_)))
          have hall' : ¬ (fs.toArray.all fun x => x.isSome) = true := by simpa using hall
          rw [if_neg hall', if_neg h0]
          refine wpAny_bind (oneTy_run x ?_)
          rw [h1]
          exact wpAny_pure q
end

/-! ### what sort asks of two items -/
section
variable {prog : Program} {w : World} {A : Around} {E : Value → Shared → Prop} {s : Shared}
theorem one_lt {x y : NestedKey} {u v : Value} {Q : Bool → Shared → Prop} (b : Bool) (hx : DIs s.heap x u) (hy : DIs s.heap y v) (hc : cmK x y = true) (hu : A.units + x.depth < cLine) (h : Q (ltK x y) s) : wpAny (model prog w) A (oneLt' b u v) Q E s := by
  cases b with
  | false => exact PySem.W.kat_one _ _ (rc_lt _ x y A s u v (Nat.le_refl _) hx hy hc hu prog w _ _ h)
  | true =>
    cases hx with
    | int i t =>
      cases hy with
      | int j t' => exact oneLt_int h
      | text _ _ => simp [cmK] at hc
      | tup _ _ => simp [cmK] at hc
    | text i t =>
      cases hy with
      | int j t' => simp [cmK] at hc
      | text _ _ => exact oneLt_str h
      | tup _ _ => simp [cmK] at hc
    | @tup a vs xs p r =>
      cases hy with
      | int j t' => simp [cmK] at hc
      | text _ _ => simp [cmK] at hc
      | @tup b vs' ys p' r' =>
        simp only [NestedKey.depth] at hu
        simp only [cmK] at hc
        have l1 : vs.size = xs.length := by simpa using r.length
        have l2 : vs'.size = ys.length := by simpa using r'.length
        have hu1 : A.in1.units = A.units + 1 := rfl
        rw [oneLt'_eq]
        simp only [if_true]
        refine wpAny_bind (wpAny_cRoomFor (by omega) ?_)
        obtain ⟨⟨cls, dd, data, sl⟩, ho, hcl, n, hd⟩ := id p
        obtain ⟨⟨cls2, dd2, data2, sl2⟩, ho2, hc2, n2, hd2⟩ := id p'
        simp only at hcl hd hc2 hd2
        subst hcl hd hc2 hd2
        refine wpAny_bind (wpAny_callSpecialIfBound?_slot ⟨_, ho, rfl⟩ F.slot_tuple_lt (call_meets F.slot_tuple_lt ⟨_, ho, rfl⟩ F.entry_tuple_lt (F.args_tuple_lt_2 _ _)
          (Ob.tuple_ltAt a b vs vs' n n2 dd dd2 sl sl2 (kEq xs ys) (kLt xs ys)) ⟨ho, ho2, fun j h1 h2 => ?_, fun j h1 h2 _ => ?_, ?_⟩))
        · have q1 := r.get j (by simpa using h1) (by omega)
          have q2 := r'.get j (by simpa using h2) (by omega)
          have m1 := depth_mem (List.getElem_mem (h := show j < xs.length by omega))
          have := eqAt_key xs[j] ys[j] A.in1 s _ _ (q1.nested _ _) (q2.nested _ _) (by omega)
          simp only [kEq, List.getD_eq_getElem?_getD, List.getElem?_eq_getElem (show j < xs.length by omega), List.getElem?_eq_getElem (show j < ys.length by omega), Option.getD_some]
          simpa using this
        · have q1 := r.get j (by simpa using h1) (by omega)
          have q2 := r'.get j (by simpa using h2) (by omega)
          have m1 := depth_mem (List.getElem_mem (h := show j < xs.length by omega))
          have := rc_lt _ xs[j] ys[j] A.in1 s _ _ (Nat.le_refl _) q1 q2 (cmL_get hc j _ _) (by omega)
          simp only [kLt, List.getD_eq_getElem?_getD, List.getElem?_eq_getElem (show j < xs.length by omega), List.getElem?_eq_getElem (show j < ys.length by omega), Option.getD_some]
          simpa using this
        · rw [l1, l2, lexAt_lt]
          exact wpAny_truthy_bool (by simpa only [ltK] using h)
theorem kat_run : ∀ (xs ys : List NestedKey) (us vs : List Value) (b fin : Bool) (i : Nat) (Q : Bool → Shared → Prop), DAll s.heap xs us → DAll s.heap ys vs → cmL xs ys = true → A.units + NestedKey.depthAll xs < cLine →
    fin = decide (xs.length < ys.length) → Q (ltL xs ys) s → PySem.W.KatLex prog w A b fin Q (us.zip vs) i s
  | [], ys, _, vs, b, fin, i, Q, hx, hy, hc, hu, hf, q => by
    cases hx
    rw [List.zip_nil_left]
    refine PySem.W.kat_nil ?_
    rw [hf]
    cases ys with
    | nil => simpa [ltL] using q
    | cons y ys => simpa [ltL] using q
  | x :: xs, [], _, _, b, fin, i, Q, hx, hy, hc, hu, hf, q => by
    cases hy
    rw [List.zip_nil_right]
    refine PySem.W.kat_nil ?_
    rw [hf]
    simpa [ltL] using q
  | x :: xs, y :: ys, _, _, b, fin, i, Q, hx, hy, hc, hu, hf, q => by
    cases hx with
    | cons p r =>
      cases hy with
      | cons p' r' =>
        rw [cmL, Bool.and_eq_true] at hc
        simp only [NestedKey.depthAll] at hu
        rw [List.zip_cons_cons]
        refine PySem.W.kat_cons (eqAt_key x y A s _ _ (p.nested _ _) (p'.nested _ _) (by omega) prog w _ _ ?_)
        by_cases e : x = y
        · subst e
          rw [NestedKey.beq_self]
          simp only [ltL, if_true] at q
          exact PySem.W.kat_yes (kat_run xs ys _ _ b fin (i + 1) Q r r' hc.2 (by omega) (by rw [hf]; simp) q)
        · have hb : NestedKey.beq x y = false := by
            cases h : NestedKey.beq x y with
            | false => rfl
            | true => exact absurd (NestedKey.eq_of_beq x y h) e
          rw [hb]
          simp only [ltL, if_neg e] at q
          exact PySem.W.kat_no (one_lt _ p p' hc.1 (by omega) q)
/-- the key of a value -/
noncomputable def keyOf (h : Heap) (v : Value) : NestedKey := open Classical in if x : ∃ k, NestedIs h k v then x.choose else .none
theorem keyOf_eq {h : Heap} {k : NestedKey} {v : Value} (x : DIs h k v) : keyOf h v = k := by
  have e : ∃ k, NestedIs h k v := ⟨k, x.nested _ _⟩
  unfold keyOf
  rw [dif_pos e]
  exact NestedIs.inj _ _ _ e.choose_spec (x.nested _ _)
theorem swo_key (h : Heap) : SrtO.Swo fun v u => ltK (keyOf h v) (keyOf h u) := ⟨fun x y => ltK_swo.asym _ _, fun x y z => ltK_swo.tr _ _ _⟩
theorem cmp_ok {h0 : Heap} {ks : List NestedKey} {vs : List Value} {κ : SortKind} (x : DAll s.heap ks vs) (h0k : ∀ v ∈ vs, ∀ k, DIs s.heap k v → keyOf h0 v = k) (K : KindOk s.heap ks κ) (hc : ∀ a ∈ ks, ∀ b ∈ ks, cmK a b = true) (hu : A.units + NestedKey.depthAll ks < cLine) :
    SrtO.Cmp prog w A s κ (fun p => p.1 ∈ vs) (SrtO.lt2 fun v u => ltK (keyOf h0 v) (keyOf h0 u)) := by
  intro p q hp hq
  obtain ⟨a, ma, ha⟩ := x.mem _ hp
  obtain ⟨b, mb, hb⟩ := x.mem _ hq
  have e : SrtO.lt2 (fun v u => ltK (keyOf h0 v) (keyOf h0 u)) p q = ltK a b := by
    show ltK (keyOf h0 p.1) (keyOf h0 q.1) = _
    rw [h0k _ hp a ha, h0k _ hq b hb]
  rw [e]
  have c := hc a ma b mb
  have d := depth_mem ma
  have fin : s = s ∧ ltK a b = ltK a b := ⟨rfl, rfl⟩
  cases K with
  | gen => exact one_lt false ha hb c (by omega) fin
  | one _ => exact one_lt true ha hb c (by omega) fin
  | tup bb h1 h2 =>
    obtain ⟨k0, r0, e0⟩ := h1 a ma
    obtain ⟨k1, r1, e1⟩ := h1 b mb
    subst e0 e1
    generalize p.1 = u at ha hp e ⊢
    generalize q.1 = v at hb hq e ⊢
    cases ha with
    | tup pa ra =>
      cases hb with
      | tup pb rb =>
        obtain ⟨o, ho, _, n, hd⟩ := pa
        obtain ⟨o', ho', _, n', hd'⟩ := pb
        simp only [NestedKey.depth] at d
        simp only [cmK] at c
        refine PySem.W.kat_lt ho hd ho' hd' (kat_run _ _ _ _ bb _ 0 _ ra rb c (by omega) ?_ (by simp [ltK]))
        have l1 := ra.length
        have l2 := rb.length
        simp only [Array.length_toList] at l1 l2
        rw [l1, l2]
/-- sorted(l) of nested data, all alike -/
theorem sorted_keys {l : Addr} {ks : List NestedKey} {vs : List Value} {Q : Value → Shared → Prop} (hl : s.heap.IsList l vs.toArray) (hz : vs.length ≤ sizeLine) (x : DAll s.heap ks vs) (hc : ∀ a ∈ ks, ∀ b ∈ ks, cmK a b = true) (hu : A.units + 2 + NestedKey.depthAll ks < cLine)
    (h : ∀ (h' : Heap) (d : Addr) (out : List Value), SrtO.Srtd (fun v u => ltK (keyOf s.heap v) (keyOf s.heap u)) out → out.Perm vs → (∀ b o, s.heap.get? b = some o → h'.get? b = some o) → s.heap.objs.size ≤ d → (∃ n, h'.get? d = some (seqObj "list" out.toArray n)) → Q (.ref d) { s with heap := h' }) :
    wpAny (model prog w) A (call (.builtin "sorted") [.ref l]) Q E s := by
  refine SrtO.sorted_ord (swo_key s.heap) hl hz (fun h2 h₁ a ha kk => ?_) fun out hs hb => ?_
  · intro h' keep
    have ne : ∀ b vs', s.heap.IsTuple b vs' → b ≠ a := fun b vs' ⟨o, ho, hc, _⟩ => (kk b o ho).1
    have xk : DAll h' ks vs := x.keep (fun b vs' ⟨o, ho, hcl, n, hd⟩ => ⟨o, keep b o (kk b o ho).1 (kk b o ho).2, hcl, n, hd⟩) _ _
    obtain ⟨κ, K, run⟩ := kind_run (model prog w) A.in1.in1 (s := { s with heap := h' }) xk
    refine ⟨κ, run, cmp_ok (s := { s with heap := h' }) xk (fun v hv k hk => ?_) K hc (by show A.units + 1 + 1 + _ < _; omega)⟩
    obtain ⟨k', mk, hk'⟩ := x.mem v hv
    have hk2 : DIs h' k' v := DIs.keep (fun b vs' ⟨o, ho, hcl, n, hd⟩ => ⟨o, keep b o (kk b o ho).1 (kk b o ho).2, hcl, n, hd⟩) _ _ hk'
    rw [keyOf_eq hk']
    exact NestedIs.inj _ _ _ (hk2.nested _ _) (hk.nested _ _)
  · exact h _ _ out hs hb.perm (fun b o e => sortedAll_old e) (Nat.le_succ _) (sortedAll_at s.heap vs out.toArray)
end
end HH
namespace HH
open PySem PySem.Spec PyProof.Rows L2 PySem.SeqAt

/-! ### nested data over the tracked heap -/
mutual
def IsK (K : PySem.W.Frag) (H : Hp) : NestedKey → V → Prop
  | .none, _ => False
  | .num i, v => v = .int i
  | .text x, v => v = .str x
  | .tup ks, v => ∃ a vs, v = .ref a ∧ SqT K H a vs ∧ IsKs K H ks vs
def IsKs (K : PySem.W.Frag) (H : Hp) : List NestedKey → List V → Prop
  | [], vs => vs = []
  | k :: ks, vs => ∃ v r, vs = v :: r ∧ IsK K H k v ∧ IsKs K H ks r
end
/-- tuples stay -/
def Tup (K : PySem.W.Frag) (H H' : Hp) : Prop := ∀ a xs, SqT K H a xs → SqT K H' a xs
theorem same_tup {K : PySem.W.Frag} {H H' : Hp} (e : Same H H') : Tup K H H' := fun a xs h => by
  rcases h with (h | ⟨o, h⟩) | h
  · exact .inl (.inl (e _ _ h))
  · exact .inl (.inr ⟨o, e _ _ h⟩)
  · exact .inr h
section
variable {K : PySem.W.Frag} {H H' : Hp}
mutual
theorem IsK.keep (t : Tup K H H') : ∀ (k : NestedKey) (v : V), IsK K H k v → IsK K H' k v
  | .none, _, h => h
  | .num i, v, h => h
  | .text x, v, h => h
  | .tup ks, v, ⟨a, vs, e, s, r⟩ => ⟨a, vs, e, t _ _ s, IsKs.keep t ks vs r⟩
theorem IsKs.keep (t : Tup K H H') : ∀ (k : List NestedKey) (v : List V), IsKs K H k v → IsKs K H' k v
  | [], _, h => h
  | k :: ks, v, ⟨x, r, e, a, b⟩ => ⟨x, r, e, IsK.keep t k x a, IsKs.keep t ks r b⟩
end
theorem IsKs.length : ∀ {ks : List NestedKey} {vs : List V}, IsKs K H ks vs → vs.length = ks.length
  | [], _, h => by rw [show _ = [] from h]; rfl
  | k :: ks, _, ⟨x, r, e, a, b⟩ => by rw [e, List.length_cons, List.length_cons, IsKs.length b]
theorem IsKs.get : ∀ {ks : List NestedKey} {vs : List V} {i : Nat} {k : NestedKey}, IsKs K H ks vs → ks[i]? = some k → ∃ v, vs[i]? = some v ∧ IsK K H k v
  | [], _, i, k, h, e => by simp at e
  | k :: ks, _, 0, k', ⟨x, r, e, a, b⟩, e' => by
    subst e
    obtain rfl : k = k' := by simpa using e'
    exact ⟨x, rfl, a⟩
  | k :: ks, _, i + 1, k', ⟨x, r, e, a, b⟩, e' => by
    subst e
    exact IsKs.get (i := i) b (by simpa using e')
theorem IsKs.app : ∀ {ks ls : List NestedKey} {vs us : List V}, IsKs K H ks vs → IsKs K H ls us → IsKs K H (ks ++ ls) (vs ++ us)
  | [], _, _, _, h, g => by rw [show _ = [] from h]; exact g
  | k :: ks, _, _, _, ⟨x, r, e, a, b⟩, g => ⟨x, r ++ _, by rw [e]; rfl, a, IsKs.app b g⟩
end
section
variable {X : Cx} {pins : List (Addr × Obj)} {σ : L2.St} {H : Hp} {s : Shared}
theorem isTup_iff {h : Heap} {a : Addr} {vs : Array Value} (p : IsTup h a vs) : h.IsTuple a vs := p
mutual
theorem IsK.dis (I : Inv X pins σ H s) : ∀ (k : NestedKey) (v : V) (u : Value), IsK X.K H k v → RelV v u → DIs s.heap k u
  | .none, _, _, h, _ => h.elim
  | .num i, v, u, h, r => by
    cases (show v = .int i from h)
    obtain ⟨t, rfl⟩ := (show ∃ t, u = Value.int i t from r)
    exact .int i t
  | .text x, v, u, h, r => by
    cases (show v = .str x from h)
    obtain ⟨t, rfl⟩ := (show ∃ t, u = Value.str x t from r)
    exact .text x t
  | .tup ks, v, u, ⟨a, vs, e, sq, rk⟩, r => by
    subst e
    cases (show u = Value.ref a from r)
    obtain ⟨its, rv, p, _⟩ := I.tuple sq
    exact .tup (isTup_iff p) (by simpa using IsKs.dis I ks vs its rk rv)
theorem IsKs.dis (I : Inv X pins σ H s) : ∀ (k : List NestedKey) (v : List V) (u : List Value), IsKs X.K H k v → Vals v u → DAll s.heap k u
  | [], _, _, h, r => by cases (show _ = [] from h); cases r; exact .nil
  | k :: ks, _, _, ⟨x, r', e, a, b⟩, r => by
    subst e
    cases r with
    | cons r1 r2 => exact .cons (IsK.dis I k x _ a r1) (IsKs.dis I ks r' _ b r2)
end
theorem IsK.key (I : Inv X pins σ H s) {k : NestedKey} {b : Addr} (h : IsK X.K H k (.ref b)) (hd : k.depth ≤ 8) : (nestedKind X.prog X.w).is s.heap k b :=
  ⟨(IsK.dis I k _ _ h rfl).nested _ _, hd⟩
end

/-! ### dicts whose keys are nested data: xs are keys, where their tuples stand, values -/
abbrev NX := List (NestedKey × Addr × V)
def NdRel (xs : NX) (ys : List (NestedKey × Addr × Value)) : Prop := Paired (fun (p : NestedKey × Addr × V) (q : NestedKey × Addr × Value) => p.1 = q.1 ∧ p.2.1 = q.2.1 ∧ RelV p.2.2 q.2.2) xs ys
def NdO (P : Program) (w : World) (d : Addr) (xs : NX) : HO := .ext fun h => xs.length ≤ sizeLine ∧ (d == sysModules) = false ∧ ∃ ys, NdRel xs ys ∧
  ∃ o es ep, h.get? d = some o ∧ o.ExactDict ∧ o.data = .dict es ep ∧ es.toList = ys.map (entryOfKey (nestedKind P w)) ∧ (ys.map (·.1)).Nodup
def kvX (xs : NX) : List (NestedKey × V) := xs.map fun x => (x.1, x.2.2)
def NdAt (P : Program) (w : World) (K : PySem.W.Frag) (H : Hp) (d : Addr) (kvs : List (NestedKey × V)) : Prop :=
  ∃ xs : NX, H d = some (NdO P w d xs) ∧ kvX xs = kvs ∧ ∀ x ∈ xs, IsK K H x.1 (.ref x.2.1) ∧ x.1.depth ≤ 8
def putX (xs : NX) (k : NestedKey) (b : Addr) (v : V) : NX :=
  if (valV (kvX xs) k).isSome = true then xs.map (fun x => if x.1 = k then (x.1, x.2.1, v) else x) else xs ++ [(k, b, v)]
theorem kvX_put (xs : NX) (k : NestedKey) (b : Addr) (v : V) : kvX (putX xs k b v) = putK (kvX xs) k v := by
  unfold putX putK
  rw [valV_any]
  by_cases h : (valV (kvX xs) k).isSome = true
  · rw [if_pos h, if_pos h]
    unfold kvX
    rw [List.map_map, List.map_map]
    refine List.map_congr_left fun x _ => ?_
    by_cases e : x.1 = k <;> simp [e]
  · rw [if_neg h, if_neg h]
    simp [kvX]
theorem putX_len (xs : NX) (k : NestedKey) (b : Addr) (v : V) : (putX xs k b v).length ≤ xs.length + 1 := by
  unfold putX
  split
  · rw [List.length_map]; omega
  · rw [List.length_append]; simp
theorem mem_putX {xs : NX} {k : NestedKey} {b : Addr} {v : V} {x : NestedKey × Addr × V} (h : x ∈ putX xs k b v) : (∃ y ∈ xs, x.1 = y.1 ∧ x.2.1 = y.2.1) ∨ (x.1 = k ∧ x.2.1 = b) := by
  unfold putX at h
  split at h
  · obtain ⟨y, hy, e⟩ := List.mem_map.mp h
    refine .inl ⟨y, hy, ?_⟩
    subst e
    split <;> exact ⟨rfl, rfl⟩
  · rcases List.mem_append.mp h with h | h
    · exact .inl ⟨x, h, rfl, rfl⟩
    · rw [List.mem_singleton] at h
      subst h
      exact .inr ⟨rfl, rfl⟩
theorem NdRel.val {xs : NX} {ys : List (NestedKey × Addr × Value)} (r : NdRel xs ys) (k : NestedKey) : RelO (valV (kvX xs) k) ((atKey ys k).map (·.2)) := by
  unfold NdRel at r
  induction r with
  | nil => exact True.intro
  | @cons p q ps qs h t ih =>
    obtain ⟨h1, _, h2⟩ := h
    show RelO (valV ((p.1, p.2.2) :: kvX ps) k) _
    by_cases e : p.1 = k
    · have e' : q.1 = k := h1.symm.trans e
      have b : atKey (q :: qs) k = some q.2 := by simp [atKey, List.find?_cons, e']
      rw [valV_pos (p := (p.1, p.2.2)) e, b]; exact h2
    · have e' : ¬ q.1 = k := fun z => e (h1.trans z)
      have b : atKey (q :: qs) k = atKey qs k := by simp [atKey, List.find?_cons, e']
      rw [valV_neg (p := (p.1, p.2.2)) e, b]; exact ih
theorem NdRel.repl {xs : NX} {ys : List (NestedKey × Addr × Value)} (r : NdRel xs ys) (k : NestedKey) {v : V} {u : Value} (rv : RelV v u) :
    NdRel (xs.map fun x => if x.1 = k then (x.1, x.2.1, v) else x) (ys.map (putAt k u)) := by
  unfold NdRel at r ⊢
  induction r with
  | nil => exact .nil
  | @cons p q ps qs h t ih =>
    rw [List.map_cons, List.map_cons]
    refine .cons ?_ ih
    obtain ⟨h1, h2, h3⟩ := h
    unfold putAt
    by_cases e : p.1 = k
    · rw [if_pos e, if_pos (h1.symm.trans e)]; exact ⟨h1, h2, rv⟩
    · rw [if_neg e, if_neg (fun z => e (h1.trans z))]; exact ⟨h1, h2, h3⟩
theorem NdRel.put {xs : NX} {ys : List (NestedKey × Addr × Value)} (r : NdRel xs ys) (k : NestedKey) (b : Addr) {v : V} {u : Value} (rv : RelV v u) : NdRel (putX xs k b v) (storedH ys k b u) := by
  have e : (valV (kvX xs) k).isSome = (atKey ys k).isSome := by
    rw [(r.val k).isSome_eq, Option.isSome_map]
  unfold putX storedH
  rw [e]
  by_cases q : (atKey ys k).isSome = true
  · rw [if_pos q, if_pos q]; exact r.repl k rv
  · rw [if_neg q, if_neg q]; exact Paired.snoc r ⟨rfl, rfl, rv⟩
def dropX (xs : NX) (k : NestedKey) : NX := xs.filter fun x => decide (x.1 ≠ k)
theorem kvX_drop (xs : NX) (k : NestedKey) : kvX (dropX xs k) = dropK (kvX xs) k := by
  unfold kvX dropX dropK
  rw [List.filter_map]
  rfl
theorem NdRel.drop {xs : NX} {ys : List (NestedKey × Addr × Value)} (r : NdRel xs ys) (k : NestedKey) : NdRel (dropX xs k) (withoutH ys k) := by
  unfold NdRel at r ⊢
  unfold dropX withoutH
  induction r with
  | nil => exact .nil
  | @cons p q ps qs h t ih =>
    obtain ⟨h1, h2⟩ := h
    rw [List.filter_cons, List.filter_cons]
    by_cases e : p.1 = k
    · have a : ¬ decide (p.1 ≠ k) = true := by simp [e]
      have b : ¬ decide (q.1 ≠ k) = true := by simp [h1.symm.trans e]
      rw [if_neg a, if_neg b]; exact ih
    · have e' : ¬ q.1 = k := fun z => e (h1.trans z)
      have a : decide (p.1 ≠ k) = true := by simp [e]
      have b : decide (q.1 ≠ k) = true := by simp [e']
      rw [if_pos a, if_pos b]; exact .cons ⟨h1, h2⟩ ih
theorem NdRel.length {xs : NX} {ys : List (NestedKey × Addr × Value)} (r : NdRel xs ys) : xs.length = ys.length := Paired.length r
theorem NdRel.keys {xs : NX} {ys : List (NestedKey × Addr × Value)} (r : NdRel xs ys) : xs.map (·.1) = ys.map (·.1) := by
  unfold NdRel at r
  induction r with
  | nil => rfl
  | cons h t ih => rw [List.map_cons, List.map_cons, ih, h.1]

section
variable {X : Cx} {pins : List (Addr × Obj)} {σ : L2.St} {H : Hp} {s : Shared} {d : Addr} {xs : NX} {A : Around} {E : Value → Shared → Prop}
theorem nd_of (I : Inv X pins σ H s) (e : H d = some (NdO X.prog X.w d xs)) (hk : ∀ x ∈ xs, IsK X.K H x.1 (.ref x.2.1) ∧ x.1.depth ≤ 8) :
    xs.length ≤ sizeLine ∧ (d == sysModules) = false ∧ ∃ ys, NdRel xs ys ∧ s.heap.DictOfH (nestedKind X.prog X.w) d ys := by
  obtain ⟨⟨z, y, ys, r, o, es, ep, h1, h2, h3, h4, h5⟩, _⟩ := (show ObjOk X.prog X.w H s.heap d (NdO X.prog X.w d xs) from I.hok d _ e)
  refine ⟨z, y, ys, r, o, es, ep, h1, h2, h3, h4, fun q hq => ?_, h5⟩
  have all : ∀ {l : NX} {m : List (NestedKey × Addr × Value)}, NdRel l m → (∀ x ∈ l, IsK X.K H x.1 (.ref x.2.1) ∧ x.1.depth ≤ 8) → ∀ q ∈ m, (nestedKind X.prog X.w).is s.heap q.1 q.2.1 := by
    intro l m r
    unfold NdRel at r
    induction r with
    | nil => intro _ q hq; exact nomatch hq
    | @cons p q ps qs h t ih =>
      intro hl x hx
      rcases List.mem_cons.mp hx with e | hx
      · subst e
        obtain ⟨a, b⟩ := hl p List.mem_cons_self
        rw [← h.1, ← h.2.1]
        exact a.key I b
      · exact ih (fun y hy => hl y (List.mem_cons_of_mem _ hy)) x hx
  exact all r hk q hq
theorem nd_new {H' : Hp} {h' : Heap} {xs : NX} {ys : List (NestedKey × Addr × Value)} (z : xs.length ≤ sizeLine) (hd : (d == sysModules) = false) (r : NdRel xs ys) (dd : h'.DictOfH (nestedKind X.prog X.w) d ys) : ObjOk X.prog X.w H' h' d (NdO X.prog X.w d xs) := by
  obtain ⟨o, es, ep, h1, h2, h3, h4, _, h5⟩ := dd
  refine ⟨⟨z, hd, ys, r, o, es, ep, h1, h2, h3, h4, h5⟩, ⟨o, h1⟩, ?_⟩
  rintro g1 g2 ⟨z, hd, ys, r, o, es, ep, h1, h⟩ k
  exact ⟨z, hd, ys, r, o, es, ep, k _ h1, h⟩
theorem room_nd (hu : A.units + 20 < cLine) : (nestedKind X.prog X.w).room A.in1 := by show A.units + 1 + 8 < cLine; omega
theorem nd_write {h' : Heap} {t' : Nat} {xs' : NX} {ys' : List (NestedKey × Addr × Value)} (I : Inv X pins σ H s) (e : H d = some (NdO X.prog X.w d xs)) (hs : Heap.SameBut d s.heap h') (z : xs'.length ≤ sizeLine) (hd : (d == sysModules) = false)
    (r : NdRel xs' ys') (dd : h'.DictOfH (nestedKind X.prog X.w) d ys') : Inv X pins σ (upd H d (NdO X.prog X.w d xs')) { s with heap := h', toks := t' } :=
  d_write I (by rw [e]; exact True.intro) hs (let ⟨q, _, _, hq, _⟩ := dd; ⟨q, hq⟩) (nd_new z hd r dd)
end
/-- the keys' tuples stay when the dict changes -/
theorem tup_upd {K : PySem.W.Frag} {H : Hp} {d : Addr} {o u : HO} (e : H d = some o) (h1 : ∀ xs, o ≠ .tup xs) (h2 : ∀ ob xs, o ≠ .frz ob (.tup xs)) : Tup K H (upd H d u) := fun a xs h => by
  rcases h with (h | ⟨ob, h⟩) | h
  · exact .inl (.inl (by rw [upd_ne (ne_of h e (fun z => h1 xs z.symm))]; exact h))
  · exact .inl (.inr ⟨ob, by rw [upd_ne (ne_of h e (fun z => h2 ob xs z.symm))]; exact h⟩)
  · exact .inr h
theorem tup_new {K : PySem.W.Frag} {H : Hp} {d : Addr} {u : HO} (e : H d = none) : Tup K H (upd H d u) := fun a xs h => by
  rcases h with (h | ⟨ob, h⟩) | h
  · exact .inl (.inl (by rw [upd_ne (ne_of_none h e)]; exact h))
  · exact .inl (.inr ⟨ob, by rw [upd_ne (ne_of_none h e)]; exact h⟩)
  · exact .inr h
theorem Tup.trans {K : PySem.W.Frag} {H H1 H2 : Hp} (a : Tup K H H1) (b : Tup K H1 H2) : Tup K H H2 := fun x xs h => b x xs (a x xs h)
theorem NdAt.keys_nodup {X : Cx} {pins : List (Addr × Obj)} {σ : L2.St} {H : Hp} {s : Shared} {d : Addr} {kvs : List (NestedKey × V)} (I : Inv X pins σ H s) (n : NdAt X.prog X.w X.K H d kvs) : (kvs.map (·.1)).Nodup := by
  obtain ⟨xs, e, rfl, hk⟩ := n
  obtain ⟨z, hd, ys, r, o, es, ep, _, _, _, _, _, nd⟩ := nd_of I e hk
  unfold kvX
  rw [List.map_map, show ((fun x : NestedKey × V => x.1) ∘ fun x : NestedKey × Addr × V => (x.1, x.2.2)) = fun x => x.1 from rfl, r.keys]
  exact nd
end HH
namespace HH
open PySem PySem.Spec PyProof.Rows L2 PySem.SeqAt

section
variable {X : Cx} {pins : List (Addr × Obj)} {σ : L2.St} {H : Hp} {s : Shared} {d : Addr} {kvs : List (NestedKey × V)} {k : NestedKey} {y v : V} {u r : Value} {A : Around} {E : Value → Shared → Prop}
abbrev Nd (X : Cx) (H : Hp) (d : Addr) (kvs : List (NestedKey × V)) : Prop := NdAt X.prog X.w X.K H d kvs
/-- y is the key k: a tuple -/
def KeyAt (K : PySem.W.Frag) (H : Hp) (k : NestedKey) (y : V) : Prop := ∃ b, y = .ref b ∧ IsK K H k y ∧ k.depth ≤ 8
theorem nd_type (I : Inv X pins σ H s) (n : Nd X H d kvs) : s.TypeIs (.ref d) "dict" ∧ (∀ b, Value.ref d = .ref b → ∃ ob, s.heap.get? b = some ob ∧ ob.dict = none) ∧ (d == sysModules) = false := by
  obtain ⟨xs, e, _, hk⟩ := n
  obtain ⟨_, hd, ys, _, dd⟩ := nd_of I e hk
  refine ⟨dd.typeIs, fun b q => ?_, hd⟩
  cases q
  obtain ⟨ob, _, _, h1, h2, _⟩ := dd
  exact ⟨ob, h1, h2.2.1⟩
theorem nd_getItem {Q : Value → Shared → Prop} (hu : A.units + 20 < cLine) (I : Inv X pins σ H s) (n : Nd X H d kvs) (hy : KeyAt X.K H k y) (l : valV kvs k = some v) (ry : RelV y u) (h : ∀ w' s', Inv X pins σ H s' → RelV v w' → Q w' s') :
    wpAny (model X.prog X.w) A (getItem (.ref d) u) Q E s := by
  obtain ⟨xs, e, rfl, hk⟩ := n
  obtain ⟨b, rfl, ik, dep⟩ := hy
  cases (show u = Value.ref b from ry)
  obtain ⟨_, _, ys, rel, dd⟩ := nd_of I e hk
  obtain ⟨w', hw, rw'⟩ := RelO.some_of (v := v) (o := (atKey ys k).map (·.2)) (by rw [← l]; exact rel.val k)
  obtain ⟨p, hp, hp2⟩ := Option.map_eq_some_iff.mp hw
  refine wpAny_getItem_heap (room_nd hu) (ik.key I dep) dd hp ?_
  rw [hp2]
  exact h w' _ (I.tok _) rw'
theorem nd_get2 {Q : Value → Shared → Prop} {z : V} (hu : A.units + 20 < cLine) (I : Inv X pins σ H s) (n : Nd X H d kvs) (hy : KeyAt X.K H k y) (ry : RelV y u) (rz : RelV z r) (h : ∀ w' s', Inv X pins σ H s' → RelV ((valV kvs k).getD z) w' → Q w' s') :
    wpAny (model X.prog X.w) A (call (.builtin "dict.get") [.ref d, u, r]) Q E s := by
  obtain ⟨xs, e, rfl, hk⟩ := n
  obtain ⟨b, rfl, ik, dep⟩ := hy
  cases (show u = Value.ref b from ry)
  obtain ⟨_, hd, ys, rel, dd⟩ := nd_of I e hk
  refine call_meetsIn PySem.F.slot_dict_get dd.typeIs PySem.F.entry_dict_get (PySem.F.args_dict_get_3 _ _ _) (meetsH_dict_get_default (nestedKind X.prog X.w) d b hd r) ⟨room_nd hu, k, ys, ik.key I dep, dd, h _ _ (I.tok _) ?_⟩
  exact (rel.val k).getD rz
theorem nd_in {Q : Value → Shared → Prop} (hu : A.units + 20 < cLine) (I : Inv X pins σ H s) (n : Nd X H d kvs) (hy : KeyAt X.K H k y) (ry : RelV y u) (h : ∀ s', Inv X pins σ H s' → Q (.bool (valV kvs k).isSome) s') :
    wpAny (model X.prog X.w) A (compareOp .In u (.ref d)) Q E s := by
  obtain ⟨xs, e, rfl, hk⟩ := n
  obtain ⟨b, rfl, ik, dep⟩ := hy
  cases (show u = Value.ref b from ry)
  obtain ⟨_, hd, ys, rel, dd⟩ := nd_of I e hk
  refine wpAny_in_heap (room_nd hu) (ik.key I dep) hd dd ?_
  rw [show (atKey ys k).isSome = (valV (kvX xs) k).isSome by rw [(rel.val k).isSome_eq, Option.isSome_map]]
  exact h _ (I.tok _)
theorem nd_notIn {Q : Value → Shared → Prop} (hu : A.units + 20 < cLine) (I : Inv X pins σ H s) (n : Nd X H d kvs) (hy : KeyAt X.K H k y) (ry : RelV y u) (h : ∀ s', Inv X pins σ H s' → Q (.bool (!(valV kvs k).isSome)) s') :
    wpAny (model X.prog X.w) A (compareOp .NotIn u (.ref d)) Q E s := by
  obtain ⟨xs, e, rfl, hk⟩ := n
  obtain ⟨b, rfl, ik, dep⟩ := hy
  cases (show u = Value.ref b from ry)
  obtain ⟨_, hd, ys, rel, dd⟩ := nd_of I e hk
  refine wpAny_notIn_heap (room_nd hu) (ik.key I dep) hd dd ?_
  rw [show (atKey ys k).isSome = (valV (kvX xs) k).isSome by rw [(rel.val k).isSome_eq, Option.isSome_map]]
  exact h _ (I.tok _)
/-- what a change leaves -/
def NdTo (P : Program) (w : World) (K : PySem.W.Frag) (H : Hp) (d : Addr) (kvs' : List (NestedKey × V)) (R : Hp → Prop) : Prop :=
  ∀ xs', NdAt P w K (upd H d (NdO P w d xs')) d kvs' → R (upd H d (NdO P w d xs'))
theorem nd_tup {P : Program} {w : World} {K : PySem.W.Frag} {xs : NX} {u : HO} (e : H d = some (NdO P w d xs)) : Tup K H (upd H d u) :=
  tup_upd e (fun _ z => nomatch z) (fun _ _ z => nomatch z)
theorem nd_put_at {xs : NX} (e : H d = some (NdO X.prog X.w d xs)) (hk : ∀ x ∈ xs, IsK X.K H x.1 (.ref x.2.1) ∧ x.1.depth ≤ 8) {b : Addr} (ik : IsK X.K H k (.ref b)) (dep : k.depth ≤ 8) (v : V) :
    Nd X (upd H d (NdO X.prog X.w d (putX xs k b v))) d (putK (kvX xs) k v) := by
  refine ⟨_, upd_same, kvX_put _ _ _ _, fun x hx => ?_⟩
  have t := nd_tup (K := X.K) (u := NdO X.prog X.w d (putX xs k b v)) e
  rcases mem_putX hx with ⟨z, hz, e1, e2⟩ | ⟨e1, e2⟩
  · rw [e1, e2]
    exact ⟨(hk z hz).1.keep t, (hk z hz).2⟩
  · rw [e1, e2]
    exact ⟨ik.keep t, dep⟩
theorem nd_setItem {Q : Unit → Shared → Prop} (hu : A.units + 20 < cLine) (I : Inv X pins σ H s) (n : Nd X H d kvs) (hy : KeyAt X.K H k y) (hl : kvs.length < sizeLine) (ry : RelV y u) (rv : RelV v r)
    (h : NdTo X.prog X.w X.K H d (putK kvs k v) fun H' => ∀ s', Inv X pins σ H' s' → Q () s') : wpAny (model X.prog X.w) A (setItem (.ref d) u r) Q E s := by
  obtain ⟨xs, e, rfl, hk⟩ := n
  obtain ⟨b, rfl, ik, dep⟩ := hy
  cases (show u = Value.ref b from ry)
  obtain ⟨z, hd, ys, rel, dd⟩ := nd_of I e hk
  have lx : (kvX xs).length = xs.length := List.length_map _
  have hz : ys.length ≤ sizeLine := by rw [← rel.length]; exact z
  refine wpAny_setItem_heap (hsz := hz) (room_nd hu) (ik.key I dep) dd fun h' dd' hs => h (putX xs k b v) (nd_put_at e hk ik dep v) _ (nd_write I e hs ?_ hd (rel.put k b rv) dd')
  have := putX_len xs k b v
  omega
theorem nd_dictSet {Q : Unit → Shared → Prop} (hu : A.units + 20 < cLine) (I : Inv X pins σ H s) (n : Nd X H d kvs) (hy : KeyAt X.K H k y) (hl : kvs.length < sizeLine) (ry : RelV y u) (rv : RelV v r)
    (h : NdTo X.prog X.w X.K H d (putK kvs k v) fun H' => ∀ s', Inv X pins σ H' s' → Q () s') : wpAny (model X.prog X.w) A (dictSet d u r) Q E s := by
  obtain ⟨xs, e, rfl, hk⟩ := n
  obtain ⟨b, rfl, ik, dep⟩ := hy
  cases (show u = Value.ref b from ry)
  obtain ⟨z, hd, ys, rel, dd⟩ := nd_of I e hk
  have lx : (kvX xs).length = xs.length := List.length_map _
  have hz : ys.length ≤ sizeLine := by rw [← rel.length]; exact z
  refine wpAny_dictSet_heap (hsz := hz) (by show A.units + 8 < cLine; omega) (ik.key I dep) dd fun h' dd' hs => h (putX xs k b v) (nd_put_at e hk ik dep v) _ (nd_write I e hs ?_ hd (rel.put k b rv) dd')
  have := putX_len xs k b v
  omega
theorem nd_pop {Q : Value → Shared → Prop} (hu : A.units + 20 < cLine) (I : Inv X pins σ H s) (n : Nd X H d kvs) (hy : KeyAt X.K H k y) (l : valV kvs k = some v) (ry : RelV y u)
    (h : NdTo X.prog X.w X.K H d (dropK kvs k) fun H' => ∀ w' s', Inv X pins σ H' s' → RelV v w' → Q w' s') : wpAny (model X.prog X.w) A (call (.builtin "dict.pop") [.ref d, u]) Q E s := by
  obtain ⟨xs, e, rfl, hk⟩ := n
  obtain ⟨b, rfl, ik, dep⟩ := hy
  cases (show u = Value.ref b from ry)
  obtain ⟨z, hd, ys, rel, dd⟩ := nd_of I e hk
  obtain ⟨w', hw, rw'⟩ := RelO.some_of (v := v) (o := (atKey ys k).map (·.2)) (by rw [← l]; exact rel.val k)
  obtain ⟨p, hp, hp2⟩ := Option.map_eq_some_iff.mp hw
  have hz : ys.length ≤ sizeLine := by rw [← rel.length]; exact z
  have at' : Nd X (upd H d (NdO X.prog X.w d (dropX xs k))) d (dropK (kvX xs) k) := ⟨_, upd_same, kvX_drop _ _, fun x hx => by
    have m := (List.mem_filter.mp hx).1
    exact ⟨(hk x m).1.keep (nd_tup e), (hk x m).2⟩⟩
  refine call_meetsIn PySem.F.slot_dict_pop dd.typeIs PySem.F.entry_dict_pop (PySem.F.args_dict_pop_2 _ _) (meetsH_dict_pop (knd := nestedKind X.prog X.w) (d := d) (a := b) hd [] (.inl rfl)) ⟨room_nd hu, k, ys, ik.key I dep, dd, hz, fun p' hp' h' dd' hs => ?_, fun hn => ?_⟩
  · rw [hp] at hp'
    cases hp'
    rw [hp2]
    exact h (dropX xs k) at' w' _ (nd_write I e hs (Nat.le_trans (List.length_filter_le _ _) z) hd (rel.drop k) dd') rw'
  · rw [hp] at hn; cases hn
theorem nd_len {Q : Value → Shared → Prop} (I : Inv X pins σ H s) (n : Nd X H d kvs) (h : ∀ t s', Inv X pins σ H s' → Q (.int kvs.length t) s') : wpAny (model X.prog X.w) A (call (.builtin "len") [.ref d]) Q E s := by
  obtain ⟨xs, e, rfl, hk⟩ := n
  obtain ⟨z, hd, ys, rel, dd⟩ := nd_of I e hk
  have lx : (kvX xs).length = ys.length := by rw [show (kvX xs).length = xs.length from List.length_map _, rel.length]
  rw [rel.length] at z
  have m : s.heap.DictKeyed (nestedKind X.prog X.w) d (pairsH ys) := ⟨ys, dd, rfl⟩
  have ln : (pairsH ys).length = ys.length := by simp [pairsH]
  refine PyProof.Rows.call_len_slot (n := ys.length) dd.typeIs F.slot_dict_len (fun Q' hq => len_keyed (kvs := pairsH ys) hd m (by rw [ln]; exact hq)) (by omega) (by rw [sizeLine_eq] at z; omega) ?_
  rw [← lx]
  exact h _ _ (I.tok _)
end

/-! ### the rules -/
def tNGet (P : Program) (w : World) (K : PySem.W.Frag) (td ty : TE) : TE := fun σ H Q => td σ H fun x H1 => ty σ H1 fun y H2 => ∃ d kvs k v, x = .ref d ∧ NdAt P w K H2 d kvs ∧ KeyAt K H2 k y ∧ valV kvs k = some v ∧ Q v H2
def tNGet2 (P : Program) (w : World) (K : PySem.W.Frag) (td ty tz : TE) : TE := fun σ H Q => td σ H fun x H1 => ∃ d, x = .ref d ∧ (∃ kvs, NdAt P w K H1 d kvs) ∧ ty σ H1 fun y H2 => tz σ H2 fun z H3 => ∃ kvs k, NdAt P w K H3 d kvs ∧ KeyAt K H3 k y ∧ Q ((valV kvs k).getD z) H3
def tNPop (P : Program) (w : World) (K : PySem.W.Frag) (td ty : TE) : TE := fun σ H Q => td σ H fun x H1 => ∃ d, x = .ref d ∧ (∃ kvs, NdAt P w K H1 d kvs) ∧ ty σ H1 fun y H2 => ∃ kvs k v, NdAt P w K H2 d kvs ∧ KeyAt K H2 k y ∧ valV kvs k = some v ∧ NdTo P w K H2 d (dropK kvs k) (Q v)
def rNIn (P : Program) (w : World) (K : PySem.W.Frag) (neg : Bool) : R2 := fun y x H Q => ∃ d kvs k, x = .ref d ∧ NdAt P w K H d kvs ∧ KeyAt K H k y ∧ Q (.bl (if neg = true then !(valV kvs k).isSome else (valV kvs k).isSome)) H
def sNPut (P : Program) (w : World) (K : PySem.W.Frag) (td ty tv : TE) : TS := fun D σ H => tv σ H fun v H1 => td σ H1 fun x H2 => ty σ H2 fun y H3 => ∃ d kvs k, x = .ref d ∧ NdAt P w K H3 d kvs ∧ KeyAt K H3 k y ∧ kvs.length < sizeLine ∧ NdTo P w K H3 d (putK kvs k v) (D.nx σ)
section
variable {X : Cx} {o i e f value : Expr} {pos pos' tpos apos cpos : Pos} {td ty tv tz : TE}
theorem pe_nget {P : Program} {w : World} {K : PySem.W.Frag} (hu : X.A.units + 20 < cLine) (ho : PE X o td) (hi : PE X i ty) (hs : NoSl i) (hX : X.prog = P ∧ X.w = w ∧ X.K = K := by exact ⟨rfl, rfl, rfl⟩) : PE X (.Subscript o i pos) (tNGet P w K td ty) := by
  obtain ⟨rfl, rfl, rfl⟩ := hX
  refine ⟨fun pins s σ H Q I h => ?_⟩
  refine subD_of PySem.F.slot_dict_getitem.lookup hs (thn (ho.run pins s σ H _ I h) fun u s1 ⟨x, H1, I1, rx, q1⟩ => thn (hi.run pins s1 σ H1 _ I1 q1) fun iv s2 ⟨y, H2, I2, ry, d, kvs, k, v, ex, n, hy, l, q2⟩ => ?_)
  subst ex
  obtain rfl : u = Value.ref d := rx
  exact ⟨(nd_type I2 n).1, nd_getItem hu I2 n hy l ry fun w' s3 I3 rw' => ⟨v, H2, I3, rw', q2⟩⟩
theorem op_nin {P : Program} {w : World} {K : PySem.W.Frag} (hu : X.A.units + 20 < cLine) (hX : X.prog = P ∧ X.w = w ∧ X.K = K := by exact ⟨rfl, rfl, rfl⟩) : OpR X (compareOp .In) (rNIn P w K false) := by
  obtain ⟨rfl, rfl, rfl⟩ := hX
  intro pins s σ H y x u r Q I ry rx h
  obtain ⟨d, kvs, k, ex, n, hy, q⟩ := h
  subst ex
  obtain rfl : r = Value.ref d := rx
  exact nd_in hu I n hy ry fun s' I' => ⟨.bl (valV kvs k).isSome, H, I', rfl, q⟩
theorem op_nnotin {P : Program} {w : World} {K : PySem.W.Frag} (hu : X.A.units + 20 < cLine) (hX : X.prog = P ∧ X.w = w ∧ X.K = K := by exact ⟨rfl, rfl, rfl⟩) : OpR X (compareOp .NotIn) (rNIn P w K true) := by
  obtain ⟨rfl, rfl, rfl⟩ := hX
  intro pins s σ H y x u r Q I ry rx h
  obtain ⟨d, kvs, k, ex, n, hy, q⟩ := h
  subst ex
  obtain rfl : r = Value.ref d := rx
  exact nd_notIn hu I n hy ry fun s' I' => ⟨.bl (!(valV kvs k).isSome), H, I', rfl, q⟩
theorem ps_nput {P : Program} {w : World} {K : PySem.W.Frag} (hu : X.A.units + 20 < cLine) (ho : PE X o td) (hi : PE X i ty) (hv : PE X value tv) (hs : swapsWith value (some (.Subscript o i pos')) pos.line X.env = pure false) (hX : X.prog = P ∧ X.w = w ∧ X.K = K := by exact ⟨rfl, rfl, rfl⟩) :
    PS X (.Assign [.Subscript o i pos'] value pos) (sNPut P w K td ty tv) := by
  obtain ⟨rfl, rfl, rfl⟩ := hX
  refine ⟨fun pins s σ H D I h => ?_⟩
  refine wpAny_Assign_Subscript (thn (hv.run pins s σ H _ I h) fun r s1 ⟨v, H1, I1, rv, q1⟩ => thn (ho.run pins s1 σ H1 _ I1 q1) fun u s2 ⟨x, H2, I2, rx, q2⟩ => thn (hi.run pins s2 σ H2 _ I2 q2) fun iv s3 ⟨y, H3, I3, ry, d, kvs, k, ex, n, hy, l, q3⟩ => ?_) hs
  subst ex
  obtain rfl : u = Value.ref d := rx
  exact nd_setItem hu I3 n hy l ry rv fun xs' n' s4 I4 => ⟨σ, _, I4, q3 xs' n'⟩
theorem pe_nget2 {P : Program} {w : World} {K : PySem.W.Frag} (hu : X.A.units + 20 < cLine) (ho : PE X o td) (he : PE X e ty) (hf : PE X f tz) (m : M2 X o "get" apos e f cpos) (hX : X.prog = P ∧ X.w = w ∧ X.K = K := by exact ⟨rfl, rfl, rfl⟩) : PE X (.Call (.Attribute o "get" apos) [e, f] [] cpos) (tNGet2 P w K td ty tz) := by
  obtain ⟨rfl, rfl, rfl⟩ := hX
  refine ⟨fun pins s σ H Q I h => ?_⟩
  refine wpAny_Call_method m.base m.few m.line PySem.F.plainAttrs_dict PySem.F.slot_dict_get PySem.F.type_dict_get (thn (ho.run pins s σ H _ I h) fun u s1 ⟨x, H1, I1, rx, d, ex, ⟨_, n⟩, q1⟩ => ?_)
  subst ex
  obtain rfl : u = Value.ref d := rx
  obtain ⟨t1, t2, _⟩ := nd_type I1 n
  refine ⟨t1, t2, ?_⟩
  rw [m.trees]
  refine Calls.callWith_builtin rfl (Calls.evalArgs_plain (Calls.spliced_cons (thn (he.run pins s1 σ H1 _ I1 q1) fun iv s2 ⟨y, H2, I2, ry, q2⟩ =>
    Calls.spliced_cons (thn (hf.run pins s2 σ H2 _ I2 q2) fun fv s3 ⟨z, H3, I3, rz, kvs, k, n3, hy, q3⟩ => Calls.spliced_nil ?_))))
  exact nd_get2 hu I3 n3 hy ry rz fun w' s4 I4 rw' => ⟨_, H3, I4, rw', q3⟩
theorem pe_npop {P : Program} {w : World} {K : PySem.W.Frag} (hu : X.A.units + 20 < cLine) (ho : PE X o td) (he : PE X e ty) (m : M1 X o "pop" apos e cpos) (hX : X.prog = P ∧ X.w = w ∧ X.K = K := by exact ⟨rfl, rfl, rfl⟩) : PE X (.Call (.Attribute o "pop" apos) [e] [] cpos) (tNPop P w K td ty) := by
  obtain ⟨rfl, rfl, rfl⟩ := hX
  refine ⟨fun pins s σ H Q I h => ?_⟩
  refine wpAny_Call_method m.base m.few m.line PySem.F.plainAttrs_dict PySem.F.slot_dict_pop PySem.F.type_dict_pop (thn (ho.run pins s σ H _ I h) fun u s1 ⟨x, H1, I1, rx, d, ex, ⟨_, n⟩, q1⟩ => ?_)
  subst ex
  obtain rfl : u = Value.ref d := rx
  obtain ⟨t1, t2, _⟩ := nd_type I1 n
  refine ⟨t1, t2, ?_⟩
  rw [m.trees]
  refine Calls.callWith_builtin rfl (Calls.evalArgs_plain (Calls.spliced_cons (thn (he.run pins s1 σ H1 _ I1 q1) fun iv s2 ⟨y, H2, I2, ry, kvs, k, v, n2, hy, l, q2⟩ => Calls.spliced_nil ?_)))
  exact nd_pop hu I2 n2 hy l ry fun xs' n' w' s4 I4 rw' => ⟨v, _, I4, rw', q2 xs' n'⟩
theorem call_nlen : CallR X (.builtin "len") (fun xs H Q => ∃ d kvs, xs = [.ref d] ∧ Nd X H d kvs ∧ Q (.int kvs.length) H) := by
  intro pins s σ H xs us Q I r q
  obtain ⟨d, kvs, rfl, n, q⟩ := q
  obtain ⟨u, eu, rx⟩ := vals1 r
  subst eu
  cases rx
  exact nd_len I n fun t s' I' => ⟨.int kvs.length, H, I', ⟨t, rfl⟩, q⟩
/-- {}, to be a dict of nested keys -/
theorem nd_empty {P : Program} {w : World} {H : Hp} (h : Heap) (hb : sysModules < h.objs.size) : ObjOk P w H (h.push { cls := .type "dict", data := .dict #[] }) h.objs.size (NdO P w h.objs.size []) := by
  refine ⟨⟨Nat.zero_le _, beq_eq_false_iff_ne.mpr (Ne.symm (Nat.ne_of_lt hb)), [], .nil, _, #[], 0, Heap.get?_push_size _ rfl, ⟨rfl, rfl, rfl⟩, rfl, rfl, List.nodup_nil⟩, ⟨_, Heap.get?_push_size _ rfl⟩, ?_⟩
  rintro g1 g2 ⟨z, hd, ys, r, o, es, ep, h1, h⟩ k
  exact ⟨z, hd, ys, r, o, es, ep, k _ h1, h⟩
theorem ndat_empty {P : Program} {w : World} {K : PySem.W.Frag} {H : Hp} {d : Addr} : NdAt P w K (upd H d (NdO P w d [])) d [] := ⟨[], upd_same, rfl, fun _ h => nomatch h⟩
def tNNew (P : Program) (w : World) : TE := fun _ H Q => ∀ p, H p = none → Q (.ref p) (upd H p (NdO P w p []))
theorem pe_nnew {P : Program} {w : World} {K : PySem.W.Frag}  (hX : X.prog = P ∧ X.w = w ∧ X.K = K := by exact ⟨rfl, rfl, rfl⟩) : PE X (.Dict [] [] pos) (tNNew P w) := by
  obtain ⟨rfl, rfl, rfl⟩ := hX
  exact ⟨fun pins s σ H Q I h =>
  wpAny_Dict_empty ⟨.ref s.heap.objs.size, _, I.laid (a := s.heap.objs.size) (o := NdO X.prog X.w s.heap.objs.size []) (t' := s.toks) (fun _ _ q => Heap.get?_push_of_some _ q) (Nat.le_refl _) (nd_empty s.heap I.big), rfl, h _ (I.hok.fresh (Nat.le_refl _))⟩⟩
end
end HH
namespace HH
open PySem PySem.Spec PyProof.Rows L2 PySem.SeqAt

section
variable {X : Cx}
/-- {k: v for target in iter if ..}, keys nested data: D the new dict -/
def tDcN (P : Program) (w : World) (K : PySem.W.Frag) (wi : TI) (g : TG) (tt : TT) (tk tv : TE) (vs : List Nat) : TE := fun σ H Q => wi σ H fun J H1 => ∀ D, H1 D = none → ∃ W : Nat → Nat → Hp → Prop, (∃ m, W 0 m (upd H1 D (NdO P w D []))) ∧ ∀ i m H, W i m H →
  (J.stop i H ∧ Q (.ref D) H) ∨ (J.go i H ∧ ∃ Nx : Hp → Prop, (∀ H', Nx H' → ∃ m', m' < m ∧ W (i + 1) m' H') ∧ ∀ x H', J.yld i H x H' → g x (wipe σ vs) H' fun σ2 H2 => wipe σ2 vs = wipe σ vs ∧ tt σ2 H2 fun b H3 =>
    if b = true then tk σ2 H3 fun y H4 => tv σ2 H4 fun z H5 => ∃ kvs k, NdAt P w K H5 D kvs ∧ KeyAt K H5 k y ∧ kvs.length < sizeLine ∧ NdTo P w K H5 D (putK kvs k z) Nx else Nx H3)
theorem dcn_core {pins : List (Addr × Obj)} {s : Shared} {σ : L2.St} {H : Hp} {Q : VK} {kx vx tg iter : Expr} {ifs : List Expr} {scope : Scope} {own : List (Str × Nat)} {pos pos' : Pos} {wi : TI} {g : TG} {tt : TT} {tk tv : TE} {use : Option (Value → Sem Unit)} {Qf : Value → Shared → Prop}
    (hu : X.A.units + 20 < cLine) (hc : X.calm = true) (hN : X.N.Nodup) (I : Inv X pins σ H s) (hi : PI X tg iter wi) (ok : BlkOk X.N X.env.scope scope own)
    (hg : ∀ s H C cl fp, PG (X.blk s H scope (compEnvC scope cl C X.env) fp) tg g) (ht : ∀ s H C cl fp, PTs (X.blk s H scope (compEnvC scope cl C X.env) fp) ifs tt)
    (hk : ∀ s H C cl fp, PE (X.blk s H scope (compEnvC scope cl C X.env) fp) kx tk) (he : ∀ s H C cl fp, PE (X.blk s H scope (compEnvC scope cl C X.env) fp) vx tv) (hs : ∀ x, foldedSetIterable iter X.env x = pure x)
    (h : tDcN X.prog X.w X.K wi g tt tk tv (own.map (·.2)) σ H Q)
    (hRR : ∀ D C s' m H', Inv X pins σ H' s' → Q (.ref D) H' → s'.heap.Ns C m → FpOk X pins H' C → compPost (model X.prog X.w) X.A X.xe use Qf (.ref D) C (.ok .next) s') :
    wpAny (model X.prog X.w) X.A (comprehension (.DictComp kx vx [⟨tg, iter, ifs, 0⟩] scope pos) scope X.env pos' newDict false (eval iter X.env) use) Qf X.xe s := by
  have free : ∀ y ∈ scope.names, y.2 = .free → ∃ c, X.env.cells.lookup y.1 = some c := fun y hy e => (ok.free y hy e).elim (fun k => I.ok.has _ (.inl k)) fun k => I.ok.has _ (.inr k)
  refine wpAny_comprehension_free (use := use) rfl hs (closure_ok free) ok.kind (fun y hy e => by rw [ok.uniq y hy, e]) (thn (hi.run pins s σ H _ I h) fun xv s1 hx => thn hx fun itv s2 h2 => ?_)
  obtain ⟨it, fp, tn, J, H2, rfl, I2, T, st2, f2, q⟩ := h2
  refine wpAny_newObj_type (newEnv_comp ?_)
  generalize hD : s2.heap.objs.size = D
  have hDn : H2 D = none := I2.hok.fresh (Nat.le_of_eq hD)
  obtain ⟨W, ⟨m0, w0⟩, turn⟩ := q D hDn
  generalize hs3 : ({ s2 with heap := s2.heap.push { cls := .type "dict", data := .dict #[] } } : Shared) = s3
  have I3 : Inv X pins σ (upd H2 D (NdO X.prog X.w D [])) s3 := by
    subst hs3 hD
    exact I2.laid (t' := s2.toks) (fun b o e => Heap.get?_push_of_some _ e) (Nat.le_refl _) (nd_empty s2.heap I2.big)
  have h3 : s3.heap = s2.heap.push { cls := .type "dict", data := .dict #[] } := by rw [← hs3]
  have sz : ∀ b ∈ fp, b < s2.heap.objs.size := fun b hb => let ⟨_, e, _⟩ := T.obj _ _ st2 b hb; Heap.lt_size e
  have f3 : ∀ b ∈ fp, FpOk X pins (upd H2 D (NdO X.prog X.w D [])) b ∧ b < s3.heap.objs.size := fun b hb =>
    ⟨⟨by rw [upd_ne (by rw [← hD]; exact Nat.ne_of_lt (sz b hb))]; exact (f2 b hb).1, (f2 b hb).2⟩, by rw [h3, Heap.size_push]; exact Nat.lt_succ_of_lt (sz b hb)⟩
  have st3 : tn 0 s3.heap := T.keep _ _ _ st2 fun b _ o e => by rw [h3]; exact Heap.get?_push_of_some _ e
  have I4 := block_start I3 ok hN f3
  have pg := hg s3 (upd H2 D (NdO X.prog X.w D [])) s3.heap.objs.size (cellsFrom (s3.heap.objs.size + 1) scope.names (cloFrom X.env.cells scope.names [])) fp
  have pt := ht s3 (upd H2 D (NdO X.prog X.w D [])) s3.heap.objs.size (cellsFrom (s3.heap.objs.size + 1) scope.names (cloFrom X.env.cells scope.names [])) fp
  have pk := hk s3 (upd H2 D (NdO X.prog X.w D [])) s3.heap.objs.size (cellsFrom (s3.heap.objs.size + 1) scope.names (cloFrom X.env.cells scope.names [])) fp
  have pe := he s3 (upd H2 D (NdO X.prog X.w D [])) s3.heap.objs.size (cellsFrom (s3.heap.objs.size + 1) scope.names (cloFrom X.env.cells scope.names [])) fp
  show codeAny _ _ (.compStart (.DictComp kx vx [⟨tg, iter, ifs, 0⟩] scope pos) 0 (.ref it) (.ref D) (compEnvC scope (cellsFrom (s3.heap.objs.size + 1) scope.names (cloFrom X.env.cells scope.names [])) s3.heap.objs.size X.env))
    (compPost (model X.prog X.w) X.A X.xe use Qf (.ref D) s3.heap.objs.size) { s3 with heap := pushCells (s3.heap.push { cls := .type "dict", data := .dict #[] }) scope.names }
  have nfp : ∀ b ∈ fp, (upd H2 D (NdO X.prog X.w D [])) b = none := fun b hb => (f3 b hb).1.1
  generalize hce : compEnvC scope (cellsFrom (s3.heap.objs.size + 1) scope.names (cloFrom X.env.cells scope.names [])) s3.heap.objs.size X.env = ce at I4 pg pt pk pe ⊢
  have cL : ce.locals = s3.heap.objs.size := by subst hce; rfl
  generalize hH3 : upd H2 D (NdO X.prog X.w D []) = H3 at I3 I4 pg pt pk pe w0 nfp f3
  generalize hs4 : ({ s3 with heap := pushCells (s3.heap.push { cls := .type "dict", data := .dict #[] }) scope.names } : Shared) = s4 at I4 ⊢
  have st4 : tn 0 s4.heap := T.keep _ _ _ st3 fun b _ o e => by rw [← hs4]; exact pushCells_keeps _ _ _ _ (Heap.get?_push_of_some _ e)
  have stat : ∀ {σ' : L2.St} {H' : Hp} {s' : Shared}, Inv (X.blk s3 H3 scope ce fp) [] σ' H' s' → (∀ b ∈ fp, H' b = none) → ∀ b ∈ fp, FpOk (X.blk s3 H3 scope ce fp) [] H' b := fun {σ' H' s'} I' hn b hb =>
    ⟨hn b hb, (I'.ok.exf b hb).1, I'.ok.exfs b hb, .inl hb, fun x c e => (I'.ok.exf b hb).2 x c e, fun p hp => absurd (show p ∈ ([] : List (Addr × Obj)) ++ [] from hp) (by simp)⟩
  refine codeAny_compStart_dict ?loop (T.self X.A 0 _ _ _ st4 ?loop)
  refine compLoop_anyD (fun n s' => ∃ i H', Inv (X.blk s3 H3 scope ce fp) [] (wipe σ (own.map (·.2))) H' s' ∧ tn i s'.heap ∧ (∀ b ∈ fp, H' b = none) ∧ W i n H') ?_ m0 ⟨0, H3, I4, st4, nfp, w0⟩
  rintro n s5 ⟨i, H5, I5, st5, n5, w5⟩
  rcases turn i n H5 w5 with ⟨stop, qq⟩ | ⟨go, Nx, hNx, step⟩
  · refine thnF (T.done (X.blk s3 H3 scope ce fp) rfl rfl rfl hc i [] s5 _ H5 (fun _ _ => False) I5 (stat I5 n5) st5 stop) fun r s6 ⟨hr, I6⟩ => ?_
    subst hr
    have I7 : Inv X pins σ H5 s6 := I3.call' (ch := fp) I6.os I6.base I6.hok I6.bare fun b hb => ⟨(f3 b hb).1.2.2.2.1, (f3 b hb).1.2.1, (f3 b hb).1.2.2.2.2.1, (f3 b hb).1.2.2.2.2.2⟩
    have nC : H5 s3.heap.objs.size = none := by rw [← cL]; exact I6.free
    obtain ⟨m, hn, _⟩ := I6.loc
    have hn' : s6.heap.Ns s3.heap.objs.size m := by rw [← cL]; exact hn
    exact hRR D s3.heap.objs.size s6 m H5 I7 qq hn' (I3.fpOk (Nat.le_refl _) nC)
  · refine thnF (T.item (X.blk s3 H3 scope ce fp) rfl rfl rfl hc i [] s5 _ H5 (fun _ _ => False) I5 (stat I5 n5) st5 go) fun r s6 ⟨u, hr, h6⟩ => ?_
    subst hr
    refine thnF h6 fun _ s7 ⟨x, H7, I7, r7, y7, st7, n7⟩ => ?_
    refine thnF (pg.run _ s7 _ H7 x u _ (I7.pinned (stat I7 n7) (T.obj _ _ st7)) r7 (step x H7 y7)) fun _ s8 ⟨σ8, H8, I8, hw8, q8⟩ => ?_
    refine thnF (pt.run _ s8 σ8 H8 _ I8 q8) fun b s9 ⟨H9, I9, q9⟩ => ?_
    have fin : ∀ {s' : Shared} {H' : Hp}, Inv (X.blk s3 H3 scope ce fp) ([] ++ pinsAt fp s7.heap) σ8 H' s' → Nx H' → ∃ m, m < n ∧ ∃ i H', Inv (X.blk s3 H3 scope ce fp) [] (wipe σ (own.map (·.2))) H' s' ∧ tn i s'.heap ∧ (∀ b ∈ fp, H' b = none) ∧ W i m H' := fun {s' H'} I' nx => by
      obtain ⟨m', hm, w'⟩ := hNx H' nx
      have pin' : ∀ b ∈ fp, ∀ o, s7.heap.get? b = some o → s'.heap.get? b = some o ∧ H' b = none := fun b hb o e =>
        let z := I'.pin (b, o) (List.mem_append_right _ (List.mem_append_right _ (mem_pinsAt hb e))); ⟨z.1, z.2.1⟩
      refine ⟨m', hm, i + 1, H', (I'.unpinned (pins := [])).weak (by rw [← hw8, wipe_length]) (fun j v e => ?_), T.keep _ _ _ st7 fun b hb o e => (pin' b hb o e).1, fun b hb => let ⟨o, e, _⟩ := T.obj _ _ st7 b hb; (pin' b hb o e).2, w'⟩
      rw [← hw8] at e
      exact (wipe_some e).1
    cases b with
    | false =>
      simp only [Bool.false_eq_true, if_false] at q9 ⊢
      exact fin I9 q9
    | true =>
      simp only [if_true] at q9 ⊢
      refine thnF (pk.run _ s9 σ8 H9 _ I9 q9) fun z s10 ⟨yk, H10, I10, r10, q10⟩ => ?_
      refine thnF (pe.run _ s10 σ8 H10 _ I10 q10) fun z2 s11 ⟨yv, H11, I11, r11, kvs, k, nd, hy, hz11, nx⟩ => ?_
      exact nd_dictSet (X := X.blk s3 H3 scope ce fp) hu I11 nd hy hz11 r10 r11 fun xs' n' s12 I12 => fin I12 (nx xs' n')
theorem pe_dcn {P : Program} {w : World} {K : PySem.W.Frag} {kx vx tg iter : Expr} {ifs : List Expr} {scope : Scope} {own : List (Str × Nat)} {pos : Pos} {wi : TI} {g : TG} {tt : TT} {tk tv : TE} (hu : X.A.units + 20 < cLine) (hc : X.calm = true) (hN : X.N.Nodup) (hi : PI X tg iter wi) (ok : BlkOk X.N X.env.scope scope own)
    (hg : ∀ s H C cl fp, PG (X.blk s H scope (compEnvC scope cl C X.env) fp) tg g) (ht : ∀ s H C cl fp, PTs (X.blk s H scope (compEnvC scope cl C X.env) fp) ifs tt)
    (hk : ∀ s H C cl fp, PE (X.blk s H scope (compEnvC scope cl C X.env) fp) kx tk) (he : ∀ s H C cl fp, PE (X.blk s H scope (compEnvC scope cl C X.env) fp) vx tv) (hs : ∀ x, foldedSetIterable iter X.env x = pure x := by intro _; rfl) (hX : X.prog = P ∧ X.w = w ∧ X.K = K := by exact ⟨rfl, rfl, rfl⟩) :
    PE X (.DictComp kx vx [⟨tg, iter, ifs, 0⟩] scope pos) (tDcN P w K wi g tt tk tv (own.map (·.2))) := by
  obtain ⟨rfl, rfl, rfl⟩ := hX
  refine ⟨fun pins s σ H Q I h => ?_⟩
  rw [arm_eval_DictComp]
  refine dcn_core hu hc hN I hi ok hg ht hk he hs h fun D C s' m H' I' q hn f => ⟨m, hn, fun h'' sb => ?_⟩
  obtain ⟨f0, f1, f2, f3, f4, f5⟩ := f
  exact ⟨.ref D, H', I'.turned (t' := s'.toks) (fun b o hb e => (sb.2 b hb).trans e) f0 f1 f3 f4 f5, rfl, q⟩
end

/-! ### sorted of nested data -/
section
variable {X : Cx}
/-- sorted(l), l a list of nested data ks, alike in form -/
def rSortK (K : PySem.W.Frag) : List V → Hp → VK → Prop := fun vs H Q => ∃ (a : Addr) (xs : List V) (ks : List NestedKey), vs = [.ref a] ∧ SqL K H a xs ∧ IsKs K H ks xs ∧ (∀ a ∈ ks, ∀ b ∈ ks, cmK a b = true) ∧ NestedKey.depthAll ks ≤ 8 ∧
  ∀ (ys : List V) (ls : List NestedKey) (p : Addr), ls.Perm ks → ls.Pairwise (fun a b => ltK b a = false) → IsKs K H ls ys → H p = none → Q (.ref p) (upd H p (.lst ys))
theorem vals_mem {vs : List V} {us : List Value} (r : Vals vs us) : ∀ u ∈ us, ∃ v ∈ vs, RelV v u := by
  induction r with
  | nil => intro u h; cases h
  | cons a b ih =>
    intro u h
    rcases List.mem_cons.mp h with e | e
    · subst e; exact ⟨_, List.mem_cons_self, a⟩
    · obtain ⟨v, m, q⟩ := ih u e
      exact ⟨v, List.mem_cons_of_mem _ m, q⟩
theorem triples {K : PySem.W.Frag} {H : Hp} {h : Heap} : ∀ {ks : List NestedKey} {vs : List V} {us : List Value}, IsKs K H ks vs → Vals vs us → DAll h ks us → ∀ u ∈ us, ∃ k v, k ∈ ks ∧ IsK K H k v ∧ RelV v u ∧ DIs h k u
  | [], _, _, h1, h2, h3, u, hu => by cases h3; cases hu
  | k :: ks, _, _, ⟨x, r, e, a, b⟩, h2, h3, u, hu => by
    subst e
    cases h2 with
    | cons c1 c2 =>
      cases h3 with
      | cons d1 d2 =>
        rcases List.mem_cons.mp hu with e | e
        · subst e; exact ⟨k, x, List.mem_cons_self, a, c1, d1⟩
        · obtain ⟨k', v', m, q1, q2, q3⟩ := triples b c2 d2 u e
          exact ⟨k', v', List.mem_cons_of_mem _ m, q1, q2, q3⟩
theorem back_keys {K : PySem.W.Frag} {H : Hp} {h : Heap} : ∀ {out : List Value}, (∀ u ∈ out, ∃ k v, IsK K H k v ∧ RelV v u ∧ DIs h k u) → ∃ ls ys, IsKs K H ls ys ∧ Vals ys out ∧ ls = out.map (keyOf h)
  | [], _ => ⟨[], [], rfl, .nil, rfl⟩
  | u :: out, f => by
    obtain ⟨k, v, a, b, c⟩ := f u List.mem_cons_self
    obtain ⟨ls, ys, q1, q2, q3⟩ := back_keys (out := out) fun w hw => f w (List.mem_cons_of_mem _ hw)
    exact ⟨k :: ls, v :: ys, ⟨v, ys, rfl, a, q1⟩, .cons b q2, by rw [List.map_cons, keyOf_eq c, q3]⟩
theorem keys_map {h : Heap} : ∀ {ks : List NestedKey} {us : List Value}, DAll h ks us → us.map (keyOf h) = ks
  | [], _, x => by cases x; rfl
  | k :: ks, _, x => by
    cases x with
    | cons p r => rw [List.map_cons, keyOf_eq p, keys_map r]
theorem cr_sortK {K : PySem.W.Frag} (hu : X.A.units + 20 < cLine) (hX : X.K = K := by rfl) : CallR X (.builtin "sorted") (rSortK K) := by
  subst hX
  intro pins s σ H vs us Q I r q
  obtain ⟨a, xs, ks, rfl, sq, ik, cm, dep, q⟩ := q
  obtain ⟨u, eu, rx⟩ := vals1 r
  subst eu
  cases rx
  obtain ⟨its, rv, pl, hz⟩ := I.list sq
  have d := IsKs.dis I ks xs its ik rv
  refine sorted_keys (s := s) (ks := ks) pl.isList (by rw [← rv.length]; exact hz) d cm (by omega) fun h' p out hs hp hk hd ⟨n, ho⟩ => ?_
  obtain ⟨ls, ys, k1, k2, k3⟩ := back_keys (K := X.K) (H := H) (h := s.heap) (out := out) fun u hu => by
    obtain ⟨k, v, _, b, c, e⟩ := triples ik rv d u (hp.mem_iff.mp hu)
    exact ⟨k, v, b, c, e⟩
  have lz : ys.length ≤ sizeLine := by rw [k2.length, hp.length_eq, ← rv.length]; exact hz
  refine ⟨.ref p, _, I.laid (a := p) (o := .lst ys) (t' := s.toks) hk hd ⟨lz, out, n, k2, ho⟩, rfl, q ys ls p ?_ ?_ k1 (I.hok.fresh hd)⟩
  · rw [k3, ← keys_map d]
    exact hp.map _
  · rw [k3]
    exact List.pairwise_map.mpr hs
end
end HH
namespace HH
open PySem PySem.Spec PyProof.Rows L2 PySem.SeqAt

/-- list.sort of nested data -/
theorem list_sort_keys {prog : Program} {w : World} {A : Around} {E : Value → Shared → Prop} {s : Shared} {a : Addr} {ks : List NestedKey} {vs : List Value} {n : Nat} {R : PySem.Fin → Shared → Prop} (ho : s.heap.get? a = some (seqObj "list" vs.toArray n)) (hz : vs.length ≤ sizeLine)
    (x : DAll s.heap ks vs) (hc : ∀ a ∈ ks, ∀ b ∈ ks, cmK a b = true) (hu : A.units + NestedKey.depthAll ks < cLine)
    (h : ∀ out : List Value, SrtO.Srtd (fun v u => ltK (keyOf s.heap v) (keyOf s.heap u)) out → out.Perm vs → R (.done (.ret .none)) { s with heap := sortedHeap s.heap a vs out.toArray }) :
    wpAny (model prog w) A (Builtin.«list.sort» ⟨[.ref a], []⟩) R E s := by
  refine SrtO.list_sort_ord (swo_key s.heap) ho hz (fun h2 => ?_) fun out hs hb => h out hs hb.perm
  intro h' keep
  have ne : ∀ b vs', s.heap.IsTuple b vs' → b ≠ a := fun b vs' ⟨o, hb, hcl, _⟩ z => by
    subst z
    rw [hb] at ho
    cases ho
    exact absurd (Value.type.inj hcl) (by decide)
  have kt : ∀ b vs', s.heap.IsTuple b vs' → h'.IsTuple b vs' := fun b vs' t => by
    obtain ⟨o, hb, r⟩ := id t
    exact ⟨o, keep b o (ne b vs' t) hb, r⟩
  have xk : DAll h' ks vs := x.keep kt _ _
  obtain ⟨κ, K, run⟩ := kind_run (model prog w) A (s := { s with heap := h' }) xk
  refine ⟨κ, run, cmp_ok (s := { s with heap := h' }) xk (fun v hv k hk => ?_) K hc hu⟩
  obtain ⟨k', mk, hk'⟩ := x.mem v hv
  rw [keyOf_eq hk']
  exact NestedIs.inj _ _ _ ((DIs.keep kt _ _ hk').nested _ _) (hk.nested _ _)
section
variable {X : Cx}
theorem nd_keys {pins : List (Addr × Obj)} {σ : L2.St} {H : Hp} {s : Shared} (I : Inv X pins σ H s) : ∀ {xs : NX} {ys : List (NestedKey × Addr × Value)} {us : List Value}, NdRel xs ys → (∀ x ∈ xs, IsK X.K H x.1 (.ref x.2.1) ∧ x.1.depth ≤ 8) → us.length = ys.length → (∀ (j : Nat) (v : Value), us[j]? = some v → ∃ y, ys[j]? = some y ∧ v = .ref y.2.1) →
    IsKs X.K H (ys.map (·.1)) (ys.map fun y => V.ref y.2.1) ∧ Vals (ys.map fun y => V.ref y.2.1) us
  | [], [], [], _, _, _, _ => ⟨rfl, .nil⟩
  | [], [], _ :: _, _, _, hl, _ => by simp at hl
  | x :: xs, y :: ys, [], _, _, hl, _ => by simp at hl
  | x :: xs, y :: ys, u :: us, r, hk, hl, hu => by
    unfold NdRel at r
    cases r with
    | cons h t =>
      obtain ⟨e1, e2, _⟩ := h
      obtain ⟨a, _⟩ := hk x List.mem_cons_self
      obtain ⟨q1, q2⟩ := nd_keys I (us := us) t (fun z hz => hk z (List.mem_cons_of_mem _ hz)) (by simpa using hl) fun j v e => by
        obtain ⟨y', z1, z2⟩ := hu (j + 1) v (by simpa using e)
        exact ⟨y', by simpa using z1, z2⟩
      obtain ⟨y', z1, z2⟩ := hu 0 u rfl
      obtain rfl : y = y' := by simpa using z1
      rw [e1, e2] at a
      exact ⟨⟨_, _, rfl, a, q1⟩, .cons z2 q2⟩
/-- sorted(d), d a dict of nested keys, alike in form -/
def rSortN (P : Program) (w : World) (K : PySem.W.Frag) : List V → Hp → VK → Prop := fun vs H Q => ∃ (d : Addr) (kvs : List (NestedKey × V)), vs = [.ref d] ∧ NdAt P w K H d kvs ∧ (∀ a ∈ kvs.map (·.1), ∀ b ∈ kvs.map (·.1), cmK a b = true) ∧
  ∀ (ys : List V) (ls : List NestedKey) (p : Addr), ls.Perm (kvs.map (·.1)) → ls.Pairwise (fun a b => ltK b a = false) → IsKs K H ls ys → H p = none → Q (.ref p) (upd H p (.lst ys))
theorem depthAll_le {n : Nat} : ∀ {ks : List NestedKey}, (∀ k ∈ ks, k.depth ≤ n) → NestedKey.depthAll ks ≤ n
  | [], _ => by simp [NestedKey.depthAll]
  | k :: ks, h => by
    simp only [NestedKey.depthAll]
    have a := h k List.mem_cons_self
    have b := depthAll_le (ks := ks) fun x hx => h x (List.mem_cons_of_mem _ hx)
    omega
theorem cr_sortN {P : Program} {w : World} {K : PySem.W.Frag} (hu : X.A.units + 20 < cLine) (hcalm : X.calm = true) (hX : X.prog = P ∧ X.w = w ∧ X.K = K := by exact ⟨rfl, rfl, rfl⟩) : CallR X (.builtin "sorted") (rSortN P w K) := by
  obtain ⟨rfl, rfl, rfl⟩ := hX
  intro pins s σ H vs us Q I r q
  obtain ⟨d, kvs, rfl, ⟨xs, e, rfl, hk⟩, cm, q⟩ := q
  obtain ⟨u, eu, rx⟩ := vals1 r
  subst eu
  cases rx
  obtain ⟨z, lo, ys, rel, dd⟩ := nd_of I e hk
  obtain ⟨o, es, ep, ho, hex, hda, hes, hall, hnd⟩ := id dd
  have raw : s.heap.DictRaw d es ep := ⟨o, ho, hex, hda⟩
  have esz : es.size = ys.length := size_of_entries hes
  have h16 : es.size ≤ sizeLine := by rw [esz, ← rel.length]; exact z
  refine Calls.call_function_entry PyProof.Rows.kind_sorted PyProof.Rows.plain_sorted PyProof.Rows.entry_sorted (PyProof.Rows.args_sorted1 _) ?_
  unfold Builtin.«sorted»
  refine wpAny_bind (m := checkCount "sorted" 1 1 _) (wpAny_pure ?_)
  refine wpAny_bind (PySem.W.kdu_collect (A := X.A.in1) (PySem.KdlSrc.rawDict (es := es) (ep := ep) lo) (I.ok.hd hcalm) raw h16 fun h' tk acc hkp hacc => ?_)
  have hal : acc.toList.length = ys.length := by rw [Array.length_toList, hacc.1, esz]
  obtain ⟨ik, rv⟩ := nd_keys I (us := acc.toList) rel hk hal fun j v ej => by
    obtain ⟨hi, ev⟩ := hacc.2 j v (by rw [← Array.getElem?_toList]; exact ej)
    have hj : j < ys.length := by omega
    refine ⟨ys[j], List.getElem?_eq_getElem hj, ?_⟩
    have en := entry_at (knd := nestedKind X.prog X.w) hes j
    rw [List.getElem?_eq_getElem hj, Option.map_some, Array.getElem?_eq_getElem hi] at en
    rw [ev, Option.some.inj en]
    rfl
  have I1 : Inv X pins σ H { s with heap := h', toks := tk } := I.kept hkp
  have keq : (kvX xs).map (·.1) = ys.map (·.1) := by
    rw [← rel.keys]; unfold kvX; rw [List.map_map]; rfl
  have dep : NestedKey.depthAll (ys.map (·.1)) ≤ 8 := depthAll_le fun k hk' => by
    rw [← rel.keys] at hk'
    obtain ⟨x, hx, ex⟩ := List.mem_map.mp hk'
    rw [← ex]; exact (hk x hx).2
  refine wpAny_bind (wpAny_newList ?_ (by rw [hal, ← esz]; exact h16))
  have hoL : (h'.push (seqObj "list" acc.toList.toArray 0)).get? h'.objs.size = some (seqObj "list" acc.toList.toArray 0) := Heap.get?_push_size _ rfl
  show wpAny _ _ _ _ _ { s with heap := h'.push (seqObj "list" acc.toList.toArray 0), toks := tk }
  have I2 : Inv X pins σ H { s with heap := h'.push (seqObj "list" acc.toList.toArray 0), toks := tk } := I1.kept (t' := tk) fun b o e => Heap.get?_push_of_some _ e
  have da := IsKs.dis I2 _ _ _ ik rv
  refine wpAny_bind (wpAny_holding (wpAny_call_entry PyProof.Rows.slot_list_sort ⟨_, hoL, rfl⟩ PyProof.Rows.entry_list_sort
    (list_sort_keys (s := { s with heap := h'.push (seqObj "list" acc.toList.toArray 0), toks := tk }) hoL (by rw [hal, ← esz]; exact h16) da (by rw [← keq]; exact cm) (by show X.A.units + 1 + 1 + _ < _; omega) fun out hs hp => ⟨_, rfl, ?_⟩)
    (PyProof.Rows.args_list_sort _)))
  obtain ⟨ls, zs, k1, k2, k3⟩ := back_keys (K := X.K) (H := H) (h := h'.push (seqObj "list" acc.toList.toArray 0)) (out := out) fun u hu => by
    obtain ⟨k, v, _, b, c, e⟩ := triples ik rv da u (hp.mem_iff.mp hu)
    exact ⟨k, v, b, c, e⟩
  have sold : ∀ b o, h'.get? b = some o → (sortedHeap (h'.push (seqObj "list" acc.toList.toArray 0)) h'.objs.size acc.toList out.toArray).get? b = some o := fun b o h1 => by
    have hlt := Heap.lt_size h1
    rw [sortedHeap_old (Nat.ne_of_lt hlt) (by rw [size_push']; exact Nat.lt_succ_of_lt hlt)]
    exact Heap.get?_push_of_some _ h1
  obtain ⟨n, hn⟩ := sortedHeap_at (out := out.toArray) hoL
  refine wpAny_pure ⟨_, rfl, ⟨.ref h'.objs.size, _, I1.laid (a := h'.objs.size) (o := .lst zs) (t' := tk) sold (Nat.le_refl _) ⟨by rw [k2.length, hp.length_eq, hal, ← esz]; exact h16, out, n, k2, hn⟩, rfl, q zs ls _ ?_ ?_ k1 (I1.hok.fresh (Nat.le_refl _))⟩⟩
  · rw [k3, keq, ← keys_map da]
    exact hp.map _
  · rw [k3]
    exact List.pairwise_map.mpr hs
end
end HH
namespace HH
open PySem PySem.Spec PyProof.Rows L2 PySem.SeqAt

section
variable {X : Cx}
theorem OpR.or {f : Value → Value → Sem Value} {r r' : R2} (h : OpR X f r) (h' : OpR X f r') : OpR X f (fun x y H Q => r x y H Q ∨ r' x y H Q) := by
  intro pins s σ H x y v u Q I rx ry q
  rcases q with q | q
  · exact h pins s σ H x y v u Q I rx ry q
  · exact h' pins s σ H x y v u Q I rx ry q
theorem CallR.or {f : Value} {r r' : List V → Hp → VK → Prop} (h : CallR X f r) (h' : CallR X f r') : CallR X f (fun xs H Q => r xs H Q ∨ r' xs H Q) := by
  intro pins s σ H xs us Q I rx q
  rcases q with q | q
  · exact h pins s σ H xs us Q I rx q
  · exact h' pins s σ H xs us Q I rx q
/-- t == u of nested data -/
def rEqT (K : PySem.W.Frag) : R2 := fun x y H Q => ∃ ks ls, IsK K H (.tup ks) x ∧ IsK K H (.tup ls) y ∧ NestedKey.depthAll ks ≤ 30 ∧ Q (.bl (decide (ks = ls))) H
theorem op_eqT (hu : X.A.units + 40 < cLine) : OpR X (compareOp .Eq) (rEqT X.K) := by
  intro pins s σ H x y v u Q I rx ry q
  obtain ⟨ks, ls, ik, il, dep, q⟩ := q
  have d1 := IsK.dis I _ _ _ ik rx
  have d2 := IsK.dis I _ _ _ il ry
  cases d1 with
  | @tup a vs _ p r =>
    cases d2 with
    | @tup b us _ p' r' =>
      have n1 : vs.size = ks.length := by simpa using r.length
      have n2 : us.size = ls.length := by simpa using r'.length
      have hu1 : X.A.in1.units = X.A.units + 1 := rfl
      have key := RcAt.tuples (A := X.A) (s := s) (e := keyEqAt ks ls) p p' (by omega) fun j j1 j2 => by
        have := eqAt_keys ks ls X.A.in1 s vs.toList us.toList (r.nested _ _) (r'.nested _ _) (by omega) j (by simpa using j1) (by simpa using j2)
        simpa using this
      rw [n1, n2, beqAll_eq] at key
      refine key X.prog X.w _ _ ⟨.bl (decide (ks = ls)), H, I, ?_, q⟩
      have e : NestedKey.beqAll ks ls = decide (ks = ls) := by
        by_cases h : ks = ls
        · subst h; simp [NestedKey.beqAll_self]
        · rw [decide_eq_false h]
          cases h2 : NestedKey.beqAll ks ls with
          | false => rfl
          | true => exact absurd (NestedKey.eq_of_beqAll ks ls h2) h
      rw [e]
      rfl
/-- t < u of nested data -/
def rLtK (K : PySem.W.Frag) : R2 := fun x y H Q => ∃ k l, IsK K H k x ∧ IsK K H l y ∧ cmK k l = true ∧ k.depth ≤ 30 ∧ Q (.bl (ltK k l)) H
theorem op_ltK (hu : X.A.units + 40 < cLine) : OpR X (compareOp .Lt) (rLtK X.K) := by
  intro pins s σ H x y v u Q I rx ry q
  obtain ⟨k, l, ik, il, cm, dep, q⟩ := q
  have d1 := IsK.dis I _ _ _ ik rx
  have d2 := IsK.dis I _ _ _ il ry
  exact rc_lt _ k l X.A s v u (Nat.le_refl _) d1 d2 cm (by omega) X.prog X.w _ _ ⟨.bl (ltK k l), H, I, rfl, q⟩
end
end HH
namespace HH
open PySem PySem.Spec PyProof.Rows L2 PySem.SeqAt

/-! ### what the defs of a text are called by -/
structure Bi (mg : Str → Option Value) : Prop where
  len_ : mg "len" = none
  int_ : mg "int" = none
  abs_ : mg "abs" = none
  range : mg "range" = none
  sorted_ : mg "sorted" = none
  tuple_ : mg "tuple" = none
  list_ : mg "list" = none
  all_ : mg "all" = none
  any_ : mg "any" = none
  isinstance_ : mg "isinstance" = none
  bool_ : mg "bool" = none
  str_ : mg "str" = none
  dict_ : mg "dict" = none
  min_ : mg "min" = none
  max_ : mg "max" = none
  zip_ : mg "zip" = none
  enum_ : mg "enumerate" = none
def Callee (P : Program) (w : World) (K : PySem.W.Frag) (mg : Str → Option Value) (base : Heap) (k : Nat) (x : Str) (ps : List Str) (sp : Sp) : Prop :=
  ∃ f fd, FnOk P w K mg base CX0 k f fd ps sp ∧ mg x = some (.ref f) ∧ PySem.W.keepIn K (.ref f) = true ∧ Binds K fd ps []
/-- all but p stays -/
def Fr (p : Addr) (H H' : Hp) : Prop := ∀ b o, b ≠ p → H b = some o → H' b = some o
theorem Fr.refl (p : Addr) (H : Hp) : Fr p H H := fun _ _ _ h => h
theorem Fr.trans {p : Addr} {H H1 H2 : Hp} (a : Fr p H H1) (b : Fr p H1 H2) : Fr p H H2 := fun c o n h => b c o n (a c o n h)
theorem Fr.of {p : Addr} {H H' : Hp} (e : Same H H') : Fr p H H' := fun b o _ h => e b o h
theorem Fr.upd {p : Addr} {H : Hp} {o : HO} : Fr p H (upd H p o) := fun b u n h => by rw [upd_ne n]; exact h
theorem Fr.new {p a : Addr} {H : Hp} {o : HO} (n : H a = none) : Fr p H (L2.upd H a o) := fun b u _ h => by rw [upd_ne (ne_of_none h n)]; exact h
/-- an object that H does not know is written -/
theorem Fr.mut {p a : Addr} {H H' : Hp} {o : HO} (f : Fr p H H') (n : H a = none) : Fr p H (L2.upd H' a o) := fun b u hb h => by rw [upd_ne (ne_of_none h n)]; exact f b u hb h
theorem Fr.oth {p a : Addr} {H H1 H2 : Hp} (f : Fr p H H1) (n : H a = none) (e : ∀ b, b ≠ a → H2 b = H1 b) : Fr p H H2 := fun b u hb h => by rw [e b (ne_of_none h n)]; exact f b u hb h
theorem Fr.back {p a : Addr} {H H' : Hp} (f : Fr p H H') (ne : a ≠ p) (n : H' a = none) : H a = none := by
  cases h : H a with
  | none => rfl
  | some o => rw [f a o ne h] at n; cases n
theorem Fr.seq {K : PySem.W.Frag} {p a : Addr} {H H' : Hp} {xs : List V} (f : Fr p H H') (ne : a ≠ p) (h : SqL K H a xs) : SqL K H' a xs := by
  rcases h with (h | ⟨o, h⟩) | h
  · exact .inl (.inl (f _ _ ne h))
  · exact .inl (.inr ⟨o, f _ _ ne h⟩)
  · exact .inr h
theorem Fr.tup {K : PySem.W.Frag} {p : Addr} {H H' : Hp} {xs : List V} (f : Fr p H H') (hp : H p = some (.lst xs)) : Tup K H H' := fun a ys h => by
  rcases h with (h | ⟨o, h⟩) | h
  · exact .inl (.inl (f _ _ (ne_of h hp (fun z => nomatch z)) h))
  · exact .inl (.inr ⟨o, f _ _ (ne_of h hp (fun z => nomatch z)) h⟩)
  · exact .inr h
theorem same_new {H : Hp} {a : Addr} {o : HO} (n : H a = none) : Same H (L2.upd H a o) := fun b u h => by rw [upd_ne (ne_of_none h n)]; exact h
/-- what is newer than H may change -/
theorem same_mut {H H' : Hp} {a : Addr} {o : HO} (s : Same H H') (n : H a = none) : Same H (L2.upd H' a o) := fun b u h => by rw [upd_ne (ne_of_none h n)]; exact s b u h
theorem sz_le {n : Nat} (h : n ≤ 1000000) : n ≤ sizeLine := by rw [sizeLine_eq]; omega
theorem sz_lt {n : Nat} (h : n ≤ 1000000) : n < sizeLine := by rw [sizeLine_eq]; omega
def rAddU (K : PySem.W.Frag) : R2 := fun x y H Q => (rI0 (fun i j => .int (i + j)) x y H Q ∨ (∃ i j, x = .str i ∧ y = .str j ∧ i.length + j.length ≤ sizeLine ∧ Q (.str (i ++ j)) H)) ∨ rCat x y H Q ∨ rCatT K x y H Q
def rEqU (K : PySem.W.Frag) : R2 := fun x y H Q => rEq x y H Q ∨ rEqT K x y H Q
def rLtU (K : PySem.W.Frag) : R2 := fun x y H Q => rI0 (fun i j => .bl (decide (i < j))) x y H Q ∨ rLtK K x y H Q
def rLenU (P : Program) (w : World) (K : PySem.W.Frag) : List V → Hp → VK → Prop := fun xs H Q => ((∃ p ys, xs = [.ref p] ∧ (SqL K H p ys ∨ SqT K H p ys) ∧ Q (.int ys.length) H) ∨ (∃ z : Str, xs = [.str z] ∧ z.length ≤ sizeLine ∧ Q (.int z.length) H)) ∨ (∃ d kvs, xs = [.ref d] ∧ NdAt P w K H d kvs ∧ Q (.int kvs.length) H)
section
variable {X : Cx}
theorem op_addU {K : PySem.W.Frag} (hX : X.K = K := by rfl) : OpR X (binaryOp .Add) (rAddU K) := by subst hX; exact OpR.or (OpR.or op_add op_add_str) (OpR.or op_cat op_catT)
theorem op_eqU {K : PySem.W.Frag} (hu : X.A.units + 40 < cLine) (hX : X.K = K := by rfl) : OpR X (compareOp .Eq) (rEqU K) := by subst hX; exact OpR.or op_eq (op_eqT hu)
theorem op_ltU {K : PySem.W.Frag} (hu : X.A.units + 40 < cLine) (hX : X.K = K := by rfl) : OpR X (compareOp .Lt) (rLtU K) := by subst hX; exact OpR.or op_lt (op_ltK hu)
theorem call_lenU {P : Program} {w : World} {K : PySem.W.Frag} (hX : X.prog = P ∧ X.w = w ∧ X.K = K := by exact ⟨rfl, rfl, rfl⟩) : CallR X (.builtin "len") (rLenU P w K) := by obtain ⟨rfl, rfl, rfl⟩ := hX; exact CallR.or (CallR.or call_len_seq call_len_str) call_nlen
end
def rIntC : List V → Hp → VK → Prop := fun xs H Q => (∃ i, xs = [.int i] ∧ Q (.int i) H) ∨ ∃ k, xs = [.bl k] ∧ Q (.int (if k then 1 else 0)) H
def rAbsC : List V → Hp → VK → Prop := fun xs H Q => ∃ i, xs = [.int i] ∧ Q (.int (if i < 0 then -i else i)) H
def rTupC (K : PySem.W.Frag) : List V → Hp → VK → Prop := fun xs H Q => ∃ p ys, xs = [.ref p] ∧ ((SqL K H p ys ∧ ∀ l, H l = none → Q (.ref l) (upd H l (.tup ys))) ∨ (SqT K H p ys ∧ Q (.ref p) H))
theorem call_intC {X : Cx} : CallR X (.type "int") rIntC := call_int1
theorem call_absC {X : Cx} : CallR X (.builtin "abs") rAbsC := call_abs
theorem call_tupC {X : Cx} {K : PySem.W.Frag} (hX : X.K = K := by rfl) : CallR X (.type "tuple") (rTupC K) := by subst hX; exact call_tuple_of
theorem ix_listK {X : Cx} {K : PySem.W.Frag} (hX : X.K = K := by rfl) : IxR X (rIxL K) := by subst hX; exact ix_list
theorem ix_tupK {X : Cx} {K : PySem.W.Frag} (hX : X.K = K := by rfl) : IxR X (rIxT K) := by subst hX; exact ix_tup
theorem sl_listK {X : Cx} {K : PySem.W.Frag} (hX : X.K = K := by rfl) : SlR X (rSlL K) := by subst hX; exact sl_list
theorem cr_allK {X : Cx} {K : PySem.W.Frag} (hc : X.calm = true) (hX : X.K = K := by rfl) : CallR X (.builtin "all") (rAll K) := by subst hX; exact cr_all hc
theorem cr_anyK {X : Cx} {K : PySem.W.Frag} (hc : X.calm = true) (hX : X.K = K := by rfl) : CallR X (.builtin "any") (rAny K) := by subst hX; exact cr_any hc
theorem cr_sortedSK {X : Cx} {K : PySem.W.Frag} (hX : X.K = K := by rfl) : CallR X (.builtin "sorted") (rSortedS K) := by subst hX; exact cr_sortedS
theorem pg_tupK {X : Cx} {K : PySem.W.Frag} {es : List Expr} {k : Nat} {t : TGs} {pos : Pos} (n : Nat) (hc : X.calm = true) (h : PGs X es t) (hn : (assignEach es X.env).length = n := by rfl) (hst : (assignEach es X.env).findIdx? (·.1) = none := by rfl) (hX : X.K = K := by rfl) : PG X (.Tuple es k pos) (gTup K n t) := by subst hX; exact pg_tup hc h hn hst
theorem call_isiK {X : Cx} {K : PySem.W.Frag} (hX : X.K = K := by rfl) : CallR X (.builtin "isinstance") (rIsi K) := by subst hX; exact call_isi
theorem rd_isi {K : PySem.W.Frag} {H : Hp} {Q : VK} {x : V} {a b : String} {r : Bool} (ht : TyX K H x (.type a)) (hk : kitB a b = some r) (h : Q (.bl r) H) : rIsi K [x, .ty b] H Q := ⟨x, .ty b, _, _, r, rfl, .ty b, ht, kit_ty hk, h⟩
theorem iteNotF {A B : Prop} (h : A) : if (!false) = true then A else B := h
theorem iteNotT {A B : Prop} (h : B) : if (!true) = true then A else B := by rw [if_neg (by decide)]; exact h
theorem hu40_of {A : Around} {k : Nat} (hr : Room k A) : A.units + 40 < cLine := by have := hr.un; omega
theorem hu20_of {A : Around} {k : Nat} (hr : Room k A) : A.units + 20 < cLine := by have := hr.un; omega

/-! ### steps through a reading -/
section
variable {P : Program} {w : World} {K : PySem.W.Frag} {X : Cx} {σ : L2.St} {H : Hp} {Q : VK} {D : Ends} {t u : TS} {c d : TT} {te ta tb : TE} {tr : TA} {v x y : V} {i j : Int} {b : Bool} {QB : Bool → Hp → Prop} {g : TG}
theorem rd_seq (h : t { D with nx := u D } σ H) : tSeq t u D σ H := h
theorem rd_cut (Mid : L2.St → Hp → Prop) (h1 : t { D with nx := Mid } σ H) (h2 : ∀ σ' H', Mid σ' H' → u D σ' H') : C8.tCut t u D σ H := ⟨Mid, h1, h2⟩
theorem rd_next (h : D.nx σ H) : tNext D σ H := h
theorem rd_ret (h : te σ H D.rt) : tRet te D σ H := h
theorem rd_retN (h : D.rt .non H) : tRetN D σ H := h
theorem rd_drop (h : te σ H fun _ H1 => D.nx σ H1) : tDrop te D σ H := h
theorem rd_asg (h : te σ H fun x H1 => g x σ H1 D.nx) : tAsg te g D σ H := h
theorem rd_name {n : Nat} {Q : L2.St → Hp → Prop} (h : Q (σ.set n (some v)) H) : gName n v σ H Q := h
theorem rd_sub {to ti : TE} {s : TSet} {Q : L2.St → Hp → Prop} (h : to σ H fun o H1 => ti σ H1 fun i H2 => s o i v H2 fun H3 => Q σ H3) : gSub to ti s v σ H Q := h
theorem rd_ifs (h : c σ H fun b H1 => if b = true then t D σ H1 else u D σ H1) : tIfS c t u D σ H := h
theorem rd_op {r : R2} (h : ta σ H fun x H1 => tb σ H1 fun y H2 => r x y H2 Q) : tOp r ta tb σ H Q := h
theorem rd_un {r : V → Hp → VK → Prop} (h : ta σ H fun x H1 => r x H1 Q) : tUn r ta σ H Q := h
theorem rd_var {n : Nat} (e : σ[n]? = some (some v)) (h : Q v H) : tVar n σ H Q := ⟨v, e, h⟩
theorem rd_c (h : Q v H) : tC v σ H Q := h
theorem rd_test (h : te σ H fun x H' => ∃ k, x = .bl k ∧ QB k H') : tTest te σ H QB := h
theorem rd_tB (h : te σ H fun x H' => ∃ k, x = .bl k ∧ QB k H') : tB te σ H QB := h
theorem rd_bl (h : QB b H) : ∃ k, V.bl b = .bl k ∧ QB k H := ⟨b, rfl, h⟩
theorem rd_and (h : c σ H fun b H1 => if b = true then d σ H1 QB else QB false H1) : tAnd c d σ H QB := h
theorem rd_or (h : c σ H fun b H1 => if b = true then QB true H1 else d σ H1 QB) : tOr c d σ H QB := h
theorem rd_not (h : c σ H fun b H1 => QB (!b) H1) : tNot c σ H QB := h
theorem rd_andV (h : ta σ H fun x H1 => ∃ k, x = .bl k ∧ if k = true then tb σ H1 Q else Q (.bl false) H1) : tAndV ta tb σ H Q := h
theorem rd_orV (h : ta σ H fun x H1 => ∃ k, x = .bl k ∧ if k = true then Q (.bl true) H1 else tb σ H1 Q) : tOrV ta tb σ H Q := h
theorem rd_notV (h : ta σ H fun x H1 => ∃ k, x = .bl k ∧ Q (.bl (!k)) H1) : tNotV ta σ H Q := h
theorem rd_blQ {R : Bool → Prop} (h : R b) : ∃ k, V.bl b = .bl k ∧ R k := ⟨b, rfl, h⟩
theorem rd_if (h : c σ H fun b H1 => if b = true then ta σ H1 Q else tb σ H1 Q) : tIf c ta tb σ H Q := h
theorem rd_I0 {f : Int → Int → V} (h : Q (f i j) H) : rI0 f (.int i) (.int j) H Q := ⟨i, j, rfl, rfl, h⟩
theorem rd_I {C : Int → Int → Prop} {f : Int → Int → V} (hc : C i j) (h : Q (f i j) H) : rI C f (.int i) (.int j) H Q := ⟨i, j, rfl, rfl, hc, h⟩
theorem rd_U {f : Int → V} (h : Q (f i) H) : rU f (.int i) H Q := ⟨i, rfl, h⟩
theorem rd_addI (h : Q (.int (i + j)) H) : rAddU K (.int i) (.int j) H Q := .inl (.inl ⟨i, j, rfl, rfl, h⟩)
theorem rd_addS {z w : Str} (hz : z.length + w.length ≤ sizeLine) (h : Q (.str (z ++ w)) H) : rAddU K (.str z) (.str w) H Q := .inl (.inr ⟨z, w, rfl, rfl, hz, h⟩)
theorem rd_addL {a b : Addr} {xs ys : List V} (ha : H a = some (.lst xs)) (hb : H b = some (.lst ys)) (hz : xs.length + ys.length ≤ sizeLine) (h : ∀ p, H p = none → Q (.ref p) (upd H p (.lst (xs ++ ys)))) : rAddU K (.ref a) (.ref b) H Q :=
  .inr (.inl ⟨a, b, xs, ys, rfl, rfl, ha, hb, hz, h⟩)
theorem rd_eqI (h : Q (.bl (decide (i = j))) H) : rEqU K (.int i) (.int j) H Q := .inl ⟨rfl, by
  rw [show decide (V.int i = V.int j) = decide (i = j) from decide_eq_decide.mpr ⟨fun e => V.int.inj e, fun e => congrArg V.int e⟩]; exact h⟩
theorem rd_eqS {z w : Str} (h : Q (.bl (decide (z = w))) H) : rEqU K (.str z) (.str w) H Q := .inl ⟨rfl, by
  rw [show decide (V.str z = V.str w) = decide (z = w) from decide_eq_decide.mpr ⟨fun e => V.str.inj e, fun e => congrArg V.str e⟩]; exact h⟩
theorem rd_eqB {z w : Bool} (h : Q (.bl (decide (z = w))) H) : rEqU K (.bl z) (.bl w) H Q := .inl ⟨rfl, by
  rw [show decide (V.bl z = V.bl w) = decide (z = w) from decide_eq_decide.mpr ⟨fun e => V.bl.inj e, fun e => congrArg V.bl e⟩]; exact h⟩
theorem rd_eqT {ks ls : List NestedKey} (hx : IsK K H (.tup ks) x) (hy : IsK K H (.tup ls) y) (hd : NestedKey.depthAll ks ≤ 30) (h : Q (.bl (decide (ks = ls))) H) : rEqU K x y H Q := .inr ⟨ks, ls, hx, hy, hd, h⟩
theorem rd_ltI (h : Q (.bl (decide (i < j))) H) : rLtU K (.int i) (.int j) H Q := .inl ⟨i, j, rfl, rfl, h⟩
theorem rd_ixl {p : Addr} {xs : List V} (hp : SqL K H p xs) (ha : atI xs i = some v) (h : Q v H) : rIxL K (.ref p) (.int i) H Q := ⟨p, xs, i, v, rfl, rfl, hp, ha, h⟩
theorem rd_ixt {p : Addr} {xs : List V} (hp : SqT K H p xs) (ha : atI xs i = some v) (h : Q v H) : rIxT K (.ref p) (.int i) H Q := ⟨p, xs, i, v, rfl, rfl, hp, ha, h⟩
theorem rd_ixs {z : Str} {a : Nat} (hz : z.length ≤ sizeLine) (ha : atI z.cps.toList i = some a) (h : Q (.str ⟨#[a]⟩) H) : rIxS (.str z) (.int i) H Q := ⟨z, i, a, rfl, rfl, hz, ha, h⟩
theorem rd_setl {p : Addr} {xs : List V} {n : Nat} {R : Hp → Prop} (hp : H p = some (.lst xs)) (hn : ixN xs.length i = some n) (h : R (upd H p (.lst (xs.set n v)))) : rSetL (.ref p) (.int i) v H R := ⟨p, xs, i, n, rfl, rfl, hp, hn, h⟩
theorem rd_setl' {p : Addr} {xs : List V} {n : Nat} {R : Hp → Prop} (hp : H p = some (.lst xs)) (hn : ixN xs.length i = some n) (h : ∀ H' : Hp, H' p = some (.lst (xs.set n v)) → (∀ b, b ≠ p → H' b = H b) → R H') : rSetL (.ref p) (.int i) v H R :=
  rd_setl hp hn (h _ upd_same fun b hb => upd_ne hb)
theorem rd_cb {r : List V → Hp → VK → Prop} (h : tr σ H fun vs H1 => r vs H1 Q) : tCB r tr σ H Q := h
theorem rd_nil {Q : List V → Hp → Prop} (h : Q [] H) : tNil σ H Q := h
theorem rd_cons {Q : List V → Hp → Prop} (h : ta σ H fun x H1 => tr σ H1 fun xs H2 => Q (x :: xs) H2) : tCons ta tr σ H Q := h
theorem rd_call {sp : Sp} {dvs : List V} {E : XK} (h : tr σ H fun vs H1 => sp (vs ++ dvs) H1 Q E) : tCall sp dvs E tr σ H Q := h
theorem rd_tup (h : tr σ H fun xs H1 => xs.length ≤ sizeLine ∧ ∀ p, H1 p = none → Q (.ref p) (upd H1 p (.tup xs))) : tTup tr σ H Q := h
theorem rd_lst (h : tr σ H fun xs H1 => xs.length ≤ sizeLine ∧ ∀ p, H1 p = none → Q (.ref p) (upd H1 p (.lst xs))) : tLst tr σ H Q := h
theorem rd_lenL {p : Addr} {xs : List V} (hp : SqL K H p xs) (h : Q (.int xs.length) H) : rLenU P w K [.ref p] H Q := .inl (.inl ⟨p, xs, rfl, .inl hp, h⟩)
theorem rd_lenT {p : Addr} {xs : List V} (hp : SqT K H p xs) (h : Q (.int xs.length) H) : rLenU P w K [.ref p] H Q := .inl (.inl ⟨p, xs, rfl, .inr hp, h⟩)
theorem rd_lenS {z : Str} (hz : z.length ≤ sizeLine) (h : Q (.int z.length) H) : rLenU P w K [.str z] H Q := .inl (.inr ⟨z, rfl, hz, h⟩)
theorem rd_lenN {p : Addr} {kvs : List (NestedKey × V)} (n : NdAt P w K H p kvs) (h : Q (.int kvs.length) H) : rLenU P w K [.ref p] H Q := .inr ⟨p, kvs, rfl, n, h⟩
theorem rd_intI (h : Q (.int i) H) : rIntC [.int i] H Q := .inl ⟨i, rfl, h⟩
theorem rd_absI (h : Q (.int (if i < 0 then -i else i)) H) : rAbsC [.int i] H Q := ⟨i, rfl, h⟩
theorem rd_tupL {p : Addr} {ys : List V} (hp : SqL K H p ys) (h : ∀ l, H l = none → Q (.ref l) (upd H l (.tup ys))) : rTupC K [.ref p] H Q := ⟨p, ys, rfl, .inl ⟨hp, h⟩⟩
theorem rd_pow {f : Int → Int → V} (h0 : 0 ≤ j) (h1 : j ≤ 1000000) (h2 : i.natAbs < 2 ^ 64) (h : Q (f i j) H) : rI CPow f (.int i) (.int j) H Q := ⟨i, j, rfl, rfl, ⟨h0, h1, h2⟩, h⟩
theorem rd_mod {f : Int → Int → V} (h0 : j ≠ 0) (h : Q (f i j) H) : rI (fun _ j => j ≠ 0) f (.int i) (.int j) H Q := ⟨i, j, rfl, rfl, h0, h⟩
theorem rd_mulL {f : Int → Int → V} (h0 : -(2 ^ 64) < i) (h1 : i < 2 ^ 64) (h : Q (f i j) H) : rI CMul f (.int i) (.int j) H Q := ⟨i, j, rfl, rfl, .inl ⟨h0, h1⟩, h⟩
theorem rd_mulR {f : Int → Int → V} (h0 : -(2 ^ 64) < j) (h1 : j < 2 ^ 64) (h : Q (f i j) H) : rI CMul f (.int i) (.int j) H Q := ⟨i, j, rfl, rfl, .inr ⟨h0, h1⟩, h⟩
theorem rd_divW {n : Nat} {f : Int → Int → V} (h0 : 0 < j) (hb : j.natAbs < 2 ^ n) (hn : 0 < n) (h9 : n ≤ 9000) (h : Q (f i j) H) : rI CDivW f (.int i) (.int j) H Q := ⟨i, j, rfl, rfl, wide_div h0 hb hn h9, h⟩
theorem rd_bm {T : String} {r : V → List V → Hp → VK → Prop} (h : te σ H fun x H1 => tyV K T x H1 ∧ tr σ H1 fun xs H2 => r x xs H2 Q) : tBM K T r te tr σ H Q := h
theorem sql {a : Addr} {xs : List V} (h : H a = some (.lst xs)) : SqL K H a xs := .inl (.inl h)
theorem sqt {a : Addr} {xs : List V} (h : H a = some (.tup xs)) : SqT K H a xs := .inl (.inl h)
theorem rd_app {p : Addr} {xs : List V} (hp : H p = some (.lst xs)) (hz : xs.length < sizeLine) (h : Q .non (upd H p (.lst (xs ++ [y])))) : rAppend (.ref p) [y] H Q := ⟨p, xs, y, rfl, rfl, hp, hz, h⟩
end
end HH
namespace HH
open PySem PySem.Spec PyProof.Rows L2 PySem.SeqAt
section
variable {P : Program} {w : World} {K : PySem.W.Frag} {σ : L2.St} {H : Hp} {Q : VK} {D : Ends} {te tl : TE} {ta : TA} {tt : TT} {tb : TS} {g : TG} {wi : TI} {vs : List Nat}
theorem rd_lc (h : wi σ H fun J H1 => ∀ D, H1 D = none → ∃ W : Nat → Nat → Hp → Prop, (∃ m, W 0 m (upd H1 D (.lst []))) ∧ ∀ i m H, W i m H →
    (J.stop i H ∧ Q (.ref D) H) ∨ (J.go i H ∧ ∃ Nx : Hp → Prop, (∀ H', Nx H' → ∃ m', m' < m ∧ W (i + 1) m' H') ∧ ∀ x H', J.yld i H x H' → g x (wipe σ vs) H' fun σ2 H2 => wipe σ2 vs = wipe σ vs ∧ tt σ2 H2 fun b H3 =>
      if b = true then te σ2 H3 fun y H4 => ∃ acc, H4 D = some (.lst acc) ∧ acc.length < sizeLine ∧ Nx (upd H4 D (.lst (acc ++ [y]))) else Nx H3)) : tLc wi g tt te vs σ H Q := h
theorem rd_for (h : wi σ H fun J H1 => ∃ W : Nat → Nat → L2.St → Hp → Prop, (∃ m, W 0 m σ H1) ∧ ∀ i m σ H, W i m σ H →
    (J.stop i H ∧ D.nx σ H) ∨ (J.go i H ∧ ∃ N : L2.St → Hp → Prop, (∀ σ' H', N σ' H' → ∃ m', m' < m ∧ W (i + 1) m' σ' H') ∧ ∀ x H', J.yld i H x H' → g x σ H' fun σ2 H2 => tb { D with nx := N, ct := N, bk := D.nx } σ2 H2)) : tFor wi g tb D σ H := h
theorem rd_iL {R : It → Hp → Prop} (h : tl σ H fun x H1 => ∃ a, x = .ref a ∧ (∃ xs, SqL K H1 a xs) ∧ R (Itl K a) H1) : iList K tl σ H R := h
theorem rd_iT {R : It → Hp → Prop} (h : tl σ H fun x H1 => ∃ a, x = .ref a ∧ (∃ xs, SqT K H1 a xs) ∧ R (Itt K a) H1) : iTup K tl σ H R := h
theorem rd_iR1 {R : It → Hp → Prop} (h : ta σ H fun vs H1 => ∃ j : Int, vs = [.int j] ∧ -(2 ^ 62) ≤ j ∧ j < 2 ^ 62 ∧ R (Itr 0 j.toNat) H1) : iRng1 ta σ H R := h
theorem rd_iS {R : It → Hp → Prop} (h : tl σ H fun v H1 => ∃ x, v = .str x ∧ R (Its x) H1) : iStr tl σ H R := h
theorem rd_leafS {z : Str} {R : Str → Prop} (h : R z) : ∃ x, V.str z = .str x ∧ R x := ⟨z, rfl, h⟩
theorem rd_leafR {n : Int} {R : Int → Prop} (h1 : -(2 ^ 62) ≤ n) (h2 : n < 2 ^ 62) (h : R n) : ∃ j : Int, [V.int n] = [.int j] ∧ -(2 ^ 62) ≤ j ∧ j < 2 ^ 62 ∧ R j := ⟨n, rfl, h1, h2, h⟩
theorem rd_leafL {p : Addr} {xs : List V} {R : Addr → Prop} (hp : SqL K H p xs) (h : R p) : ∃ a, V.ref p = .ref a ∧ (∃ xs, SqL K H a xs) ∧ R a := ⟨p, rfl, ⟨_, hp⟩, h⟩
theorem rd_leafT {p : Addr} {xs : List V} {R : Addr → Prop} (hp : SqT K H p xs) (h : R p) : ∃ a, V.ref p = .ref a ∧ (∃ xs, SqT K H a xs) ∧ R a := ⟨p, rfl, ⟨_, hp⟩, h⟩
theorem rd_sl {r : V → Option Int → Option Int → Hp → VK → Prop} {lo hi : TO} (h : te σ H fun x H1 => lo σ H1 fun l H2 => hi σ H2 fun u H3 => r x l u H3 Q) : tSl r te lo hi σ H Q := h
theorem rd_noPart {Q : Option Int → Hp → Prop} (h : Q none H) : tNoPart σ H Q := h
theorem rd_part {Q : Option Int → Hp → Prop} (h : te σ H fun x H1 => ∃ i, x = .int i ∧ Q (some i) H1) : tPart te σ H Q := h
theorem rd_leafI {i : Int} {R : Int → Prop} (h : R i) : ∃ j, V.int i = .int j ∧ R j := ⟨i, rfl, h⟩
theorem rd_slL {p : Addr} {xs : List V} {lo hi : Option Int} (hp : SqL K H p xs) (h : ∀ q, H q = none → Q (.ref q) (upd H q (.lst (cutV xs lo hi)))) : rSlL K (.ref p) lo hi H Q := ⟨p, xs, rfl, hp, h⟩
theorem rd_slS {z : Str} {lo hi : Option Int} (hz : z.length ≤ sizeLine) (h : Q (.str (cutS z lo hi)) H) : rSlS (.str z) lo hi H Q := ⟨z, rfl, hz, h⟩
theorem rd_yes {Q : Bool → Hp → Prop} (h : Q true H) : tYes σ H Q := h
/-- a list comprehension over a list: σ' the slots, its own names forgotten -/
theorem lc_listW {a : Addr} {xs : List V} {H1 : Hp} {D : Addr} {Qd : Hp → Prop} (σ' : L2.St) (hw : wipe σ vs = σ') (Pv : Nat → Hp → Prop) (h0 : Pv 0 (upd H1 D (.lst []))) (hl : ∀ i H, i ≤ xs.length → Pv i H → SqL K H a xs)
    (hs : ∀ i x H, xs[i]? = some x → Pv i H → g x σ' H fun σ2 H2 => wipe σ2 vs = σ' ∧ tt σ2 H2 fun b H3 =>
      if b = true then te σ2 H3 fun y H4 => ∃ acc, H4 D = some (.lst acc) ∧ acc.length < sizeLine ∧ Pv (i + 1) (upd H4 D (.lst (acc ++ [y]))) else Pv (i + 1) H3) (hd : ∀ H, Pv xs.length H → Qd H) :
    ∃ W : Nat → Nat → Hp → Prop, (∃ m, W 0 m (upd H1 D (.lst []))) ∧ ∀ i m H, W i m H →
      ((Itl K a).stop i H ∧ Qd H) ∨ ((Itl K a).go i H ∧ ∃ Nx : Hp → Prop, (∀ H', Nx H' → ∃ m', m' < m ∧ W (i + 1) m' H') ∧ ∀ x H', (Itl K a).yld i H x H' → g x (wipe σ vs) H' fun σ2 H2 => wipe σ2 vs = wipe σ vs ∧ tt σ2 H2 fun b H3 =>
        if b = true then te σ2 H3 fun y H4 => ∃ acc, H4 D = some (.lst acc) ∧ acc.length < sizeLine ∧ Nx (upd H4 D (.lst (acc ++ [y]))) else Nx H3) := by
  subst hw
  exact lc_list Pv h0 hl hs hd
theorem lc_tupW {a : Addr} {xs : List V} {H1 : Hp} {D : Addr} {Qd : Hp → Prop} (σ' : L2.St) (hw : wipe σ vs = σ') (Pv : Nat → Hp → Prop) (h0 : Pv 0 (upd H1 D (.lst []))) (hl : ∀ i H, i ≤ xs.length → Pv i H → SqT K H a xs)
    (hs : ∀ i x H, xs[i]? = some x → Pv i H → g x σ' H fun σ2 H2 => wipe σ2 vs = σ' ∧ tt σ2 H2 fun b H3 =>
      if b = true then te σ2 H3 fun y H4 => ∃ acc, H4 D = some (.lst acc) ∧ acc.length < sizeLine ∧ Pv (i + 1) (upd H4 D (.lst (acc ++ [y]))) else Pv (i + 1) H3) (hd : ∀ H, Pv xs.length H → Qd H) :
    ∃ W : Nat → Nat → Hp → Prop, (∃ m, W 0 m (upd H1 D (.lst []))) ∧ ∀ i m H, W i m H →
      ((Itt K a).stop i H ∧ Qd H) ∨ ((Itt K a).go i H ∧ ∃ Nx : Hp → Prop, (∀ H', Nx H' → ∃ m', m' < m ∧ W (i + 1) m' H') ∧ ∀ x H', (Itt K a).yld i H x H' → g x (wipe σ vs) H' fun σ2 H2 => wipe σ2 vs = wipe σ vs ∧ tt σ2 H2 fun b H3 =>
        if b = true then te σ2 H3 fun y H4 => ∃ acc, H4 D = some (.lst acc) ∧ acc.length < sizeLine ∧ Nx (upd H4 D (.lst (acc ++ [y]))) else Nx H3) := by
  subst hw
  exact lc_tup Pv h0 hl hs hd
theorem cut_map {α : Type} (f : α → V) (xs : List α) (lo hi : Option Int) : ∃ ys : List α, cutV (xs.map f) lo hi = ys.map f ∧ ys.length ≤ xs.length ∧ ∀ y ∈ ys, y ∈ xs := by
  unfold cutV
  rw [← List.map_drop, ← List.map_take]
  exact ⟨_, rfl, by rw [List.length_take, List.length_drop]; omega, fun y hy => List.mem_of_mem_drop (List.mem_of_mem_take hy)⟩
end
end HH
namespace HH
open PySem PySem.Spec PyProof.Rows L2 PySem.SeqAt
/-- the codes of a text -/
abbrev cds (z : Str) : List Nat := z.cps.toList
theorem cds_app (a b : Str) : cds (a ++ b) = cds a ++ cds b := by
  show (a ++ b).cps.toList = _
  rw [Str.cps_append, Array.toList_append]
theorem len_cds (z : Str) : z.length = (cds z).length := by simp [Str.length, cds]
theorem cds_one (c : Nat) : cds ⟨#[c]⟩ = [c] := rfl
theorem cds_cut (z : Str) (lo hi : Option Int) : cds (cutS z lo hi) = ((cds z).drop (HT.sIx z.length 0 lo)).take (HT.sIx z.length z.length hi - HT.sIx z.length 0 lo) := rfl
theorem sIx_le' {n k : Nat} {i : Int} (h0 : 0 ≤ i) (h : i.toNat = k) : HT.sIx n 0 (some i) = min k n := by
  obtain ⟨m, rfl⟩ := Int.eq_ofNat_of_zero_le h0
  have : m = k := by simpa using h
  subst this
  exact HT.sIx_nat n 0 m
theorem sIx_ge' {n k : Nat} {i : Int} (h0 : 0 ≤ i) (h : i.toNat = k) : HT.sIx n n (some i) = min k n := by
  obtain ⟨m, rfl⟩ := Int.eq_ofNat_of_zero_le h0
  have : m = k := by simpa using h
  subst this
  exact HT.sIx_nat n n m
theorem cds_upto (z : Str) {i : Int} (h0 : 0 ≤ i) : cds (cutS z none (some i)) = (cds z).take i.toNat := by
  rw [cds_cut, HT.sIx_none, sIx_ge' h0 rfl, List.drop_zero, Nat.sub_zero, len_cds]
  rcases Nat.le_total i.toNat (cds z).length with h | h
  · rw [Nat.min_eq_left h]
  · rw [Nat.min_eq_right h, List.take_length, List.take_of_length_le h]
theorem cds_from (z : Str) {i : Int} (h0 : 0 ≤ i) : cds (cutS z (some i) none) = (cds z).drop i.toNat := by
  rw [cds_cut, HT.sIx_none, sIx_le' h0 rfl, len_cds]
  rcases Nat.le_total i.toNat (cds z).length with h | h
  · rw [Nat.min_eq_left h]
    exact List.take_of_length_le (by rw [List.length_drop]; omega)
  · rw [Nat.min_eq_right h, List.drop_length, List.drop_of_length_le h]
    exact List.take_nil
/-- a to z -/
def Low (z : Str) : Prop := ∀ c ∈ cds z, 97 ≤ c ∧ c ≤ 122
theorem Low.app {a b : Str} (ha : Low a) (hb : Low b) : Low (a ++ b) := fun c hc => by
  rw [cds_app, List.mem_append] at hc
  exact hc.elim (ha c) (hb c)
theorem Low.cut {z : Str} (h : Low z) (lo hi : Option Int) : Low (cutS z lo hi) := fun c hc => h c (by
  rw [cds_cut] at hc
  exact List.mem_of_mem_drop (List.mem_of_mem_take hc))
theorem Low.one {c : Nat} (h1 : 97 ≤ c) (h2 : c ≤ 122) : Low ⟨#[c]⟩ := fun d hd => by
  rw [cds_one, List.mem_singleton] at hd
  omega
theorem letters_at {r : Int} (h0 : 0 ≤ r) (h1 : r < 26) : atI (cds "abcdefghijklmnopqrstuvwxyz") r = some (97 + r.toNat) := by
  have e : cds "abcdefghijklmnopqrstuvwxyz" = List.range' 97 26 := by decide +kernel
  obtain ⟨n, rfl⟩ := Int.eq_ofNat_of_zero_le h0
  have hn : n < 26 := by omega
  rw [e]
  exact atI_nat (j := n) (by rw [List.getElem?_range' (by omega)]; simp)
/-! ### in -/
def rDIn (neg : Bool) : R2 := fun y x H Q => ∃ a o, x = .ref a ∧ DGet H a y o ∧ Q (.bl (if neg = true then !o.isSome else o.isSome)) H
def rInU (P : Program) (w : World) (K : PySem.W.Frag) (neg : Bool) : R2 := fun x y H Q => (rIn K neg x y H Q ∨ rNIn P w K neg x y H Q) ∨ rDIn neg x y H Q
section
variable {X : Cx}
theorem op_din (hu : X.A.units + 1 < cLine) : OpR X (compareOp .In) (rDIn false) := by
  intro pins s σ H y x u r Q I ry rx h
  obtain ⟨a, o, ex, g, q⟩ := h
  subst ex
  obtain rfl : r = Value.ref a := rx
  exact d_in hu I g ry fun s' I' => ⟨.bl o.isSome, H, I', rfl, q⟩
theorem op_dnotin (hu : X.A.units + 1 < cLine) : OpR X (compareOp .NotIn) (rDIn true) := by
  intro pins s σ H y x u r Q I ry rx h
  obtain ⟨a, o, ex, g, q⟩ := h
  subst ex
  obtain rfl : r = Value.ref a := rx
  exact d_notIn hu I g ry fun s' I' => ⟨.bl (!o.isSome), H, I', rfl, q⟩
theorem op_inU {P : Program} {w : World} {K : PySem.W.Frag} (hu : X.A.units + 20 < cLine) (hX : X.prog = P ∧ X.w = w ∧ X.K = K := by exact ⟨rfl, rfl, rfl⟩) : OpR X (compareOp .In) (rInU P w K false) := by obtain ⟨rfl, rfl, rfl⟩ := hX; exact OpR.or (OpR.or op_in_seq (op_nin hu)) (op_din (by omega))
theorem op_ninU {P : Program} {w : World} {K : PySem.W.Frag} (hu : X.A.units + 20 < cLine) (hX : X.prog = P ∧ X.w = w ∧ X.K = K := by exact ⟨rfl, rfl, rfl⟩) : OpR X (compareOp .NotIn) (rInU P w K true) := by obtain ⟨rfl, rfl, rfl⟩ := hX; exact OpR.or (OpR.or op_notIn_seq (op_nnotin hu)) (op_dnotin (by omega))
end
section
variable {P : Program} {w : World} {K : PySem.W.Frag} {H : Hp} {Q : VK} {neg : Bool}
theorem inV_strs (z : Str) (xs : List Str) : inV (.str z) (xs.map V.str) = decide (z ∈ xs) := by
  unfold inV
  rw [List.any_map, Bool.eq_iff_iff, List.any_eq_true, decide_eq_true_eq]
  constructor
  · rintro ⟨x, hx, e⟩
    have e' : (x == z) = true := e
    rw [← eq_of_beq e']; exact hx
  · intro h
    exact ⟨z, h, beq_self_eq_true z⟩
theorem flat_strs (xs : List Str) : (xs.map V.str).all flatV = true := by
  rw [List.all_map, List.all_eq_true]; intro x _; rfl
theorem rd_inS {z : Str} {p : Addr} {xs : List Str} (hp : SqL K H p (xs.map V.str)) (h : Q (.bl (decide (z ∈ xs))) H) : rInU P w K false (.str z) (.ref p) H Q :=
  .inl (.inl ⟨p, _, rfl, .inl hp, rfl, flat_strs xs, by rw [inV_strs]; exact h⟩)
theorem rd_ninS {z : Str} {p : Addr} {xs : List Str} (hp : SqL K H p (xs.map V.str)) (h : Q (.bl (!decide (z ∈ xs))) H) : rInU P w K true (.str z) (.ref p) H Q :=
  .inl (.inl ⟨p, _, rfl, .inl hp, rfl, flat_strs xs, by rw [inV_strs]; exact h⟩)
theorem rd_inN {x : V} {d : Addr} {kvs : List (NestedKey × V)} {k : NestedKey} (n : NdAt P w K H d kvs) (hy : KeyAt K H k x) (h : Q (.bl (valV kvs k).isSome) H) : rInU P w K false x (.ref d) H Q :=
  .inl (.inr ⟨d, kvs, k, rfl, n, hy, h⟩)
theorem rd_ninN {x : V} {d : Addr} {kvs : List (NestedKey × V)} {k : NestedKey} (n : NdAt P w K H d kvs) (hy : KeyAt K H k x) (h : Q (.bl (!(valV kvs k).isSome)) H) : rInU P w K true x (.ref d) H Q :=
  .inl (.inr ⟨d, kvs, k, rfl, n, hy, h⟩)
theorem rd_sortS {a : Addr} {xs : List Str} (ha : SqL K H a (xs.map V.str)) (hl : xs.length < 64) (h : ∀ (ys : List Str) (p : Addr), ys.Perm xs → sortedS ys = true → H p = none → Q (.ref p) (upd H p (.lst (ys.map V.str)))) : rSortedS K [.ref a] H Q :=
  ⟨a, xs, rfl, ha, hl, h⟩
end
end HH
namespace HH
open PySem PySem.Spec PyProof.Rows L2 PySem.SeqAt
/-! ### tables from texts to whole numbers -/
abbrev Tab := List (Str × Int)
section
variable {α : Type} [DecidableEq α]
def tget (m : List (α × Int)) (z : α) : Option Int := (m.find? fun q => decide (q.1 = z)).map (·.2)
def tput (m : List (α × Int)) (z : α) (n : Int) : List (α × Int) := if z ∈ m.map (·.1) then m.map (fun q => if q.1 = z then (q.1, n) else q) else m ++ [(z, n)]
def tdrop (m : List (α × Int)) (z : α) : List (α × Int) := m.filter fun q => decide (q.1 ≠ z)
theorem tget_cons_pos {q : α × Int} {m : List (α × Int)} {z : α} (e : q.1 = z) : tget (q :: m) z = some q.2 := by simp [tget, List.find?_cons, e]
theorem tget_cons_neg {q : α × Int} {m : List (α × Int)} {z : α} (e : ¬ q.1 = z) : tget (q :: m) z = tget m z := by simp [tget, List.find?_cons, e]
theorem tget_some {m : List (α × Int)} {z : α} : (tget m z).isSome = true ↔ z ∈ m.map (·.1) := by
  induction m with
  | nil => simp [tget]
  | cons q m ih =>
    by_cases e : q.1 = z
    · simp [tget_cons_pos e, e]
    · have e' : ¬ z = q.1 := fun h => e h.symm
      rw [tget_cons_neg e, ih]
      simp [e']
theorem tget_none {m : List (α × Int)} {z : α} (h : z ∉ m.map (·.1)) : tget m z = none := by
  cases q : tget m z with
  | none => rfl
  | some n => exact absurd (tget_some.mp (by rw [q]; rfl)) h
theorem tget_mem {m : List (α × Int)} {z : α} {n : Int} (h : tget m z = some n) : (z, n) ∈ m := by
  unfold tget at h
  obtain ⟨q, hq, e⟩ := Option.map_eq_some_iff.mp h
  have h1 := List.mem_of_find?_eq_some hq
  have h2 := List.find?_some hq
  simp only [decide_eq_true_eq] at h2
  rw [← h2, ← e]
  exact h1
theorem mem_tget {m : List (α × Int)} {z : α} {n : Int} (nd : (m.map (·.1)).Nodup) (h : (z, n) ∈ m) : tget m z = some n := by
  induction m with
  | nil => cases h
  | cons q m ih =>
    rw [List.map_cons, List.nodup_cons] at nd
    rcases List.mem_cons.mp h with e | e
    · subst e
      exact tget_cons_pos rfl
    · have ne : ¬ q.1 = z := fun h => nd.1 (by rw [h]; exact List.mem_map.mpr ⟨(z, n), e, rfl⟩)
      rw [tget_cons_neg ne]
      exact ih nd.2 e
theorem tput_keys (m : List (α × Int)) (z : α) (n : Int) : (tput m z n).map (·.1) = if z ∈ m.map (·.1) then m.map (·.1) else m.map (·.1) ++ [z] := by
  unfold tput
  split
  · rw [List.map_map]
    refine List.map_congr_left fun q _ => ?_
    show (if q.1 = z then (q.1, n) else q).1 = q.1
    split <;> rfl
  · simp
theorem tput_nodup {m : List (α × Int)} {z : α} {n : Int} (nd : (m.map (·.1)).Nodup) : ((tput m z n).map (·.1)).Nodup := by
  rw [tput_keys]
  split
  · exact nd
  · rename_i h
    exact List.nodup_append.mpr ⟨nd, List.nodup_cons.mpr ⟨List.not_mem_nil, List.nodup_nil⟩, fun a ha b hb e => h (by rw [List.mem_singleton.mp hb] at e; rw [← e]; exact ha)⟩
theorem mem_tput {m : List (α × Int)} {z : α} {n : Int} {q : α × Int} (h : q ∈ tput m z n) : q ∈ m ∨ q = (z, n) := by
  unfold tput at h
  split at h
  · obtain ⟨r, hr, e⟩ := List.mem_map.mp h
    split at e
    · rename_i e2
      exact .inr (by rw [← e, e2])
    · exact .inl (by rw [← e]; exact hr)
  · rcases List.mem_append.mp h with h | h
    · exact .inl h
    · exact .inr (List.mem_singleton.mp h)
theorem tput_len (m : List (α × Int)) (z : α) (n : Int) : (tput m z n).length ≤ m.length + 1 := by
  unfold tput
  split
  · rw [List.length_map]; omega
  · rw [List.length_append]; simp
theorem tput_ne (m : List (α × Int)) (z : α) (n : Int) : 1 ≤ (tput m z n).length := by
  unfold tput
  split
  · rename_i h
    obtain ⟨q, hq, _⟩ := List.mem_map.mp h
    rw [List.length_map]
    exact List.length_pos_of_mem hq
  · rw [List.length_append]; simp
theorem tput_has {m : List (α × Int)} {z x : α} {n : Int} (h : x ∈ m.map (·.1) ∨ x = z) : x ∈ (tput m z n).map (·.1) := by
  rw [tput_keys]
  split
  · rename_i hz
    rcases h with h | h
    · exact h
    · rw [h]; exact hz
  · rcases h with h | h
    · exact List.mem_append_left _ h
    · rw [h]; exact List.mem_append_right _ (List.mem_singleton.mpr rfl)
theorem tdrop_nodup {m : List (α × Int)} {z : α} (nd : (m.map (·.1)).Nodup) : ((tdrop m z).map (·.1)).Nodup := nd.sublist (List.filter_sublist.map _)
theorem mem_tdrop {m : List (α × Int)} {z : α} {q : α × Int} (h : q ∈ tdrop m z) : q ∈ m := (List.mem_filter.mp h).1
theorem tdrop_len (m : List (α × Int)) (z : α) : (tdrop m z).length ≤ m.length := List.length_filter_le _ _
theorem upd_sum (z : α) (v : Int) : ∀ m : List (α × Int), (m.map (·.1)).Nodup → z ∈ m.map (·.1) → ((m.map fun q => if q.1 = z then (q.1, v) else q).map (·.2)).sum = (m.map (·.2)).sum + v - (tget m z).getD 0
  | [], _, h => by simp at h
  | q :: m, nd, h => by
    rw [List.map_cons, List.nodup_cons] at nd
    by_cases e : q.1 = z
    · have e2 : (m.map fun q => if q.1 = z then (q.1, v) else q) = m := by
        have : ∀ r ∈ m, (if r.1 = z then (r.1, v) else r) = r := fun r hr => if_neg fun h => nd.1 (by rw [e, ← h]; exact List.mem_map.mpr ⟨r, hr, rfl⟩)
        rw [List.map_congr_left this, List.map_id']
      rw [List.map_cons, if_pos e, e2, tget_cons_pos e, List.map_cons, List.map_cons, List.sum_cons, List.sum_cons]
      simp only [Option.getD_some]
      omega
    · have h' : z ∈ m.map (·.1) := by
        rw [List.map_cons] at h
        rcases List.mem_cons.mp h with r | r
        · exact absurd r.symm e
        · exact r
      have ih := upd_sum z v m nd.2 h'
      rw [List.map_cons, if_neg e, tget_cons_neg e, List.map_cons, List.map_cons, List.sum_cons, List.sum_cons, ih]
      omega
theorem tput_sum {m : List (α × Int)} (nd : (m.map (·.1)).Nodup) (z : α) (v : Int) : ((tput m z v).map (·.2)).sum = (m.map (·.2)).sum + v - (tget m z).getD 0 := by
  unfold tput
  split
  · rename_i h
    exact upd_sum z v m nd h
  · rename_i h
    rw [tget_none h, List.map_append, List.sum_append]
    simp
theorem perm_sum {a b : List Int} (h : a.Perm b) : a.sum = b.sum := by
  induction h with
  | nil => rfl
  | cons x _ ih => rw [List.sum_cons, List.sum_cons, ih]
  | swap x y l => simp only [List.sum_cons]; omega
  | trans _ _ h1 h2 => exact h1.trans h2
/-- the table in another order of its keys -/
theorem tab_perm {m : List (α × Int)} {ys : List α} (nd : (m.map (·.1)).Nodup) (pm : ys.Perm (m.map (·.1))) : (ys.map fun y => (y, (tget m y).getD 0)).Perm m := by
  have h := pm.map fun y => (y, (tget m y).getD 0)
  rw [List.map_map] at h
  have e : m.map ((fun y => (y, (tget m y).getD 0)) ∘ fun q => q.1) = m := by
    have : ∀ q ∈ m, ((fun y => (y, (tget m y).getD 0)) ∘ fun q : α × Int => q.1) q = q := fun q hq => by
      show (q.1, (tget m q.1).getD 0) = q
      rw [mem_tget nd (show (q.1, q.2) ∈ m from hq)]
      rfl
    rw [List.map_congr_left this, List.map_id']
  rw [e] at h
  exact h
/-! ### such a table as a dict's pairs -/
section
variable {κ : Type} [DecidableEq κ] (enc : α → κ) (inj : ∀ a b, enc a = enc b → a = b)
def encV (m : List (α × Int)) : List (κ × V) := m.map fun q => (enc q.1, V.int q.2)
include inj
theorem valV_enc (m : List (α × Int)) (z : α) : valV (encV enc m) (enc z) = (tget m z).map V.int := by
  induction m with
  | nil => rfl
  | cons q m ih =>
    show valV ((enc q.1, V.int q.2) :: encV enc m) _ = _
    by_cases e : q.1 = z
    · rw [valV_pos (p := (enc q.1, V.int q.2)) (by rw [e]), tget_cons_pos e]
      rfl
    · rw [valV_neg (p := (enc q.1, V.int q.2)) (fun h => e (inj _ _ h)), ih, tget_cons_neg e]
theorem putK_enc (m : List (α × Int)) (z : α) (n : Int) : putK (encV enc m) (enc z) (V.int n) = encV enc (tput m z n) := by
  unfold putK tput
  rw [valV_any, valV_enc enc inj, Option.isSome_map]
  by_cases h : z ∈ m.map (·.1)
  · rw [if_pos (tget_some.mpr h), if_pos h]
    unfold encV
    rw [List.map_map, List.map_map]
    refine List.map_congr_left fun q _ => ?_
    by_cases e : q.1 = z
    · simp [e]
    · have : ¬ enc q.1 = enc z := fun h => e (inj _ _ h)
      simp [e, this]
  · rw [if_neg (fun q => h (tget_some.mp q)), if_neg h]
    simp [encV]
theorem dropK_enc (m : List (α × Int)) (z : α) : dropK (encV enc m) (enc z) = encV enc (tdrop m z) := by
  unfold dropK encV tdrop
  rw [List.filter_map]
  congr 1
  refine List.filter_congr fun q _ => ?_
  show decide (enc q.1 ≠ enc z) = decide (q.1 ≠ z)
  by_cases e : q.1 = z
  · simp [e]
  · have : ¬ enc q.1 = enc z := fun h => e (inj _ _ h)
    simp [e, this]
end
end
def tabV (m : Tab) : List (Key × V) := encV Sum.inr m
theorem tabV_len (m : Tab) : (tabV m).length = m.length := List.length_map _
theorem tabV_keys (m : Tab) : (tabV m).map (·.1) = (m.map (·.1)).map Sum.inr := by simp [tabV, encV]
theorem valV_tab (m : Tab) (z : Str) : valV (tabV m) (Sum.inr z) = (tget m z).map V.int := valV_enc Sum.inr (fun _ _ h => Sum.inr.inj h) m z
theorem putK_tab (m : Tab) (z : Str) (n : Int) : putK (tabV m) (Sum.inr z) (V.int n) = tabV (tput m z n) := putK_enc Sum.inr (fun _ _ h => Sum.inr.inj h) m z n
/-! ### steps over such a dict -/
section
variable {P : Program} {w : World} {K : PySem.W.Frag} {σ : L2.St} {H : Hp} {Q : VK} {D : Ends} {td ty tv tx : TE}
theorem rd_tDGet2 (h : td σ H fun x H1 => ∃ a, x = .ref a ∧ IsD H1 a ∧ ty σ H1 fun y H2 => tx σ H2 fun z H3 => ∃ o, DGet H3 a y o ∧ Q (o.getD z) H3) : tDGet2 td ty tx σ H Q := h
theorem rd_tDGet (h : td σ H fun x H1 => ty σ H1 fun y H2 => ∃ a v, x = .ref a ∧ DGet H2 a y (some v) ∧ Q v H2) : tDGet td ty σ H Q := h
theorem rd_sDPut (h : tv σ H fun v H1 => td σ H1 fun x H2 => ty σ H2 fun y H3 => ∃ a H4, x = .ref a ∧ DPut H3 a y v H4 ∧ D.nx σ H4) : sDPut td ty tv D σ H := h
theorem rd_isD {a : Addr} {kvs : List (Key × V)} {R : Addr → Prop} (ha : H a = some (.dK kvs)) (h : R a) : ∃ b, V.ref a = .ref b ∧ IsD H b ∧ R b := ⟨a, rfl, .inl ⟨kvs, .inl ha⟩, h⟩
theorem rd_dgetS {a : Addr} {m : Tab} {z : Str} {x : V} (ha : H a = some (.dK (tabV m))) (h : Q (((tget m z).map V.int).getD x) H) : ∃ o, DGet H a (.str z) o ∧ Q (o.getD x) H :=
  ⟨_, DGet.k (k := Sum.inr z) ha, by rw [valV_tab]; exact h⟩
theorem rd_dgetT {a : Addr} {m : Tab} {z : Str} {n : Int} (ha : H a = some (.dK (tabV m))) (e : tget m z = some n) (h : Q (.int n) H) : ∃ b v, V.ref a = .ref b ∧ DGet H b (.str z) (some v) ∧ Q v H :=
  ⟨a, .int n, rfl, by have := DGet.k (k := Sum.inr z) ha; rw [valV_tab, e] at this; exact this, h⟩
theorem dget_tab {a : Addr} {m : Tab} {z : Str} {n : Int} (ha : H a = some (.dK (tabV m))) (e : tget m z = some n) : DGet H a (.str z) (some (.int n)) := by
  have := DGet.k (k := Sum.inr z) ha
  rw [valV_tab, e] at this
  exact this
theorem rd_dputT {a : Addr} {m : Tab} {z : Str} {n : Int} (ha : H a = some (.dK (tabV m))) (hl : m.length ≤ 1000000) (h : ∀ H' : Hp, H' a = some (.dK (tabV (tput m z n))) → (∀ b, b ≠ a → H' b = H b) → D.nx σ H') :
    ∃ b H4, V.ref a = .ref b ∧ DPut H b (.str z) (.int n) H4 ∧ D.nx σ H4 :=
  ⟨a, _, rfl, DPut.k (k := Sum.inr z) ha (by rw [tabV_len]; exact sz_lt hl), h _ (by rw [upd_same, putK_tab]) fun b hb => upd_ne hb⟩
theorem rd_dnewK (h : ∀ p, H p = none → Q (.ref p) (upd H p (.dK []))) : tDNewK σ H Q := h
def rSortD : List V → Hp → VK → Prop := fun xs H Q => ∃ (a : Addr) (kvs : List (Key × V)) (ks : List Str), xs = [.ref a] ∧ Rd H a (.dK kvs) ∧ kvs.map (·.1) = ks.map Sum.inr ∧ ks.length < 64 ∧
  ∀ ys p, ys.Perm ks → sortedS ys = true → H p = none → Q (.ref p) (upd H p (.lst (ys.map V.str)))
theorem cr_sortD {X : Cx} (hc : X.calm = true) : CallR X (.builtin "sorted") rSortD := call_sortedD hc
theorem rd_sortD {a : Addr} {m : Tab} (ha : H a = some (.dK (tabV m))) (hl : m.length < 64) (h : ∀ (ys : List Str) (p : Addr), ys.Perm (m.map (·.1)) → sortedS ys = true → H p = none → Q (.ref p) (upd H p (.lst (ys.map V.str)))) : rSortD [.ref a] H Q :=
  ⟨a, _, m.map (·.1), rfl, .inl ha, tabV_keys m, by rw [List.length_map]; exact hl, h⟩
end
/-! ### products -/
def prodK (ps : Tab) : NestedKey := .tup (ps.map fun q => .tup [.text q.1, .num q.2])
theorem prodK_depth (ps : Tab) : (prodK ps).depth ≤ 2 := by
  have : NestedKey.depthAll (ps.map fun q => .tup [.text q.1, .num q.2]) ≤ 1 := depthAll_le fun k hk => by
    obtain ⟨q, _, rfl⟩ := List.mem_map.mp hk
    simp [NestedKey.depth, NestedKey.depthAll]
  simp only [prodK, NestedKey.depth]
  omega
theorem prodK_inj {a b : Tab} (h : prodK a = prodK b) : a = b := by
  simp only [prodK, NestedKey.tup.injEq] at h
  induction a generalizing b with
  | nil => cases b with
    | nil => rfl
    | cons y b => simp at h
  | cons x a ih => cases b with
    | nil => simp at h
    | cons y b =>
      simp only [List.map_cons, List.cons.injEq, NestedKey.tup.injEq, NestedKey.text.injEq, NestedKey.num.injEq, and_true] at h
      obtain ⟨⟨h1, h2⟩, h3⟩ := h
      rw [ih h3]
      cases x; cases y
      simp only at h1 h2
      rw [h1, h2]
theorem cm_prod : ∀ (a b : Tab), cmL (a.map fun q => .tup [.text q.1, .num q.2]) (b.map fun q => .tup [.text q.1, .num q.2]) = true
  | [], [] => rfl
  | [], _ :: _ => rfl
  | _ :: _, [] => rfl
  | x :: a, y :: b => by
    rw [List.map_cons, List.map_cons, cmL, cm_prod a b]
    rfl
theorem cmK_prod (a b : Tab) : cmK (prodK a) (prodK b) = true := cm_prod a b
/-! ### sums: coefficients and products -/
abbrev Sm := List (Int × Tab)
def termK (q : Int × Tab) : NestedKey := .tup [.num q.1, prodK q.2]
def sumK (S : Sm) : NestedKey := .tup (S.map termK)
theorem termK_depth (q : Int × Tab) : (termK q).depth ≤ 3 := by
  have := prodK_depth q.2
  simp only [termK, NestedKey.depth, NestedKey.depthAll]
  omega
theorem sumK_depth (S : Sm) : (sumK S).depth ≤ 4 := by
  have : NestedKey.depthAll (S.map termK) ≤ 3 := depthAll_le fun k hk => by
    obtain ⟨q, _, rfl⟩ := List.mem_map.mp hk
    exact termK_depth q
  simp only [sumK, NestedKey.depth]
  omega
/-- a dict from products to whole numbers -/
abbrev Pt := List (Tab × Int)
def ptV (m : Pt) : List (NestedKey × V) := encV prodK m
theorem ptV_len (m : Pt) : (ptV m).length = m.length := List.length_map _
theorem ptV_keys (m : Pt) : (ptV m).map (·.1) = (m.map (·.1)).map prodK := by simp [ptV, encV]
theorem valV_pt (m : Pt) (z : Tab) : valV (ptV m) (prodK z) = (tget m z).map V.int := valV_enc prodK (fun _ _ h => prodK_inj h) m z
theorem putK_pt (m : Pt) (z : Tab) (n : Int) : putK (ptV m) (prodK z) (V.int n) = ptV (tput m z n) := putK_enc prodK (fun _ _ h => prodK_inj h) m z n
theorem dropK_pt (m : Pt) (z : Tab) : dropK (ptV m) (prodK z) = ptV (tdrop m z) := dropK_enc prodK (fun _ _ h => prodK_inj h) m z
theorem ptV_cm (m : Pt) : ∀ a ∈ (ptV m).map (·.1), ∀ b ∈ (ptV m).map (·.1), cmK a b = true := by
  rw [ptV_keys]
  intro a ha b hb
  obtain ⟨x, _, rfl⟩ := List.mem_map.mp ha
  obtain ⟨y, _, rfl⟩ := List.mem_map.mp hb
  exact cmK_prod x y
/-- keys told in another order are products again -/
theorem keys_back {m : Pt} {ls : List NestedKey} (pm : ls.Perm ((ptV m).map (·.1))) : ∃ ys : List Tab, ls = ys.map prodK ∧ ys.Perm (m.map (·.1)) := by
  rw [ptV_keys] at pm
  have all : ∀ l ∈ ls, ∃ y, prodK y = l := fun l hl => by
    obtain ⟨y, _, e⟩ := List.mem_map.mp (pm.mem_iff.mp hl)
    exact ⟨y, e⟩
  have key : ∀ ls : List NestedKey, (∀ l ∈ ls, ∃ y, prodK y = l) → ∃ ys : List Tab, ls = ys.map prodK := by
    intro ls
    induction ls with
    | nil => exact fun _ => ⟨[], rfl⟩
    | cons l ls ih =>
      intro h
      obtain ⟨y, e⟩ := h l List.mem_cons_self
      obtain ⟨ys, e2⟩ := ih fun k hk => h k (List.mem_cons_of_mem _ hk)
      exact ⟨y :: ys, by rw [e2, List.map_cons, e]⟩
  obtain ⟨ys, rfl⟩ := key ls all
  refine ⟨ys, rfl, ?_⟩
  have inj : ∀ (a b : List Tab), (a.map prodK).Perm (b.map prodK) → a.Perm b := by
    intro a b h
    refine List.perm_iff_count.mpr fun x => ?_
    have cnt : ∀ l : List Tab, (l.map prodK).count (prodK x) = l.count x := by
      intro l
      induction l with
      | nil => rfl
      | cons y l ih =>
        rw [List.map_cons, List.count_cons, List.count_cons, ih]
        by_cases e : y = x
        · subst e; simp
        · have e2 : ¬ prodK y = prodK x := fun h => e (prodK_inj h)
          simp [e, e2]
    rw [← cnt a, ← cnt b, h.count_eq]
  exact inj _ _ pm
section
variable {P : Program} {w : World} {K : PySem.W.Frag} {σ : L2.St} {H : Hp} {Q : VK} {D : Ends} {td ty tv tz : TE}
theorem rd_nnew (h : ∀ p, H p = none → Q (.ref p) (upd H p (NdO P w p []))) : tNNew P w σ H Q := h
theorem rd_nget (h : td σ H fun x H1 => ty σ H1 fun y H2 => ∃ d kvs k v, x = .ref d ∧ NdAt P w K H2 d kvs ∧ KeyAt K H2 k y ∧ valV kvs k = some v ∧ Q v H2) : tNGet P w K td ty σ H Q := h
theorem rd_nget2 (h : td σ H fun x H1 => ∃ d, x = .ref d ∧ (∃ kvs, NdAt P w K H1 d kvs) ∧ ty σ H1 fun y H2 => tz σ H2 fun z H3 => ∃ kvs k, NdAt P w K H3 d kvs ∧ KeyAt K H3 k y ∧ Q ((valV kvs k).getD z) H3) : tNGet2 P w K td ty tz σ H Q := h
theorem rd_npop (h : td σ H fun x H1 => ∃ d, x = .ref d ∧ (∃ kvs, NdAt P w K H1 d kvs) ∧ ty σ H1 fun y H2 => ∃ kvs k v, NdAt P w K H2 d kvs ∧ KeyAt K H2 k y ∧ valV kvs k = some v ∧ NdTo P w K H2 d (dropK kvs k) (Q v)) : tNPop P w K td ty σ H Q := h
theorem rd_nput (h : tv σ H fun v H1 => td σ H1 fun x H2 => ty σ H2 fun y H3 => ∃ d kvs k, x = .ref d ∧ NdAt P w K H3 d kvs ∧ KeyAt K H3 k y ∧ kvs.length < sizeLine ∧ NdTo P w K H3 d (putK kvs k v) (D.nx σ)) : sNPut P w K td ty tv D σ H := h
/-- a dict of nested keys stays when its own object and the tuples stay -/
theorem NdAt.keep {H H' : Hp} {d : Addr} {kvs : List (NestedKey × V)} (n : NdAt P w K H d kvs) (s : ∀ o, H d = some o → H' d = some o) (t : Tup K H H') : NdAt P w K H' d kvs := by
  obtain ⟨xs, e, k, h⟩ := n
  exact ⟨xs, s _ e, k, fun x hx => ⟨(h x hx).1.keep t, (h x hx).2⟩⟩
theorem NdAt.at {H : Hp} {d : Addr} {kvs : List (NestedKey × V)} (n : NdAt P w K H d kvs) : ∃ xs, H d = some (NdO P w d xs) := let ⟨xs, e, _⟩ := n; ⟨xs, e⟩
theorem prod_key {H : Hp} {ps : Tab} {t : Addr} (h : IsK K H (prodK ps) (.ref t)) : KeyAt K H (prodK ps) (.ref t) := ⟨t, rfl, h, by have := prodK_depth ps; omega⟩
end
end HH
namespace HH
open PySem PySem.Spec PyProof.Rows L2 PySem.SeqAt
section
variable {P : Program} {w : World} {K : PySem.W.Frag} {σ : L2.St} {H : Hp} {Q : VK} {D : Ends} {te tl tk tv : TE} {ta : TA} {tt : TT} {tb : TS} {g : TG} {wi : TI} {vs : List Nat}
theorem rd_dcn (h : wi σ H fun J H1 => ∀ D, H1 D = none → ∃ W : Nat → Nat → Hp → Prop, (∃ m, W 0 m (upd H1 D (NdO P w D []))) ∧ ∀ i m H, W i m H →
  (J.stop i H ∧ Q (.ref D) H) ∨ (J.go i H ∧ ∃ Nx : Hp → Prop, (∀ H', Nx H' → ∃ m', m' < m ∧ W (i + 1) m' H') ∧ ∀ x H', J.yld i H x H' → g x (wipe σ vs) H' fun σ2 H2 => wipe σ2 vs = wipe σ vs ∧ tt σ2 H2 fun b H3 =>
    if b = true then tk σ2 H3 fun y H4 => tv σ2 H4 fun z H5 => ∃ kvs k, NdAt P w K H5 D kvs ∧ KeyAt K H5 k y ∧ kvs.length < sizeLine ∧ NdTo P w K H5 D (putK kvs k z) Nx else Nx H3)) : tDcN P w K wi g tt tk tv vs σ H Q := h
/-- a dict comprehension over a tuple: σ' the slots, its own names forgotten -/
theorem dcn_tupW {a : Addr} {xs : List V} {H1 : Hp} {D : Addr} {Qd : Hp → Prop} (σ' : L2.St) (hw : wipe σ vs = σ') (Pv : Nat → Hp → Prop) (h0 : Pv 0 (upd H1 D (NdO P w D []))) (hl : ∀ i H, i ≤ xs.length → Pv i H → SqT K H a xs)
    (hs : ∀ i x H, xs[i]? = some x → Pv i H → g x σ' H fun σ2 H2 => wipe σ2 vs = σ' ∧ tt σ2 H2 fun b H3 =>
      if b = true then tk σ2 H3 fun y H4 => tv σ2 H4 fun z H5 => ∃ kvs k, NdAt P w K H5 D kvs ∧ KeyAt K H5 k y ∧ kvs.length < sizeLine ∧ NdTo P w K H5 D (putK kvs k z) (Pv (i + 1)) else Pv (i + 1) H3) (hd : ∀ H, Pv xs.length H → Qd H) :
    ∃ W : Nat → Nat → Hp → Prop, (∃ m, W 0 m (upd H1 D (NdO P w D []))) ∧ ∀ i m H, W i m H →
      ((Itt K a).stop i H ∧ Qd H) ∨ ((Itt K a).go i H ∧ ∃ Nx : Hp → Prop, (∀ H', Nx H' → ∃ m', m' < m ∧ W (i + 1) m' H') ∧ ∀ x H', (Itt K a).yld i H x H' → g x (wipe σ vs) H' fun σ2 H2 => wipe σ2 vs = wipe σ vs ∧ tt σ2 H2 fun b H3 =>
        if b = true then tk σ2 H3 fun y H4 => tv σ2 H4 fun z H5 => ∃ kvs k, NdAt P w K H5 D kvs ∧ KeyAt K H5 k y ∧ kvs.length < sizeLine ∧ NdTo P w K H5 D (putK kvs k z) Nx else Nx H3) := by
  subst hw
  refine ⟨fun i m H => i + m = xs.length ∧ Pv i H, ⟨xs.length, by omega, h0⟩, ?_⟩
  rintro i m H ⟨em, p⟩
  have q := hl i H (by omega) p
  rcases Nat.eq_zero_or_pos m with rfl | hm
  · have e : i = xs.length := by omega
    subst e
    exact .inl ⟨⟨xs, q, Nat.le_refl _⟩, hd H p⟩
  · have hlt : i < xs.length := by omega
    refine .inr ⟨⟨xs, xs[i], q, List.getElem?_eq_getElem hlt⟩, Pv (i + 1), fun H' p' => ⟨m - 1, by omega, by omega, p'⟩, ?_⟩
    rintro x H' ⟨rfl, y⟩
    exact hs i x _ (y xs q) p
theorem rd_gtup {n : Nat} {t : TGs} {v : V} {Q : L2.St → Hp → Prop} (h : ∃ a xs, v = .ref a ∧ SqT K H a xs ∧ xs.length = n ∧ t xs σ H Q) : gTup K n t v σ H Q := h
theorem rd_gcons {t : TG} {u : TGs} {v : V} {r : List V} {Q : L2.St → Hp → Prop} (h : t v σ H fun σ' H' => u r σ' H' Q) : gCons t u (v :: r) σ H Q := ⟨v, r, rfl, h⟩
theorem rd_gnil {Q : L2.St → Hp → Prop} (h : Q σ H) : gNil [] σ H Q := ⟨rfl, h⟩
/-- a term's two things -/
theorem term_at {q : Int × Tab} {v : V} (h : IsK K H (termK q) v) : ∃ a t, v = .ref a ∧ SqT K H a [.int q.1, .ref t] ∧ IsK K H (prodK q.2) (.ref t) := by
  obtain ⟨a, vs, rfl, s, ⟨x, r, rfl, hx, y, r2, rfl, hy, hr⟩⟩ := h
  obtain rfl : x = .int q.1 := hx
  obtain rfl : r2 = [] := hr
  obtain ⟨t, _, rfl, _⟩ := id hy
  exact ⟨a, t, rfl, s, hy⟩
/-- a sum's terms -/
theorem sum_at {S : Sm} {v : V} (h : IsK K H (sumK S) v) : ∃ a vs, v = .ref a ∧ SqT K H a vs ∧ IsKs K H (S.map termK) vs ∧ vs.length = S.length := by
  obtain ⟨a, vs, rfl, s, k⟩ := h
  exact ⟨a, vs, rfl, s, k, by rw [IsKs.length k, List.length_map]⟩
end
/-- what of a sum's terms lies in another one, term by term -/
def ptOf (S : Sm) : Pt := S.map fun q => (q.2, q.1)
def tbt (S R : Sm) : Bool := S.all fun q => decide (q.1 ≤ (tget (ptOf R) q.2).getD 0)
def lies (S R : Sm) : Bool := S.all fun q => R.any fun r => decide (r.2 = q.2) && decide (q.1 ≤ r.1)
theorem ptOf_keys (S : Sm) : (ptOf S).map (·.1) = S.map (·.2) := by simp [ptOf]
theorem tbt_lies {S R : Sm} (nd : (R.map (·.2)).Nodup) (p : ∀ q ∈ S, 1 ≤ q.1) : tbt S R = lies S R := by
  rw [Bool.eq_iff_iff]
  simp only [tbt, lies, List.all_eq_true, List.any_eq_true, Bool.and_eq_true, decide_eq_true_eq]
  have nd' : ((ptOf R).map (·.1)).Nodup := by rw [ptOf_keys]; exact nd
  constructor
  · intro h q hq
    have h1 := h q hq
    have h2 := p q hq
    cases e : tget (ptOf R) q.2 with
    | none => rw [e] at h1; simp at h1; omega
    | some n =>
      rw [e] at h1
      obtain ⟨r, hr, e2⟩ := List.mem_map.mp (tget_mem e)
      injection e2 with e3 e4
      exact ⟨r, hr, e3, by rw [e4]; exact h1⟩
  · intro h q hq
    obtain ⟨r, hr, e1, e2⟩ := h q hq
    have : (q.2, r.1) ∈ ptOf R := by rw [← e1]; exact List.mem_map.mpr ⟨r, hr, rfl⟩
    rw [mem_tget nd' this]
    exact e2
theorem lies_self (S : Sm) : lies S S = true := by
  simp only [lies, List.all_eq_true, List.any_eq_true, Bool.and_eq_true, decide_eq_true_eq]
  exact fun q hq => ⟨q, hq, rfl, Int.le_refl _⟩
/-- a table from the terms so far -/
theorem ptOf_snoc {S : Sm} {q : Int × Tab} (h : q.2 ∉ S.map (·.2)) : tput (ptOf S) q.2 q.1 = ptOf (S ++ [q]) := by
  unfold tput
  rw [ptOf_keys, if_neg h]
  simp [ptOf]
end HH
namespace HH
open PySem PySem.Spec PyProof.Rows L2 PySem.SeqAt
/-! ### error classes with one field, set by their own __init__ -/
/-- what the text has written of such a class at C; its __init__ at fI; the field n -/
structure ErrC (K : PySem.W.Frag) (mg : Str → Option Value) (x n : Str) (C fI : Addr) : Prop where
  ox : OexC K C
  gC : mg x = some (.ref C)
  iC : PySem.W.findIn K (.ref C) "__init__" = some (some (.ref fI))
  tI : PySem.W.typeIn K (.ref fI) = some (.type "function")
  no : PySem.W.findIn K (.ref C) n = some none
  xf : XfC K C
  at_ : PySem.W.findIn K (.ref C) "__class__" = some (some (.builtin "object.__class__"))
  gt : PySem.W.specialIn K (.builtin "object.__class__") "__get__" = some (some (.builtin "getset_descriptor.__get__"))
  tk : PySem.W.takesIn K (.builtin "object.__class__") = some true
  mr : PySem.W.mroIn K C (.type "object") = some true
/-- isinstance(e, c) in an except suite, e the error that it holds -/
def rIsX (K : PySem.W.Frag) (cls : Value) (d : Option Addr) (a : Addr) : List V → Hp → VK → Prop := fun xs H Q => ∃ (mg : Str → Option Value) (x n : Str) (C fI dd : Addr) (fs : List (Str × V)) (c : V) (cv : Value) (b : Bool),
  ErrC K mg x n C fI ∧ cls = .ref C ∧ d = some dd ∧ H dd = some (.xd fs) ∧ xs = [.ref a, c] ∧ (∀ u, RelV c u → u = cv) ∧ PySem.W.kitOne K (.ref C) cv = some b ∧ Q (.bl b) H
theorem call_isX {X : Cx} {a : Addr} {cls : Value} {d : Option Addr} {oe : Obj} {pn : List (Addr × Obj)} (hz : Zc cls d oe) (hf : ∃ vs, oe.data = .fields vs) : CallR (X.suite a ((a, oe) :: pn)) (.builtin "isinstance") (rIsX X.K cls d a) := by
  intro pins s σ H xs us Q I r h
  obtain ⟨mg, x, n, C, fI, dd, fs, c, cv, b, T, rfl, rfl, ed, rfl, hcv, e, q⟩ := h
  cases r with
  | cons rx rr =>
    cases rr with
    | cons rt rr =>
      cases rr
      cases rx
      have ec := hcv _ rt
      subst ec
      obtain ⟨hget, _⟩ := I.pin (a, oe) (List.mem_append_left _ List.mem_cons_self)
      obtain ⟨vs, hv⟩ := hf
      have hx : ObjOk X.prog X.w H s.heap dd (.xd fs) := I.hok dd _ ed
      obtain ⟨mA, hns, _⟩ := hx
      obtain ⟨od, ho, _⟩ := lookIn_ns hns
      have J : PySem.W.InstAt s.heap a oe C (some od) := ⟨hget, hz.1, by unfold PySem.W.notCls; rw [hv] <;> rfl, by rw [hz.2]; exact ho⟩
      have hcl : (PySem.W.clsIn X.K C).isSome = true := by
        obtain ⟨cd, hc, _⟩ := PySem.W.any_some T.xf.hdC
        rw [hc]; rfl
      exact PySem.W.kia_one (PySem.W.kitx_exc hcl T.xf.ga T.xf.gg T.xf.exC T.at_ T.gt T.tk T.mr) I.kIn J e (fun z => nomatch z) fun tk => ⟨.bl b, H, I.kept (t' := tk) fun _ _ z => z, rfl, q⟩
/-- self.n = v, self being made -/
def spInit (n : Str) (C : Addr) : Sp := fun vs H Q _ => ∃ (a : Addr) (v : V), vs = [.ref a, v] ∧ H a = some (exo a C none) ∧
  ∀ dx : Addr, H dx = none → dx ≠ a → Q .non (upd (upd H dx (exd dx [(n, v)])) a (exo a C (some dx)))
/-- a def of the text that may raise -/
def CalleeX (P : Program) (w : World) (K : PySem.W.Frag) (mg : Str → Option Value) (base : Heap) (k : Nat) (x : Str) (ps : List Str) (sp : Sp) : Prop :=
  ∃ f fd, FnOk P w K mg base (L2.CX P w) k f fd ps sp ∧ mg x = some (.ref f) ∧ PySem.W.keepIn K (.ref f) = true ∧ Binds K fd ps []
/-- an error class, its __init__ held to its promise -/
def ErrAt (P : Program) (w : World) (K : PySem.W.Frag) (mg : Str → Option Value) (base : Heap) (x n : Str) (C : Addr) : Prop :=
  ∃ fI fd, ErrC K mg x n C fI ∧ FnOk P w K mg base CX0 1 fI fd ["self", n] (spInit n C) ∧ Binds K fd ["self", n] []
section
variable {P : Program} {w : World} {K : PySem.W.Frag} {σ : L2.St} {H : Hp} {D : Ends} {te : TE} {n : Str} {C : Addr} {v : V}
/-- C(v): the new error's dict holds v -/
theorem rd_mkO {Q : XK} (h : te σ H fun v H1 => ∀ d, H1 d = none → Q (.ref C) (some d) (upd H1 d (.xd [(n, v)])))
    (mono : ∀ R R' : VK, (∀ v H1, R v H1 → R' v H1) → te σ H R → te σ H R') : tMkO C (spInit n C) [] (tCons te tNil) σ H Q := by
  refine mono _ _ (fun v H1 q => ?_) h
  refine ⟨by simp, fun a na => ⟨a, v, rfl, upd_same, fun dx nd ne => ⟨rfl, dx, [(n, v)], upd_same, by rw [upd_ne ne, upd_same], by rw [upd_ne ne] at nd; exact nd, ?_⟩⟩⟩
  have nd' : H1 dx = none := by rw [upd_ne ne] at nd; exact nd
  rw [show upd (del (upd (upd (upd H1 a (exo a C none)) dx (exd dx [(n, v)])) a (exo a C (some dx))) a) dx (.xd [(n, v)]) = upd H1 dx (.xd [(n, v)]) from ?_]
  · exact q dx nd'
  · funext b
    by_cases h1 : b = dx
    · subst h1; rw [upd_same, upd_same]
    · rw [upd_ne h1, upd_ne h1]
      by_cases h2 : b = a
      · subst h2; rw [del_same, na]
      · rw [del_ne h2, upd_ne h2, upd_ne h1, upd_ne h2]
theorem rd_mkOv {Q : XK} {i : Nat} (e : σ[i]? = some (some v)) (h : ∀ d, H d = none → Q (.ref C) (some d) (upd H d (.xd [(n, v)]))) : tMkO C (spInit n C) [] (tCons (tVar i) tNil) σ H Q :=
  rd_mkO (rd_var e h) (fun R R' m ⟨v, e, r⟩ => ⟨v, e, m _ _ r⟩)
theorem rd_callS {sp : Sp} {E : L2.St → XK} {tr : TA} {Q : VK} (h : tr σ H fun vs H1 => sp vs H1 Q (E σ)) : tCallS sp E tr σ H Q := h
theorem rd_xf {a : Addr} {cls : Value} {d : Option Addr} {f : Str} {Q : VK} (h : te σ H fun x H1 => x = .ref a ∧ cls = .ref C ∧ ∃ (dd : Addr) (fs : List (Str × V)) (v : V), d = some dd ∧ H1 dd = some (.xd fs) ∧ fs.lookup f = some v ∧ Q v H1) : tXf a cls d C f te σ H Q := h
/-- self.n = v in __init__ -/
theorem rd_ost {n : Str} {a C : Addr} {v : V} {H : Hp} (T : OexC K C) (hno : PySem.W.findIn K (.ref C) n = some none) (ea : H a = some (exo a C none))
    (h : ∀ dx, H dx = none → dx ≠ a → D.nx [some (.ref a), some v] (upd (upd H dx (exd dx [(n, v)])) a (exo a C (some dx)))) : tOst K n (tVar 0) (tVar 1) D [some (.ref a), some v] H :=
  ⟨v, rfl, .ref a, rfl, a, C, rfl, T, hno, .inl ⟨ea, h⟩⟩
theorem rd_isX {mg : Str → Option Value} {cls : Value} {d : Option Addr} {a : Addr} {x n : Str} {C fI dd : Addr} {fs : List (Str × V)} {Q : VK} {c : V} {cv : Value} {b : Bool} (T : ErrC K mg x n C fI) (ec : cls = .ref C) (ed : d = some dd) (eh : H dd = some (.xd fs))
    (hc : ∀ u, RelV c u → u = cv) (hk : PySem.W.kitOne K (.ref C) cv = some b) (h : Q (.bl b) H) : rIsX K cls d a [.ref a, c] H Q := ⟨mg, x, n, C, fI, dd, fs, c, cv, b, T, ec, ed, eh, rfl, hc, hk, h⟩
end
end HH
namespace HH
open PySem PySem.Spec PyProof.Rows L2 PySem.SeqAt
/-! ### what a product is worth at numbers -/
def worthP (m : Tab) : Tab → Int
  | [] => 1
  | q :: r => (tget m q.1).getD 0 ^ q.2.toNat * worthP m r
def degP : Tab → Nat
  | [] => 0
  | q :: r => q.2.toNat + degP r
def lackOf (m : Tab) (ps : Tab) : Option Str := (ps.map (·.1)).find? fun z => (tget m z).isNone
/-- the numbers of ps are below 2 ^ b -/
structure WB (m ps : Tab) (b : Nat) : Prop where
  nn : ∀ q ∈ ps, 0 ≤ q.2
  lt : ∀ q ∈ ps, ((tget m q.1).getD 0).natAbs < 2 ^ b
  dg : b * degP ps ≤ 200000
  b1 : 1 ≤ b
theorem worthP_app (m a b : Tab) : worthP m (a ++ b) = worthP m a * worthP m b := by
  induction a with
  | nil => simp [worthP]
  | cons q r ih => simp only [List.cons_append, worthP, ih, Int.mul_assoc]
theorem degP_app (a b : Tab) : degP (a ++ b) = degP a + degP b := by
  induction a with
  | nil => simp [degP]
  | cons q r ih => simp only [List.cons_append, degP, ih]; omega
theorem worthP_step (m ps : Tab) {i : Nat} (h : i < ps.length) : worthP m (ps.take (i + 1)) = worthP m (ps.take i) * (tget m ps[i].1).getD 0 ^ ps[i].2.toNat := by
  rw [← List.take_append_getElem h, worthP_app]
  simp [worthP]
theorem degP_step (ps : Tab) {i : Nat} (h : i < ps.length) : degP (ps.take (i + 1)) = degP (ps.take i) + ps[i].2.toNat := by
  rw [← List.take_append_getElem h, degP_app]
  simp [degP]
theorem degP_take (ps : Tab) (i : Nat) : degP (ps.take i) ≤ degP ps := by
  have := degP_app (ps.take i) (ps.drop i)
  rw [List.take_append_drop] at this
  omega
theorem degP_mem {ps : Tab} {q : Str × Int} (h : q ∈ ps) : q.2.toNat ≤ degP ps := by
  induction ps with
  | nil => cases h
  | cons x r ih =>
    rcases List.mem_cons.mp h with e | e
    · rw [e]; exact Nat.le_add_right _ _
    · have := ih e; simp only [degP]; omega
theorem pow_bb {n : Int} {b : Nat} (h : n.natAbs < 2 ^ b) (k : Nat) : (n ^ k).natAbs ≤ 2 ^ (b * k) := by
  rw [Int.natAbs_pow, Nat.pow_mul]
  exact Nat.pow_le_pow_left (Nat.le_of_lt h) k
theorem worthP_le {m ps : Tab} {b : Nat} (h : ∀ q ∈ ps, ((tget m q.1).getD 0).natAbs < 2 ^ b) : (worthP m ps).natAbs ≤ 2 ^ (b * degP ps) := by
  induction ps with
  | nil => simp [worthP, degP]
  | cons q r ih =>
    simp only [worthP, degP, Int.natAbs_mul, Nat.mul_add, Nat.pow_add]
    exact Nat.mul_le_mul (pow_bb (h q (List.mem_cons_self ..)) _) (ih fun x hx => h x (List.mem_cons_of_mem _ hx))
theorem lt_pow1 {n : Int} {k : Nat} (h : n.natAbs ≤ 2 ^ k) : n.natAbs < 2 ^ (k + 1) := Nat.lt_of_le_of_lt h (Nat.pow_lt_pow_right (by decide) (Nat.lt_succ_self _))
theorem lackOf_some {m ps : Tab} {i : Nat} (h : i < ps.length) (h0 : lackOf m (ps.take i) = none) (e : tget m ps[i].1 = none) : lackOf m ps = some ps[i].1 := by
  have e1 : ps.map (·.1) = (ps.take i).map (·.1) ++ (ps[i].1 :: (ps.drop (i + 1)).map (·.1)) := by
    have e0 : ps = ps.take i ++ ps[i] :: ps.drop (i + 1) := by rw [← List.drop_eq_getElem_cons h, List.take_append_drop]
    have e2 := congrArg (List.map (fun q : Str × Int => q.1)) e0
    rwa [List.map_append, List.map_cons] at e2
  unfold lackOf at h0 ⊢
  rw [e1, List.find?_append, h0]
  simp [e]
theorem lackOf_step {m ps : Tab} {i : Nat} (h : i < ps.length) (h0 : lackOf m (ps.take i) = none) {n : Int} (e : tget m ps[i].1 = some n) : lackOf m (ps.take (i + 1)) = none := by
  unfold lackOf at h0 ⊢
  rw [← List.take_append_getElem h, List.map_append, List.find?_append, h0]
  simp [e]
theorem lackOf_has {m ps : Tab} (h : lackOf m ps = none) {q : Str × Int} (hq : q ∈ ps) : ∃ n, tget m q.1 = some n := by
  have := List.find?_eq_none.mp h q.1 (List.mem_map_of_mem hq)
  exact Option.isSome_iff_exists.mp (by rw [Option.isSome_iff_ne_none]; simpa using this)
def worthS (m : Tab) : Sm → Int
  | [] => 0
  | q :: r => q.1 * worthP m q.2 + worthS m r
def lackS (m : Tab) : Sm → Option Str
  | [] => none
  | q :: r => (lackOf m q.2).or (lackS m r)
theorem worthS_app (m : Tab) (a b : Sm) : worthS m (a ++ b) = worthS m a + worthS m b := by
  induction a with
  | nil => simp [worthS]
  | cons q r ih => simp only [List.cons_append, worthS, ih]; omega
theorem worthS_step (m : Tab) (S : Sm) {i : Nat} (h : i < S.length) : worthS m (S.take (i + 1)) = worthS m (S.take i) + S[i].1 * worthP m S[i].2 := by
  rw [← List.take_append_getElem h, worthS_app]
  simp [worthS]
theorem worthS_sum (m : Tab) (S : Sm) : (S.map fun q => q.1 * worthP m q.2).sum = worthS m S := by
  induction S with
  | nil => rfl
  | cons q r ih => simp only [List.map_cons, List.sum_cons, worthS, ih]
theorem lackS_app (m : Tab) (a b : Sm) : lackS m (a ++ b) = (lackS m a).or (lackS m b) := by
  induction a with
  | nil => simp [lackS]
  | cons q r ih => simp only [List.cons_append, lackS, ih, Option.or_assoc]
theorem lackS_step (m : Tab) (S : Sm) {i : Nat} (h : i < S.length) : lackS m (S.take (i + 1)) = (lackS m (S.take i)).or (lackOf m S[i].2) := by
  rw [← List.take_append_getElem h, lackS_app]
  simp [lackS]
theorem lackS_some {m : Tab} {S : Sm} {i : Nat} {z : Str} (h : i < S.length) (h0 : lackS m (S.take i) = none) (e : lackOf m S[i].2 = some z) : lackS m S = some z := by
  conv => lhs; rw [← List.take_append_drop (i + 1) S]
  rw [lackS_app, lackS_step m S h, h0, e]
  rfl
section
variable {P : Program} {w : World} {K : PySem.W.Frag} {H : Hp} {Q : VK}
theorem dgetO {a : Addr} {m : Tab} {z : Str} (ha : H a = some (.dK (tabV m))) : DGet H a (.str z) ((tget m z).map V.int) := by
  have := DGet.k (k := Sum.inr z) ha
  rw [valV_tab] at this
  exact this
theorem rd_inD {z : Str} {d : Addr} {m : Tab} (hd : H d = some (.dK (tabV m))) (h : Q (.bl (tget m z).isSome) H) : rInU P w K false (.str z) (.ref d) H Q :=
  .inr ⟨d, _, rfl, dgetO hd, by simpa using h⟩
theorem rd_ninD {z : Str} {d : Addr} {m : Tab} (hd : H d = some (.dK (tabV m))) (h : Q (.bl (!(tget m z).isSome)) H) : rInU P w K true (.str z) (.ref d) H Q :=
  .inr ⟨d, _, rfl, dgetO hd, by simpa using h⟩
/-- a product's pairs -/
theorem pair_at {q : Str × Int} {v : V} (h : IsK K H (.tup [.text q.1, .num q.2]) v) : ∃ a, v = .ref a ∧ SqT K H a [.str q.1, .int q.2] := by
  obtain ⟨a, vs, rfl, s, ⟨x, r, rfl, hx, y, r2, rfl, hy, hr⟩⟩ := h
  obtain rfl : x = .str q.1 := hx
  obtain rfl : y = .int q.2 := hy
  obtain rfl : r2 = [] := hr
  exact ⟨a, rfl, s⟩
theorem prod_at {ps : Tab} {v : V} (h : IsK K H (prodK ps) v) : ∃ a vs, v = .ref a ∧ SqT K H a vs ∧ IsKs K H (ps.map fun q => .tup [.text q.1, .num q.2]) vs ∧ vs.length = ps.length := by
  obtain ⟨a, vs, rfl, s, k⟩ := h
  exact ⟨a, vs, rfl, s, k, by rw [IsKs.length k, List.length_map]⟩
theorem pair_get {ps : Tab} {vs : List V} {i : Nat} {x : V} (k : IsKs K H (ps.map fun q => .tup [.text q.1, .num q.2]) vs) (hi : i < ps.length) (hx : vs[i]? = some x) : ∃ a, x = .ref a ∧ SqT K H a [.str ps[i].1, .int ps[i].2] := by
  obtain ⟨x', ex, kx⟩ := IsKs.get (i := i) (k := .tup [.text ps[i].1, .num ps[i].2]) k (by rw [List.getElem?_map, List.getElem?_eq_getElem hi]; rfl)
  obtain rfl : x = x' := Option.some.inj (hx.symm.trans ex)
  exact pair_at kx
end
end HH
namespace HH
open PySem PySem.Spec PyProof.Rows L2 PySem.SeqAt
/-! ### a list comprehension whose element may raise -/
section
variable {X : Cx} {W : WX}
/-- an error leaves the block whose names stand at C: it is noted, the names are let go, it goes on in the def's own frame -/
theorem leaves_block {C : Addr} {ce : Env} {u : Value} {s' : Shared} {m0 : Str → Option Value} (hs : X.stack = X.env :: X.outer) (hf : X.env.frame = some X.env.locals) (hA : X.A.frames = some X.stack) (hpn : X.pn = []) (tk : Takes X W)
    (hce : ce.frame = X.env.frame) (hcl : ce.locals = C) (c1 : C ≠ X.env.locals) (c2 : C ∉ frs X.stack) (c3 : C ∈ X.ex ∨ X.s_0.heap.objs.size ≤ C) (c4 : ∀ x c, X.env.cells.lookup x = some c → c ≠ C)
    (hn : s'.heap.Ns C m0) (x : XE X (fun cls d σ H => W cls d σ H ∧ H C = none) u s') :
    notedBy (model X.prog X.w) X.A X.env (fun e s2 => CompFails (model X.prog X.w) X.A X.xe ce e s2) u s' := by
  obtain ⟨a, B, sI, pins, σ, H, cls, d, rfl, I, nb, up, sky, na, os, ag, hW, hC⟩ := x
  have hfr : X.A.frames = some (X.env :: X.outer) := by rw [hA, hs]
  have fin : ∀ g1, HandSPX.HeldZ B (X.env :: X.outer) a (Zc cls d) X.env.locals g1 → s'.heap.UpToSlots g1 → CompFails (model X.prog X.w) X.A X.xe ce (.ref a) { s' with heap := g1 } := fun g1 hh up1 => by
    refine ⟨m0, by rw [hcl]; exact up1.ns hn, fun g2 m2 hn2 sb => ?_⟩
    rw [hcl] at sb hn2
    obtain ⟨B2, b1, b2⟩ := restrict B fun b => decide (b ≠ C)
    have bk : ∀ b o, B2.get? b = some o → b ≠ C ∧ B.get? b = some o := fun b o e => by
      by_cases hb : b = C
      · rw [b2 b (by simp [hb])] at e; cases e
      · exact ⟨hb, (b1 b (by simp [hb])).symm.trans e⟩
    have sb2 : ∀ b, b ≠ C → g2.get? b = g1.get? b := sb.2
    obtain ⟨st, hen, hl, oe, vs, T, oT, ts, he, hz, hd, hv1, hnT, hTe, hT, hdT, h3⟩ := hh
    have hnC : g1.Ns C m0 := up1.ns hn
    obtain ⟨oC, es, ep, eC, dC, _⟩ := id hnC
    have aC : a ≠ C := fun z => by
      rw [z] at he
      have : oC = oe := Option.some.inj (eC.symm.trans he)
      rw [this, hd] at dC; cases dC
    have tC : T ≠ C := fun z => by
      rw [z] at hT
      have : oC = oT := Option.some.inj (eC.symm.trans hT)
      rw [this, hdT] at dC; cases dC
    have gone : ∀ b, B.get? b = none → B2.get? b = none := fun b e => by
      cases q : B2.get? b with
      | none => rfl
      | some o => rw [(bk b o q).2] at e; cases e
    have held : HandSPX.HeldZ B2 (X.env :: X.outer) a (Zc cls d) X.env.locals g2 :=
      ⟨fun b o e => (sb2 b (bk b o e).1).trans (st b o (bk b o e).2), gone a hen, Heap.FunFrames.sameBut sb hn2 (funFrames_none hl fun L hL => gone L (hl.mem hL).1),
        oe, vs, T, oT, ts, (sb2 a aC).trans he, hz, hd, hv1, gone T hnT, hTe, (sb2 T tC).trans hT, hdT, h3⟩
    unfold PySem.passOn
    refine wpAny_bind (wpAny_field ((sb2 a aC).trans he) hd hv1 ?_)
    rw [if_neg (show ¬ ((Value.ref T == Value.none) = true) from by simp), hce, hf]
    have done : ∀ g3, HandSPX.HeldZ B2 (X.env :: X.outer) a (Zc cls d) X.env.locals g3 → g2.UpToSlots g3 → X.xe (.ref a) { s' with heap := g3 } := fun g3 held3 up3 => by
      obtain ⟨G, q1, q2⟩ := restrict sI.heap fun b => decide (b ≠ C)
      have qk : ∀ b o, G.get? b = some o → b ≠ C ∧ sI.heap.get? b = some o := fun b o e => by
        by_cases hb : b = C
        · rw [q2 b (by simp [hb])] at e; cases e
        · exact ⟨hb, (q1 b (by simp [hb])).symm.trans e⟩
      have I2 : Inv X [] σ H { sI with heap := G, toks := sI.toks } :=
        (Inv.unpinned (pins := []) (pl := pins) I).turned (it := C) (fun b o hb e => (q1 b (by simp [hb])).trans e) hC c1 c3 c4 (fun p hp => by rw [hpn] at hp; cases hp)
      have up2 : G.UpToSlots g3 := Heap.UpToSlots.trans (fun b o e hnf => by
        obtain ⟨hb, e1⟩ := qk b o e
        obtain ⟨sl, e2⟩ := (up.trans up1) b o e1 hnf
        exact ⟨sl, (sb2 b hb).trans e2⟩) up3
      refine tk (.ref a) _ ⟨a, B2, _, [], σ, H, cls, d, rfl, I2, fun b o e hb => ?_, up2, by rw [hs]; exact .inr (.inr held3), na, os, ag, hW⟩
      obtain ⟨hbC, e1⟩ := qk b o e
      exact (b1 b (by simp [hbC])).trans (nb b o e1 hb)
    first
      | exact wpAny_bind (wpAny_pure (wpAny_bind (HandSPX.setFlight_onZ held fun g3 h3' u3 => wpAny_throw (done g3 h3' u3))))
      | exact wpAny_bind (HandSPX.setFlight_onZ held fun g3 h3' u3 => wpAny_throw (done g3 h3' u3))
  show wpAny (model X.prog X.w) X.A (noteFrame (.ref a) X.env) (fun _ s2 => CompFails (model X.prog X.w) X.A X.xe ce (.ref a) s2) _ s'
  rw [hs] at sky
  rcases sky with ⟨hB, hne, hl, oe, vs, he, hz, hd, h1⟩ | fl | hh
  · exact HandSPX.look_newZ Zc.steady hfr hl hf he hB hne hd h1 hz fin
  · exact HandSPX.looks_onZ Zc.steady hfr hf fl fin
  · exact HandSPX.againZ hf hh.2.2.2 (fin s'.heap hh (Heap.UpToSlots.refl _))

/-- the block's context, its errors taken by r -/
abbrev blkX (X : Cx) (s : Shared) (H : Hp) (scope : Scope) (ce : Env) (fp : List Addr) (r : Value → Shared → Prop) : Cx := (X.blk s H scope ce fp).tr [] r
theorem toBlkX {s s' : Shared} {H H' : Hp} {scope : Scope} {ce : Env} {fp : List Addr} {r : Value → Shared → Prop} {σ : L2.St} (I : Inv (X.blk s H scope ce fp) [] σ H' s') : Inv (blkX X s H scope ce fp r) [] σ H' s' := I.toTry r
/-- what a call in the block may let out -/
theorem block_passes {E : XK} {pins : List (Addr × Obj)} {σ : L2.St} {H3 : Hp} {s3 : Shared} {scope : Scope} {ce : Env} {fp : List Addr} (hs : X.stack = X.env :: X.outer) (hf : X.env.frame = some X.env.locals) (hpn : X.pn = [])
    (tk : Takes X (fun cls d _ H => E cls d H)) (hce : ce.frame = X.env.frame) (hcl : ce.locals = s3.heap.objs.size) (I3 : Inv X pins σ H3 s3) (f3 : ∀ b ∈ fp, FpOk X pins H3 b) :
    Passes (L2.CX X.prog X.w) (blkX X s3 H3 scope ce fp (notedBy (model X.prog X.w) X.A X.env fun e s2 => CompFails (model X.prog X.w) X.A X.xe ce e s2)) E := by
  intro pins' σ' H' s5 u s' I5 c
  have I7 : Inv X pins σ H' s5 := I3.call' (ch := fp) I5.os I5.base I5.hok I5.bare fun b hb => ⟨(f3 b hb).2.2.2.1, (f3 b hb).2.1, (f3 b hb).2.2.2.2.1, (f3 b hb).2.2.2.2.2⟩
  have nC : H' s3.heap.objs.size = none := by
    have z : H' ce.locals = none := I5.free
    rwa [hcl] at z
  obtain ⟨m, hn, _⟩ := I5.loc
  have hn : s5.heap.Ns s3.heap.objs.size m := by
    have z : s5.heap.Ns ce.locals m := hn
    rwa [hcl] at z
  have fC := I3.fpOk (Nat.le_refl _) nC
  have fs : s3.heap.objs.size ∉ frs X.stack := fun hm => by
    rw [hs] at hm
    have e0 : frs (X.env :: X.outer) = X.env.locals :: X.fs := by
      show (X.env :: X.outer).filterMap (·.frame) = _
      rw [List.filterMap_cons, hf]
      rfl
    rw [e0] at hm
    rcases List.mem_cons.mp hm with z | z
    · exact fC.2.1 z
    · exact fC.2.2.1 z
  obtain ⟨a, B, H2, cls, d, rfl, fl, hok, ub, na, os, ag, hE⟩ := c
  obtain ⟨oC, es, ep, eC, rC⟩ := id hn
  have bC : B.get? s3.heap.objs.size = some oC := ub.keep _ _ eC nC fs
  have hn' : s'.heap.Ns s3.heap.objs.size m := ⟨oC, es, ep, fl.1 _ _ bC, rC⟩
  have x : XE X (fun cls d σ H => (fun cls d _ H => E cls d H : WX) cls d σ H ∧ H s3.heap.objs.size = none) (.ref a) s' :=
    XE.of_call (E := fun cls d H => E cls d H ∧ H s3.heap.objs.size = none) I7 (fun _ _ _ h => h) ⟨a, B, H2, cls, d, rfl, fl, hok, ub, na, os, ag, hE, ub.free _ _ eC nC⟩
  exact leaves_block hs hf I7.ok.frames hpn tk hce hcl fC.2.1 fs fC.2.2.2.1 fC.2.2.2.2.1 hn' x
/-- [elt for tg in iter if ..], elt may let out what E takes -/
theorem pe_lcx {E : XK} {elt tg iter : Expr} {ifs : List Expr} {scope : Scope} {own : List (Str × Nat)} {pos : Pos} {wi : TI} {g : TG} {tt : TT} {te : TE} (hs : X.stack = X.env :: X.outer) (hf : X.env.frame = some X.env.locals) (hpn : X.pn = [])
    (tk : Takes X (fun cls d _ H => E cls d H)) (hc : X.calm = true) (hN : X.N.Nodup) (hi : PI X tg iter wi) (ok : BlkOk X.N X.env.scope scope own)
    (hg : ∀ s H C cl fp r, PG (blkX X s H scope (compEnvC scope cl C X.env) fp r) tg g) (ht : ∀ s H C cl fp r, PTs (blkX X s H scope (compEnvC scope cl C X.env) fp r) ifs tt)
    (he : ∀ s H C cl fp r, Passes (L2.CX X.prog X.w) (blkX X s H scope (compEnvC scope cl C X.env) fp r) E → PE (blkX X s H scope (compEnvC scope cl C X.env) fp r) elt te) (hsf : ∀ x, foldedSetIterable iter X.env x = pure x := by intro _; rfl) :
    PE X (.ListComp elt [⟨tg, iter, ifs, 0⟩] scope pos) (tLc wi g tt te (own.map (·.2))) := by
  refine ⟨fun pins s σ H Q I h => ?_⟩
  rw [eval_ListComp]
  have cells : ∀ y ∈ scope.names, y.2 = .free → ∃ c, X.env.cells.lookup y.1 = some c := fun y hy e => (ok.free y hy e).elim (fun k => I.ok.has _ (.inl k)) fun k => I.ok.has _ (.inr k)
  refine comprehension_at rfl hsf (closure_ok cells) ok.kind (fun y hy e => (ok.uniq y hy).trans (congrArg some e)) (thn (hi.run pins s σ H _ I h) fun v0 sa ha => thn ha fun v1 sb hb => ?_)
  obtain ⟨it, fp, tn, J, Hb, rfl, Ib, T, tb, fb, q⟩ := hb
  refine wpAny_newObj_type (newEnv_comp ?_) (by show 0 ≤ sizeLine; decide)
  have Dn : Hb sb.heap.objs.size = none := Ib.hok.fresh (Nat.le_refl _)
  obtain ⟨Wm, ⟨m0, w0⟩, turn⟩ := q _ Dn
  have old : ∀ b ∈ fp, b < sb.heap.objs.size := fun b hb => let ⟨_, e, _⟩ := T.obj _ _ tb b hb; Heap.lt_size e
  generalize hsc : ({ sb with heap := sb.heap.push { cls := .type "list", data := .seq ([] : List Value).toArray } } : Shared) = sc
  obtain ⟨Hc, hHc⟩ : ∃ Hc : Hp, Hc = upd Hb sb.heap.objs.size (.lst []) := ⟨_, rfl⟩
  have Ic : Inv X pins σ Hc sc := by
    rw [← hsc, hHc]
    exact Ib.laid (t' := sb.toks) (fun b o e => Heap.get?_push_of_some _ e) (Nat.le_refl _) ⟨Nat.zero_le _, [], 0, .nil, Heap.get?_push_size _ rfl⟩
  have szc : sc.heap.objs.size = sb.heap.objs.size + 1 := by rw [← hsc]; exact Heap.size_push ..
  have fc : ∀ b ∈ fp, FpOk X pins Hc b ∧ b < sc.heap.objs.size := fun b hb => by
    have lt := old b hb
    exact ⟨⟨by rw [hHc, upd_ne (Nat.ne_of_lt lt)]; exact (fb b hb).1, (fb b hb).2⟩, by rw [szc]; exact Nat.lt_succ_of_lt lt⟩
  have tc : tn 0 sc.heap := T.keep _ _ _ tb fun b _ o e => by rw [← hsc]; exact Heap.get?_push_of_some _ e
  have bs := block_start Ic ok hN fc
  show codeAny _ _ (.compStart (.ListComp elt [⟨tg, iter, ifs, 0⟩] scope pos) 0 (.ref it) (.ref sb.heap.objs.size)
    (compEnvC scope (cellsFrom (sc.heap.objs.size + 1) scope.names (cloFrom X.env.cells scope.names [])) sc.heap.objs.size X.env)) (compEnds (model X.prog X.w) X.A X.xe none (EP X pins σ Q) (.ref sb.heap.objs.size)
    (compEnvC scope (cellsFrom (sc.heap.objs.size + 1) scope.names (cloFrom X.env.cells scope.names [])) sc.heap.objs.size X.env)) _
  generalize hce : compEnvC scope (cellsFrom (sc.heap.objs.size + 1) scope.names (cloFrom X.env.cells scope.names [])) sc.heap.objs.size X.env = ce at bs ⊢
  have ceL : ce.locals = sc.heap.objs.size := by rw [← hce]; rfl
  have ceF : ce.frame = X.env.frame := by rw [← hce]; rfl
  have hps := block_passes (scope := scope) hs hf hpn tk ceF ceL Ic fun b hb => (fc b hb).1
  have pg := hg sc Hc sc.heap.objs.size (cellsFrom (sc.heap.objs.size + 1) scope.names (cloFrom X.env.cells scope.names [])) fp (notedBy (model X.prog X.w) X.A X.env fun e s2 => CompFails (model X.prog X.w) X.A X.xe ce e s2)
  have pt := ht sc Hc sc.heap.objs.size (cellsFrom (sc.heap.objs.size + 1) scope.names (cloFrom X.env.cells scope.names [])) fp (notedBy (model X.prog X.w) X.A X.env fun e s2 => CompFails (model X.prog X.w) X.A X.xe ce e s2)
  have pe := he sc Hc sc.heap.objs.size (cellsFrom (sc.heap.objs.size + 1) scope.names (cloFrom X.env.cells scope.names [])) fp (notedBy (model X.prog X.w) X.A X.env fun e s2 => CompFails (model X.prog X.w) X.A X.xe ce e s2)
  rw [hce] at pg pt pe
  have pe := pe hps
  generalize hxr : (notedBy (model X.prog X.w) X.A X.env fun e s2 => CompFails (model X.prog X.w) X.A X.xe ce e s2) = r at pg pt pe hps
  have bs := toBlkX (r := r) bs
  generalize hsd : ({ sc with heap := pushCells (sc.heap.push { cls := .type "dict", data := .dict #[] }) scope.names } : Shared) = sd at bs ⊢
  have td : tn 0 sd.heap := T.keep _ _ _ tc fun b _ o e => by rw [← hsd]; exact pushCells_keeps _ _ _ _ (Heap.get?_push_of_some _ e)
  have nfp : ∀ b ∈ fp, Hc b = none := fun b hb => (fc b hb).1.1
  rw [← hHc] at w0
  have same : notedBy (model X.prog X.w) X.A ce (fun e s' => compEnds (model X.prog X.w) X.A X.xe none (EP X pins σ Q) (.ref sb.heap.objs.size) ce (.error e) s') = r := by
    rw [← hxr]
    funext e s'
    show wpAny _ _ (noteFrame e ce) _ _ _ = wpAny _ _ (noteFrame e X.env) _ _ _
    have nf : noteFrame e ce = noteFrame e X.env := by
      unfold noteFrame PySem.frameOf
      rw [ceF]
    rw [nf]
    rfl
  have fpo : ∀ {σ' : L2.St} {H' : Hp} {s' : Shared}, Inv (blkX X sc Hc scope ce fp r) [] σ' H' s' → (∀ b ∈ fp, H' b = none) → ∀ b ∈ fp, FpOk (blkX X sc Hc scope ce fp r) [] H' b := fun {σ' H' s'} J' hz b hb =>
    ⟨hz b hb, (J'.ok.exf b hb).1, J'.ok.exfs b hb, .inl hb, fun x c e => (J'.ok.exf b hb).2 x c e, fun p hp => absurd (show p ∈ ([] : List (Addr × Obj)) ++ [] from hp) (by simp)⟩
  have body : codeAny (model X.prog X.w) X.A (.compLoop (.ListComp elt [⟨tg, iter, ifs, 0⟩] scope pos) 0 (.ref it) (.ref sb.heap.objs.size) ce) (compEnds (model X.prog X.w) X.A X.xe none (EP X pins σ Q) (.ref sb.heap.objs.size) ce) sd := by
    refine compLoop_any (fun n s' => ∃ i H', Inv (blkX X sc Hc scope ce fp r) [] (wipe σ (own.map (·.2))) H' s' ∧ tn i s'.heap ∧ (∀ b ∈ fp, H' b = none) ∧ Wm i n H') ?_ m0 ⟨0, Hc, bs, td, nfp, w0⟩
    rw [same]
    rintro n sx ⟨i, Hx, Ix, tx, nx, wx⟩
    rcases turn i n Hx wx with ⟨stop, fin⟩ | ⟨go, Nx, hNx, step⟩
    · refine thnF (T.done (blkX X sc Hc scope ce fp r) rfl rfl rfl hc i [] sx _ Hx (fun _ _ => False) Ix (fpo Ix nx) tx stop) fun z sy ⟨hz, Iy⟩ => ?_
      subst hz
      have Iz : Inv X pins σ Hx sy := Ic.call' (ch := fp) Iy.os Iy.base Iy.hok Iy.bare fun b hb => ⟨(fc b hb).1.2.2.2.1, (fc b hb).1.2.1, (fc b hb).1.2.2.2.2.1, (fc b hb).1.2.2.2.2.2⟩
      have nC : Hx sc.heap.objs.size = none := by
        have z : Hx ce.locals = none := Iy.free
        rwa [ceL] at z
      obtain ⟨m, hn, _⟩ := Iy.loc
      refine ⟨m, hn, fun g hsb => ?_⟩
      rw [ceL] at hsb
      obtain ⟨f0, f1, f2, f3, f4, f5⟩ := Ic.fpOk (Nat.le_refl _) nC
      exact ⟨.ref sb.heap.objs.size, Hx, Iz.turned (t' := sy.toks) (fun b o hb e => (hsb.2 b hb).trans e) f0 f1 f3 f4 f5, rfl, fin⟩
    · refine thnF (T.item (blkX X sc Hc scope ce fp r) rfl rfl rfl hc i [] sx _ Hx (fun _ _ => False) Ix (fpo Ix nx) tx go) fun z sy ⟨u, hz, hy⟩ => ?_
      subst hz
      refine thnF hy fun _ sz ⟨x, Hz, Iz, rz, yz, tz, nz⟩ => ?_
      have Ip := Iz.pinned (fpo Iz nz) (T.obj _ _ tz)
      refine thn (pg.run _ sz _ Hz x u _ Ip rz (step x Hz yz)) fun _ s8 ⟨σ8, H8, I8, hw8, q8⟩ => ?_
      refine thn (pt.run _ s8 σ8 H8 _ I8 q8) fun b s9 ⟨H9, I9, q9⟩ => ?_
      have again : ∀ {s' : Shared} {H' : Hp}, Inv (blkX X sc Hc scope ce fp r) ([] ++ pinsAt fp sz.heap) σ8 H' s' → Nx H' → ∃ m, m < n ∧ ∃ i H', Inv (blkX X sc Hc scope ce fp r) [] (wipe σ (own.map (·.2))) H' s' ∧ tn i s'.heap ∧ (∀ b ∈ fp, H' b = none) ∧ Wm i m H' := fun {s' H'} J' nx' => by
        obtain ⟨k, hk, w'⟩ := hNx H' nx'
        have kept : ∀ b ∈ fp, ∀ o, sz.heap.get? b = some o → s'.heap.get? b = some o ∧ H' b = none := fun b hb o e =>
          have p := J'.pin (b, o) (List.mem_append_right _ (List.mem_append_right _ (mem_pinsAt hb e)))
          ⟨p.1, p.2.1⟩
        refine ⟨k, hk, i + 1, H', (J'.unpinned (pins := [])).weak (by rw [← hw8, wipe_length]) (fun j v e => ?_), T.keep _ _ _ tz fun b hb o e => (kept b hb o e).1, fun b hb => ?_, w'⟩
        · rw [← hw8] at e
          exact (wipe_some e).1
        · obtain ⟨o, e, _⟩ := T.obj _ _ tz b hb
          exact (kept b hb o e).2
      cases b with
      | false =>
        simp only [Bool.false_eq_true, if_false] at q9 ⊢
        exact again I9 q9
      | true =>
        simp only [if_true] at q9 ⊢
        refine thn (pe.run _ s9 σ8 H9 _ I9 q9) fun y s10 ⟨yv, H10, I10, r10, acc, hD, hz10, nx'⟩ => ?_
        exact app_ok (X := blkX X sc Hc scope ce fp r) I10 hD hz10 r10 fun s11 I11 => again I11 nx'
  exact codeAny_compStart_list body (T.self X.A 0 _ _ _ td body)
end
end HH
namespace HH
open PySem PySem.Spec PyProof.Rows L2 PySem.SeqAt
def kGt (xs ys : List NestedKey) (j : Nat) : Bool := ltK (ys.getD j .none) (xs.getD j .none)
theorem lexAt_gt : ∀ (xs ys : List NestedKey), Ob.lexAt (kEq xs ys) (kGt xs ys) (decide (ys.length < xs.length)) 0 (min xs.length ys.length) = ltL ys xs
  | [], [] => by simp [Ob.lexAt_zero, ltL]
  | [], y :: ys => by simp [Ob.lexAt_zero, ltL]
  | x :: xs, [] => by simp [Ob.lexAt_zero, ltL]
  | x :: xs, y :: ys => by
    have ih := lexAt_gt xs ys
    have em : min (x :: xs).length (y :: ys).length = min xs.length ys.length + 1 := by simp only [List.length_cons]; omega
    rw [em, Ob.lexAt_succ, ltL]
    have e0 : kEq (x :: xs) (y :: ys) 0 = NestedKey.beq x y := rfl
    have r0 : kGt (x :: xs) (y :: ys) 0 = ltK y x := rfl
    rw [e0, r0]
    by_cases e : x = y
    · subst e
      rw [NestedKey.beq_self, if_pos rfl, if_pos rfl]
      have ez : decide ((x :: ys).length < (x :: xs).length) = decide (ys.length < xs.length) := by simp
      rw [ez, ← ih]
      exact lexAt_shift _ 0 (fun j _ => rfl) (fun j _ => rfl)
    · have hb : NestedKey.beq x y = false := by
        cases h : NestedKey.beq x y with
        | false => rfl
        | true => exact absurd (NestedKey.eq_of_beq x y h) e
      rw [hb, if_neg (by simp), if_neg (Ne.symm e)]
/-- u > v of nested data -/
theorem rc_gt : ∀ (n : Nat) (x y : NestedKey) (A : Around) (s : Shared) (u v : Value), x.depth ≤ n → DIs s.heap x u → DIs s.heap y v → cmK x y = true → A.units + x.depth < cLine → Ob.RcOp .Gt A s u v (ltK y x)
  | n, .none, y, A, s, u, v, hn, hx, hy, hc, hu => nomatch hx
  | n, .num a, y, A, s, u, v, hn, hx, hy, hc, hu => by
    cases hy with
    | int b t => cases hx; exact Ob.RcOp.gt_int _ _ _ _
    | text b t => simp [cmK] at hc
    | tup p r => simp [cmK] at hc
  | n, .text a, y, A, s, u, v, hn, hx, hy, hc, hu => by
    cases hy with
    | int b t => simp [cmK] at hc
    | text b t => cases hx; exact fun _ _ _ _ h => PySem.P.gt_str h
    | tup p r => simp [cmK] at hc
  | 0, .tup xs, y, A, s, u, v, hn, hx, hy, hc, hu => by simp [NestedKey.depth] at hn
  | n + 1, .tup xs, y, A, s, u, v, hn, hx, hy, hc, hu => by
    cases hy with
    | int b t => simp [cmK] at hc
    | text b t => simp [cmK] at hc
    | @tup b vs' ys p' r' =>
      cases hx with
      | @tup a vs xs p r =>
        simp only [NestedKey.depth] at hn hu
        simp only [cmK] at hc
        have l1 : vs.size = xs.length := by simpa using r.length
        have l2 : vs'.size = ys.length := by simpa using r'.length
        have hu1 : A.in1.units = A.units + 1 := rfl
        have key := Ob.RcOp.tuples_gt (e := kEq xs ys) (r := kGt xs ys) p p' (A := A) (s := s) (by omega) (fun j h1 h2 => ?_) (fun j h1 h2 _ => ?_)
        · rw [l1, l2, lexAt_gt] at key
          simpa only [ltK] using key
        · have q1 := r.get j (by simpa using h1) (by omega)
          have q2 := r'.get j (by simpa using h2) (by omega)
          have m1 := depth_mem (List.getElem_mem (h := show j < xs.length by omega))
          have := eqAt_key xs[j] ys[j] A.in1 s _ _ (q1.nested _ _) (q2.nested _ _) (by omega)
          simp only [kEq, List.getD_eq_getElem?_getD, List.getElem?_eq_getElem (show j < xs.length by omega), List.getElem?_eq_getElem (show j < ys.length by omega), Option.getD_some]
          simpa using this
        · have q1 := r.get j (by simpa using h1) (by omega)
          have q2 := r'.get j (by simpa using h2) (by omega)
          have m1 := depth_mem (List.getElem_mem (h := show j < xs.length by omega))
          have := rc_gt n xs[j] ys[j] A.in1 s _ _ (by omega) q1 q2 (cmL_get hc j _ _) (by omega)
          simp only [kGt, List.getD_eq_getElem?_getD, List.getElem?_eq_getElem (show j < xs.length by omega), List.getElem?_eq_getElem (show j < ys.length by omega), Option.getD_some]
          simpa using this
section
variable {X : Cx}
def rGtK (K : PySem.W.Frag) : R2 := fun x y H Q => ∃ k l, IsK K H k x ∧ IsK K H l y ∧ cmK k l = true ∧ k.depth ≤ 30 ∧ Q (.bl (ltK l k)) H
theorem op_gtK {K : PySem.W.Frag} (hu : X.A.units + 40 < cLine) (hX : X.K = K := by rfl) : OpR X (compareOp .Gt) (rGtK K) := by
  subst hX
  intro pins s σ H x y v u Q I rx ry q
  obtain ⟨k, l, ik, il, cm, dep, q⟩ := q
  have d1 := IsK.dis I _ _ _ ik rx
  have d2 := IsK.dis I _ _ _ il ry
  exact rc_gt _ k l X.A s v u (Nat.le_refl _) d1 d2 cm (by omega) X.prog X.w _ _ ⟨.bl (ltK l k), H, I, rfl, q⟩
end
/-! ### the names of a product that have no number -/
def lacks (m ps : Tab) : List Str := (ps.map (·.1)).filter fun z => (tget m z).isNone
theorem lackOf_head (m ps : Tab) : lackOf m ps = (lacks m ps).head? := by
  unfold lackOf lacks
  rw [List.head?_filter]
theorem lacks_step (m ps : Tab) {i : Nat} (h : i < ps.length) : lacks m (ps.take (i + 1)) = lacks m (ps.take i) ++ if (tget m ps[i].1).isNone = true then [ps[i].1] else [] := by
  unfold lacks
  rw [← List.take_append_getElem h, List.map_append, List.filter_append]
  cases e : tget m ps[i].1 <;> simp [e]
/-- m2 has the numbers of m, some left out -/
def SubT (m2 m : Tab) : Prop := ∀ z n, tget m2 z = some n → tget m z = some n
theorem SubT.worth {m2 m ps : Tab} (s : SubT m2 m) (h : lackOf m2 ps = none) : worthP m2 ps = worthP m ps := by
  induction ps with
  | nil => rfl
  | cons q r ih =>
    have h1 : tget m2 q.1 ≠ none ∧ lackOf m2 r = none := by
      unfold lackOf at h ⊢
      rw [List.map_cons, List.find?_cons] at h
      cases e : tget m2 q.1 with
      | none => rw [e] at h; simp at h
      | some n => rw [e] at h; exact ⟨by simp, by simpa using h⟩
    obtain ⟨n, e⟩ := Option.ne_none_iff_exists'.mp h1.1
    simp only [worthP, e, s _ _ e, ih h1.2]
theorem SubT.worthS {m2 m : Tab} {S : Sm} (s : SubT m2 m) (h : lackS m2 S = none) : HH.worthS m2 S = HH.worthS m S := by
  induction S with
  | nil => rfl
  | cons q r ih =>
    simp only [lackS, Option.or_eq_none_iff] at h
    simp only [HH.worthS, s.worth h.1, ih h.2]
theorem lackOf_all {m ps : Tab} (h : ∀ q ∈ ps, (tget m q.1).isSome = true) : lackOf m ps = none := by
  unfold lackOf
  rw [List.find?_eq_none]
  intro z hz
  obtain ⟨q, hq, rfl⟩ := List.mem_map.mp hz
  have := h q hq
  cases e : tget m q.1 with
  | none => rw [e] at this; cases this
  | some n => simp
theorem lackS_all {m : Tab} {S : Sm} (h : ∀ q ∈ S, ∀ r ∈ q.2, (tget m r.1).isSome = true) : lackS m S = none := by
  induction S with
  | nil => rfl
  | cons q r ih => simp only [lackS, lackOf_all (h q List.mem_cons_self), ih fun x hx => h x (List.mem_cons_of_mem _ hx)]; rfl
theorem tget_drop (m : Tab) (z x : Str) : tget (tdrop m z) x = if x = z then none else tget m x := by
  unfold tget tdrop
  rw [List.find?_filter]
  by_cases h : x = z
  · subst h
    rw [if_pos rfl, List.find?_eq_none.mpr]
    · rfl
    · intro q _ hq
      simp at hq
  · rw [if_neg h]
    congr 1
    apply congrArg (fun p => m.find? p)
    funext q
    by_cases h2 : q.1 = x
    · have : q.1 ≠ z := fun e => h (h2.symm.trans e)
      simp [h2, h]
    · simp [h2]
section
variable {X : Cx} {K : PySem.W.Frag} {H : Hp} {Q : VK}
theorem hu64_of {A : Around} {k : Nat} (hr : Room k A) : A.units + 64 < cLine := by have := hr.un; omega
theorem op_neP {K : PySem.W.Frag} (hu : X.A.units + 64 < cLine) (hX : X.K = K := by rfl) : OpR X (compareOp .NotEq) (rNeD K) := by
  subst hX
  exact op_neD hu
theorem rd_neI {i : Int} (h : Q (.bl false) H) : rNeD K (.int i) (.int i) H Q :=
  ⟨.int i, .int i, .int i, .int i, rfl, rfl, by rw [show PyData.eqv (.int i) (.int i) = true from PySem.SeqAt.eqv_refl _ rfl]; exact h⟩
theorem rd_neT {a b : Addr} {z : Str} (ha : SqT K H a [.str z]) (hb : SqT K H b [.str z]) (hz : PyData.strOk z = true) (h : Q (.bl false) H) : rNeD K (.ref a) (.ref b) H Q := by
  have c : PyData.canLay0 (.tuple [.str z]) = true := by simp [PyData.canLay0, PyData.canLayAll0, hz]
  have s : PySem.SeqAt.shaped (.tuple [.str z]) = true := by
    unfold PySem.SeqAt.shaped
    rw [c]
    simp [PyData.depth, PyData.depthAll]
  exact ⟨_, _, .tup ha (.cons (.str z) .nil), .tup hb (.cons (.str z) .nil), s, s, by rw [PySem.SeqAt.eqv_refl _ c]; exact h⟩
end
end HH
namespace HH
open PySem PySem.Spec PyProof.Rows L2 PySem.SeqAt
/-! ### tuples whose object is known (no dict of its own): what dict(t) asks -/
def ZObj (o : Obj) : Prop := o.cls = .type "tuple" ∧ o.dict = none ∧ o.slots = #[]
def ZT (H : Hp) (a : Addr) (xs : List V) : Prop := ∃ o : Obj, ZObj o ∧ H a = some (.frz o (.tup xs))
theorem ZT.seq {K : PySem.W.Frag} {H : Hp} {a : Addr} {xs : List V} (z : ZT H a xs) : SqT K H a xs := let ⟨o, _, e⟩ := z; .inl (.inr ⟨o, e⟩)
theorem ZT.keep {H H' : Hp} {a : Addr} {xs : List V} (z : ZT H a xs) (s : Same H H') : ZT H' a xs := let ⟨o, c, e⟩ := z; ⟨o, c, s _ _ e⟩
theorem pair_list {R : Addr → Value → L2.Key × Value → Prop} : ∀ (prs : List (L2.Key × Value)) (ps : List Addr), (∀ (j : Nat) (q : L2.Key × Value), prs[j]? = some q → ∃ (b : Addr) (u : Value), ps[j]? = some b ∧ R b u q) →
    ∃ L : List (Value × Value), L.length = prs.length ∧ ∀ (j : Nat) (p : Value × Value), L[j]? = some p → ∃ (q : L2.Key × Value) (b : Addr), prs[j]? = some q ∧ ps[j]? = some b ∧ p.2 = q.2 ∧ R b p.1 q
  | [], _, _ => ⟨[], rfl, fun j p e => by simp at e⟩
  | q :: prs, ps, h => by
    obtain ⟨b, u, e0, r0⟩ := h 0 q rfl
    cases ps with
    | nil => simp at e0
    | cons b' ps =>
      obtain rfl : b' = b := by simpa using e0
      obtain ⟨L, l, g⟩ := pair_list prs ps fun j q' e => h (j + 1) q' e
      refine ⟨(u, q.2) :: L, by simp [l], fun j p e => ?_⟩
      cases j with
      | zero =>
        obtain rfl : (u, q.2) = p := by simpa using e
        exact ⟨q, b', rfl, rfl, rfl, r0⟩
      | succ j => exact g j p e
section
variable {X : Cx} {es : List Expr} {t : TA} {pos : Pos}
def tTupZ (t : TA) : TE := fun σ H Q => t σ H fun xs H1 => xs.length ≤ sizeLine ∧ ∀ (p : Addr) (o : Obj), H1 p = none → ZObj o → Q (.ref p) (upd H1 p (.frz o (.tup xs)))
theorem frz_new {P : Program} {w : World} {H : Hp} {g : Heap} {xs : List V} {us : List Value} (z : xs.length ≤ sizeLine) (r : Vals xs us) :
    ObjOk P w H (g.push { cls := .type "tuple", data := .seq us.toArray }) g.objs.size (.frz { cls := .type "tuple", data := .seq us.toArray } (.tup xs)) :=
  ⟨Heap.get?_push_size _ rfl, z, us, r, ⟨_, Heap.get?_push_size _ rfl, rfl, _, rfl⟩⟩
theorem pe_tupZ {k} (h : PA X es t) : PE X (.Tuple es k pos) (tTupZ t) := by
  refine ⟨fun pins s σ H Q I hq => ?_⟩
  refine wpAny_Tuple_spliced (thn (h.run pos pins s σ H _ I hq) fun us g ⟨xs, Hn, In, r, z, q⟩ => ⟨by rw [← r.length]; exact z, ?_⟩)
  exact ⟨.ref g.heap.objs.size, _, In.laid (t' := g.toks) (fun b u e => Heap.get?_push_of_some _ e) (Nat.le_refl _) (frz_new z r), rfl, q _ _ (In.hok.fresh (Nat.le_refl _)) ⟨rfl, rfl, rfl⟩⟩
def rTupZ (K : PySem.W.Frag) : List V → Hp → VK → Prop := fun xs H Q => ∃ p ys, xs = [.ref p] ∧ SqL K H p ys ∧ ∀ (l : Addr) (o : Obj), H l = none → ZObj o → Q (.ref l) (upd H l (.frz o (.tup ys)))
theorem call_tupZ {K : PySem.W.Frag} (hX : X.K = K := by rfl) : CallR X (.type "tuple") (rTupZ K) := by
  subst hX
  intro pins s σ H xs us Q I r h
  obtain ⟨p, ys, rfl, hq, q⟩ := h
  obtain rfl := Vals.ref1 r
  obtain ⟨its, rv, pl, hz⟩ := I.list hq
  have n1 := rv.length
  refine call_tuple_list pl.isList (fun g kp => ?_) (by rw [List.size_toArray]; omega)
  have In : Inv X pins σ H { s with heap := g } := I.kept (t' := s.toks) kp
  exact ⟨.ref g.objs.size, _, In.laid (t' := s.toks) (fun b u e => Heap.get?_push_of_some _ e) (Nat.le_refl _) (frz_new hz rv), rfl, q _ _ (In.hok.fresh (Nat.le_refl _)) ⟨rfl, rfl, rfl⟩⟩
/-- dict(t), t such a tuple of pairs -/
def rDictZ (K : PySem.W.Frag) : List V → Hp → VK → Prop := fun xs H Q => ∃ (a : Addr) (ps : List Addr) (kvs : List (L2.Key × V)), xs = [.ref a] ∧ ZT H a (ps.map V.ref) ∧ Paired (fun p kv => SqT K H p [kV kv.1, kv.2]) ps kvs ∧
  ∀ p, H p = none → Q (.ref p) (upd H p (.dK (mergeK [] kvs)))
theorem call_dictZ {K : PySem.W.Frag} (hcalm : X.calm = true) (hX : X.K = K := by rfl) : CallR X (.type "dict") (rDictZ K) := by
  subst hX
  intro pins s σ H xs us Q I r q
  obtain ⟨a, ps, kvs, rfl, ⟨o, ⟨oc, od, _⟩, ea⟩, hp, q⟩ := q
  obtain rfl := Vals.ref1 r
  have ho : ObjOk X.prog X.w H s.heap a (.frz o (.tup (ps.map V.ref))) := I.hok a _ ea
  obtain ⟨ga, hz, its, rv, ⟨o2, g2, _, n, dat⟩⟩ := ho
  obtain rfl : o = o2 := Option.some.inj (ga.symm.trans g2)
  obtain rfl := refs_at rv
  rw [List.length_map] at hz
  obtain ⟨prs, rel, hl, hpr⟩ := pairs_of I hp
  obtain ⟨L, lL, gL⟩ := pair_list prs ps hpr
  have n0 : L.length = ps.length := lL.trans hl
  have items : PairItems s.heap (ps.map Value.ref).toArray (fun j => ps.getD j 0) L := by
    refine ⟨by rw [List.size_toArray, List.length_map, n0], fun j k v e => ?_⟩
    obtain ⟨q0, b, _, eb, e2, tp, _⟩ := gL j (k, v) e
    obtain rfl : v = q0.2 := e2
    have ed : ps.getD j 0 = b := by rw [List.getD_eq_getElem?_getD, eb]; rfl
    refine ⟨by simp [eb, ed], .inl ?_⟩
    show s.heap.IsTuple (ps.getD j 0) _
    rw [ed]
    exact tp
  refine PySem.call_dict_pairs (knd := mixKind X.prog X.w) (kvs := prs) (PairArg.tuple a (ps.map Value.ref).toArray (fun j => ps.getD j 0) L) (I.ok.hd hcalm) ⟨⟨o, n, ga, oc, od, dat⟩, items⟩ ⟨by omega, fun j key v e => ?_⟩ (by omega) fun h' tk hd' k => ?_
  · obtain ⟨q0, b, eq, _, e2, _, ki⟩ := gL j (key, v) e
    obtain rfl : v = q0.2 := e2
    exact ⟨q0.1, eq, ki⟩
  · have hm : (s.heap.objs.size == sysModules) = false := beq_eq_false_iff_ne.mpr (Nat.ne_of_gt I.big)
    have hlen : (mergeK [] kvs).length ≤ sizeLine := by
      have := length_mergeK kvs []
      rw [List.length_nil, Nat.zero_add, rel.length, hl] at this
      omega
    exact ⟨.ref s.heap.objs.size, _, I.laid (t' := tk) (fun b u e => k b u (by simp) e) (Nat.le_refl _) (show ObjOk X.prog X.w _ _ _ (.dK (mergeK [] kvs)) from ⟨hlen, hm, merged [] prs, KV.merge rel .nil, hd'⟩), rfl, q _ (I.hok.fresh (Nat.le_refl _))⟩
end
end HH
namespace HH
open PySem PySem.Spec PyProof.Rows L2 PySem.SeqAt
theorem perm_map_inv {α β : Type} {f : α → β} {l l2 : List β} (p : l.Perm l2) : ∀ {L : List α}, l2 = L.map f → ∃ L' : List α, l = L'.map f ∧ L'.Perm L := by
  induction p with
  | nil => intro L e; exact ⟨[], rfl, by rw [List.map_eq_nil_iff.mp e.symm]⟩
  | cons x p ih =>
    intro L e
    cases L with
    | nil => cases e
    | cons a L =>
      rw [List.map_cons, List.cons.injEq] at e
      obtain ⟨rfl, e⟩ := e
      obtain ⟨L', e1, p1⟩ := ih e
      exact ⟨a :: L', by rw [List.map_cons, e1], p1.cons a⟩
  | swap x y l =>
    intro L e
    cases L with
    | nil => cases e
    | cons a L =>
      cases L with
      | nil => cases e
      | cons b L =>
        rw [List.map_cons, List.map_cons, List.cons.injEq, List.cons.injEq] at e
        obtain ⟨rfl, rfl, rfl⟩ := e
        exact ⟨b :: a :: L, rfl, .swap a b L⟩
  | trans p q ih1 ih2 =>
    intro L e
    obtain ⟨L2, e2, p2⟩ := ih2 e
    obtain ⟨L1, e1, p1⟩ := ih1 e2
    exact ⟨L1, e1, p1.trans p2⟩
theorem ent_at {P : Program} {w : World} : ∀ {m : Tab} {vs : List (L2.Key × Value)} {el : List DictEntry}, KV (tabV m) vs → Pairs (mixKind P w) el vs → ∀ (j : Nat) (en : DictEntry), el[j]? = some en →
    ∃ (q : Str × Int) (t u : Tok), m[j]? = some q ∧ en.key = .str q.1 t ∧ en.val = .int q.2 u
  | [], vs, el, k, p, j, en, e => by
    cases k
    cases p
    simp at e
  | q :: m, vs, el, k, p, j, en, e => by
    cases k with
    | cons h k =>
      cases p with
      | cons h1 h2 p =>
        cases j with
        | succ j => exact ent_at k p j en e
        | zero =>
          obtain rfl := Option.some.inj e
          obtain ⟨e1, e2⟩ := h
          rcases keyIs_shape h1 with ⟨i, t, ei, _⟩ | ⟨x, t, ei, ek⟩
          · rw [← e1] at ei; cases ei
          · rw [← e1] at ei
            obtain rfl : q.1 = x := Sum.inr.inj ei
            rw [← h2] at e2
            obtain ⟨u, eu⟩ : ∃ u, _ = Value.int q.2 u := e2
            exact ⟨q, t, u, rfl, ek, eu⟩
theorem dall_of {h : Heap} : ∀ {ks : List NestedKey} {vs : List Value}, ks.length = vs.length → (∀ (j : Nat) (k : NestedKey) (v : Value), ks[j]? = some k → vs[j]? = some v → DIs h k v) → DAll h ks vs
  | [], [], _, _ => .nil
  | [], _ :: _, e, _ => nomatch e
  | _ :: _, [], e, _ => nomatch e
  | k :: ks, v :: vs, e, g => .cons (g 0 k v rfl rfl) (dall_of (by simpa using e) fun j k' v' e1 e2 => g (j + 1) k' v' e1 e2)
theorem isks_pairs {K : PySem.W.Frag} {H : Hp} : ∀ {zs : List (Addr × Str × Int)}, (∀ z ∈ zs, H z.1 = some (.tup [.str z.2.1, .int z.2.2])) → IsKs K H ((zs.map (·.2)).map fun q => .tup [.text q.1, .num q.2]) (zs.map fun z => V.ref z.1)
  | [], _ => rfl
  | z :: zs, g => ⟨_, _, rfl, ⟨z.1, _, rfl, sqt (g z List.mem_cons_self), ⟨_, _, rfl, rfl, _, _, rfl, rfl, rfl⟩⟩, isks_pairs fun y hy => g y (List.mem_cons_of_mem _ hy)⟩
section
variable {X : Cx}
/-- d.items() of a table -/
def rItemsK : V → List V → Hp → VK → Prop := fun x xs H Q => ∃ (a : Addr) (m : Tab), x = .ref a ∧ xs = [] ∧ H a = some (.dK (tabV m)) ∧ ∀ p, H p = none → Q (.ref p) (upd H p (DX.itemsO p a))
theorem mt_itemsK : MtR X "dict.items" rItemsK := by
  intro pins s σ H x xs v us Q I rx rxs h
  obtain ⟨a, m, rfl, rfl, ha, q⟩ := h
  cases rx
  cases rxs
  obtain ⟨_, hd, vs, _, o, es, ep, ho, hx, hdat, _⟩ := dk_of I.hok ha
  refine DT.callItems (es := es) (ep := ep) hd ⟨o, ho, hx, hdat⟩ ?_
  exact ⟨.ref s.heap.objs.size, _, I.laid (t' := s.toks) (fun b u e => Heap.get?_push_of_some _ e) (Nat.le_refl _) (DX.itemsO_ok (Heap.get?_push_size _ rfl)), rfl, q _ (I.hok.fresh (Nat.le_refl _))⟩
abbrev pairK (q : Str × Int) : NestedKey := .tup [.text q.1, .num q.2]
/-- sorted(d.items()) of a table -/
def rSortItK (K : PySem.W.Frag) : List V → Hp → VK → Prop := fun vs H Q => ∃ (p a : Addr) (m : Tab), vs = [.ref p] ∧ H p = some (DX.itemsO p a) ∧ H a = some (.dK (tabV m)) ∧
  ∀ (qs : Tab) (l : Addr) (zs : List V) (H' : Hp), qs.Perm m → (qs.map pairK).Pairwise (fun a b => ltK b a = false) → Same H H' → H l = none → H' l = some (.lst zs) → IsKs K H' (qs.map pairK) zs → Q (.ref l) H'
theorem cr_sortItK {K : PySem.W.Frag} (hc : X.calm = true) (hu : X.A.units + 20 < cLine) (hX : X.K = K := by rfl) : CallR X (.builtin "sorted") (rSortItK K) := by
  subst hX
  intro pins s σ H xs us Q I r h
  obtain ⟨p, a, m, rfl, hp, ha, q⟩ := h
  obtain rfl := Vals.ref1 r
  have view : s.heap.IsItemsView p a := (show ObjOk X.prog X.w H s.heap p (DX.itemsO p a) from I.hok p _ hp).1
  obtain ⟨z, hd, vs, rel, o, es, ep, ho, hx, hdat, hk, hpair, nd⟩ := dk_of I.hok ha
  have n1 : vs.length = m.length := by rw [← Paired.length rel, tabV_len]
  have n2 : es.size = m.length := by
    have := Pairs.length hpair
    rw [Array.length_toList] at this
    omega
  rw [tabV_len] at z
  refine DT.sortedI (es := es) (ep := ep) (I.ok.hd hc) view ⟨o, ho, hx, hdat⟩ (by omega) fun h' tk as hkp hlt hl hG => ?_
  have lam : as.length = m.length := by omega
  have nda : as.Nodup := List.Pairwise.imp (fun h => Nat.ne_of_lt h) hG.rise
  have pr : ∀ (j : Nat) (b : Addr), as[j]? = some b → ∃ (q : Str × Int) (t u : Tok), m[j]? = some q ∧ h'.get? b = some { cls := .type "tuple", data := .seq #[Value.str q.1 t, Value.int q.2 u] } := by
    intro j b hj
    obtain ⟨en, he, hg⟩ := hG.pairs j b hj
    obtain ⟨q0, t, u, e1, e2, e3⟩ := ent_at rel hpair j en (by rw [Array.getElem?_toList]; exact he)
    exact ⟨q0, t, u, e1, by rw [hg, e2, e3]⟩
  have tup : ∀ (g : Heap) (q0 : Str × Int) (t u : Tok) (b : Addr), g.get? b = some { cls := .type "tuple", data := .seq #[Value.str q0.1 t, Value.int q0.2 u] } → DIs g (pairK q0) (.ref b) := fun g q0 t u b e =>
    .tup ⟨_, e, rfl, _, rfl⟩ (.cons (.text _ _) (.cons (.int _ _) .nil))
  have hob : (h'.push { cls := .type "list", data := .seq (as.map Value.ref).toArray }).get? h'.objs.size = some (seqObj "list" (as.map Value.ref).toArray 0) := Heap.get?_push_size _ rfl
  have old : ∀ b o, h'.get? b = some o → (h'.push { cls := .type "list", data := .seq (as.map Value.ref).toArray }).get? b = some o := fun b o e => Heap.get?_push_of_some _ e
  generalize hg2 : h'.push { cls := .type "list", data := .seq (as.map Value.ref).toArray } = g2 at hob old ⊢
  have da : DAll g2 (m.map pairK) (as.map Value.ref) := dall_of (by rw [List.length_map, List.length_map, lam]) fun j k v e1 e2 => by
    rw [List.getElem?_map] at e1 e2
    cases ea : as[j]? with
    | none => rw [ea] at e2; cases e2
    | some b =>
      rw [ea] at e2
      obtain ⟨q0, t, u, em, eg⟩ := pr j b ea
      rw [em] at e1
      obtain rfl := Option.some.inj e1
      obtain rfl := Option.some.inj e2
      exact tup g2 q0 t u b (old _ _ eg)
  have dep : NestedKey.depthAll (m.map pairK) ≤ 8 := depthAll_le fun k hk' => by
    obtain ⟨x, _, rfl⟩ := List.mem_map.mp hk'
    simp [pairK, NestedKey.depth, NestedKey.depthAll]
  refine wpAny_call_entry PyProof.Rows.slot_list_sort ⟨_, hob, rfl⟩ PyProof.Rows.entry_list_sort
    (list_sort_keys (s := { s with heap := g2, toks := tk }) hob (by rw [List.length_map]; omega) da (fun x hx y hy => ?_) (by show X.A.units + 1 + 1 + _ < _; omega) fun out hs hpm => ⟨.none, rfl, ?_⟩) (PyProof.Rows.args_list_sort _)
  · obtain ⟨x0, _, rfl⟩ := List.mem_map.mp hx
    obtain ⟨y0, _, rfl⟩ := List.mem_map.mp hy
    rfl
  · have ez : as.map Value.ref = (as.zip m).map fun z => Value.ref z.1 := by
      rw [show (fun z : Addr × Str × Int => Value.ref z.1) = Value.ref ∘ Prod.fst from rfl, ← List.map_map, List.map_fst_zip (by omega)]
    obtain ⟨zs, eo, pz⟩ := perm_map_inv hpm ez
    have at_ : ∀ z ∈ zs, z.1 ∈ as ∧ ∃ t u : Tok, h'.get? z.1 = some { cls := .type "tuple", data := .seq #[Value.str z.2.1 t, Value.int z.2.2 u] } := fun z hz => by
      obtain ⟨j, hj⟩ := List.mem_iff_getElem?.mp (pz.mem_iff.mp hz)
      obtain ⟨j1, j2⟩ := List.getElem?_zip_eq_some.mp hj
      obtain ⟨q0, t, u, em, eg⟩ := pr j z.1 j1
      obtain rfl : q0 = z.2 := Option.some.inj (em.symm.trans j2)
      exact ⟨List.mem_of_getElem? j1, t, u, eg⟩
    have I1 : Inv X pins σ H { s with heap := h', toks := tk } := I.kept hkp
    have sold : ∀ b o, h'.get? b = some o → (sortedHeap g2 h'.objs.size (as.map Value.ref) out.toArray).get? b = some o := fun b o e => by
      have lt := Heap.lt_size e
      rw [sortedHeap_old (Nat.ne_of_lt lt) (Heap.lt_size (old b o e))]
      exact old b o e
    obtain ⟨n, hn⟩ := sortedHeap_at (vs := as.map Value.ref) (out := out.toArray) hob
    have lz : zs.length = m.length := by
      have := pz.length_eq
      rw [List.length_zip] at this
      omega
    have rv : Vals (zs.map fun z => V.ref z.1) out := by
      rw [eo]
      exact vals_maps (fun z : Addr × Str × Int => V.ref z.1) (fun z => Value.ref z.1) zs fun _ _ => rfl
    have I2 : Inv X pins σ (upd H h'.objs.size (.lst (zs.map fun z => V.ref z.1))) { s with heap := sortedHeap g2 h'.objs.size (as.map Value.ref) out.toArray, toks := tk } :=
      I1.laid (t' := tk) sold (Nat.le_refl _) ⟨by rw [List.length_map]; omega, out, n, rv, hn⟩
    have hl0 : H h'.objs.size = none := I.hok.fresh (Nat.le_of_lt hlt)
    have nz : (zs.map (·.1)).Nodup := by
      have e := pz.map (·.1)
      rw [List.map_fst_zip (by omega)] at e
      exact e.nodup_iff.mpr nda
    obtain ⟨H3, I3, g3, q3⟩ := DX.takeT (P := fun b vs => ∀ z ∈ zs, z.1 = b → vs = [.str z.2.1, .int z.2.2]) I (zs.map (·.1)) _ I2 nz fun b hb => by
      obtain ⟨z0, hz0, rfl⟩ := List.mem_map.mp hb
      obtain ⟨ma, t, u, eg⟩ := at_ z0 hz0
      have lo := hG.above _ ma
      have hi := hG.there ma
      refine ⟨Nat.le_of_lt lo, by rw [upd_ne (Nat.ne_of_lt hi)]; exact I.hok.fresh (Nat.le_of_lt lo), [.str z0.2.1, .int z0.2.2], fun z hz e => ?_, fun H2 => ?_⟩
      · obtain ⟨_, t', u', eg'⟩ := at_ z hz
        rw [e, eg] at eg'
        have e2 := Option.some.inj eg'
        simp only [Obj.mk.injEq, Data.seq.injEq] at e2
        have e3 := congrArg Array.toList e2.2.2.1.1
        simp only [List.cons.injEq, Value.str.injEq, Value.int.injEq] at e3
        rw [e3.1.1, e3.2.1.1]
      · exact ⟨by show 2 ≤ sizeLine; rw [sizeLine_eq]; decide, [Value.str z0.2.1 t, Value.int z0.2.2 u], .cons ⟨t, rfl⟩ (.cons ⟨u, rfl⟩ .nil), _, sold _ _ eg, rfl, _, rfl⟩
    have same : Same H H3 := fun b o e => g3 b o (by rw [upd_ne (ne_of_none e hl0)]; exact e)
    refine ⟨.ref h'.objs.size, H3, I3, rfl, q (zs.map (·.2)) h'.objs.size (zs.map fun z => V.ref z.1) H3 ?_ ?_ same hl0 (g3 _ _ upd_same) (isks_pairs fun z hz => ?_)⟩
    · have e := pz.map (·.2)
      rwa [List.map_snd_zip (by omega)] at e
    · have ek : (zs.map (·.2)).map pairK = out.map (keyOf g2) := by
        rw [eo, List.map_map, List.map_map]
        refine List.map_congr_left fun z hz => ?_
        obtain ⟨_, t, u, eg⟩ := at_ z hz
        exact (keyOf_eq (tup g2 z.2 t u z.1 (old _ _ eg))).symm
      rw [ek]
      exact List.pairwise_map.mpr hs
    · obtain ⟨vs3, p3, e3⟩ := q3 z.1 (List.mem_map_of_mem hz)
      rw [e3, p3 z hz rfl]
/-- xs.extend(t), t such a tuple -/
def rExtendZ : V → List V → Hp → VK → Prop := fun x vs H Q => ∃ l b xs zs, x = .ref l ∧ vs = [.ref b] ∧ H l = some (.lst xs) ∧ ZT H b zs ∧ xs.length + zs.length ≤ sizeLine ∧ Q .non (upd H l (.lst (xs ++ zs)))
theorem mt_extendZ : MtM X "list.extend" rExtendZ := by
  intro pins s σ H x vs v us Q I rx rv h
  obtain ⟨l, b, xs, zs, rfl, rfl, hH, ⟨o, ⟨oc, od, os⟩, eb⟩, hz, q⟩ := h
  cases rx
  obtain ⟨u, rfl, ru⟩ := rv.one
  cases ru
  obtain ⟨_, its, n, r, hl, e⟩ := I.lstM hH
  have ho : ObjOk X.prog X.w H s.heap b (.frz o (.tup zs)) := I.hok b _ eb
  obtain ⟨ga, z2, its2, r2, ⟨o2, g2, _, n2, dat⟩⟩ := ho
  obtain rfl : o = o2 := Option.some.inj (ga.symm.trans g2)
  have e2 : s.heap.get? b = some { cls := .type "tuple", dict := none, data := .seq its2.toArray n2, slots := #[] } := by
    obtain ⟨c, d, dt, sl⟩ := o
    dsimp only at oc od os dat
    subst oc od os dat
    exact ga
  have h1 := r.length
  have h2 := r2.length
  have hsz : its.toArray.size + its2.toArray.size ≤ sizeLine := by rw [List.size_toArray, List.size_toArray]; omega
  have hlong : ¬ (!its.toArray.isEmpty && Builtin.List.listTooLong (its.toArray.size + its2.toArray.size)) = true := by
    rw [notLongL hsz, Bool.and_false]
    exact Bool.false_ne_true
  refine call_meets F.slot_list_extend ⟨_, e, rfl⟩ F.entry_list_extend (F.args_list_extend_2 _ _)
    (AutoSeq1.list_extend_list_tuple_0 l its.toArray n b its2.toArray n2 hlong (by rw [List.size_toArray]; omega) (by omega)) ⟨e, e2, ?_⟩
  refine ⟨.non, _, I.lset (its' := its ++ its2) hH e (by simp) (r.append r2) ?_, rfl, q⟩
  rw [List.length_append]
  omega
/-- the same values, flat or one object -/
theorem same_val {A : Around} {s : Shared} {v : V} {u u' : Value} (r : RelV v u) (r' : RelV v u') (f : flatB v = true ∨ ∃ a, v = .ref a) : SeqAt.EqAt A s u u' true := by
  rcases f with f | ⟨a, rfl⟩
  · exact eqAt_same r r' f
  · obtain rfl : u = Value.ref a := r
    obtain rfl : u' = Value.ref a := r'
    exact SeqAt.EqAt.same _
theorem same_hits {κ : Type} [DecidableEq κ] {A : Around} {s : Shared} {kvs : List (κ × V)} {vb : List (κ × Value)} (rb : KV kvs vb) : ∀ {ks : List (κ × V)} {va : List (κ × Value)}, KV ks va →
    (∀ p ∈ ks, valV kvs p.1 = some p.2 ∧ (flatB p.2 = true ∨ ∃ a, p.2 = .ref a)) → PySem.W.KeqHits A s vb va true
  | [], _, r, _ => by cases r; exact .nil
  | p :: ks, _, r, g => by
    cases r with
    | @cons _ w0 _ qs x t =>
      obtain ⟨k, v⟩ := w0
      obtain ⟨x1, x2⟩ := x
      obtain ⟨g1, g2⟩ := g p List.mem_cons_self
      obtain ⟨y, hy, ry⟩ := RelO.some_of (v := p.2) (o := valueAt vb p.1) (by rw [← g1]; exact rb.val p.1)
      have x1' : p.1 = k := x1
      rw [x1'] at hy
      show PySem.W.KeqHits A s vb ((k, v) :: qs) (true && true)
      exact .hit hy (same_val x2 ry g2) (same_hits rb t fun p' hm => g p' (List.mem_cons_of_mem _ hm))
/-- == and != of two dicts that hold the same -/
def rSameD (b : Bool) : R2 := fun x y H Q => ∃ a c kvs, x = .ref a ∧ y = .ref c ∧ H a = some (.dK kvs) ∧ H c = some (.dK kvs) ∧ (kvs.map (·.1)).Nodup ∧ (∀ p ∈ kvs, flatB p.2 = true ∨ ∃ a, p.2 = .ref a) ∧ Q (.bl b) H
theorem op_eqS (hu : X.A.units < cLine) : OpR X (compareOp .Eq) (rSameD true) := by
  intro pins s σ H x y v u Q I rx ry h
  obtain ⟨a, c, kvs, rfl, rfl, ea, ec, nd, g, q⟩ := h
  obtain rfl : v = Value.ref a := rx
  obtain rfl : u = Value.ref c := ry
  obtain ⟨_, ya, va, ra, da⟩ := (show ObjOk X.prog X.w H s.heap a (.dK kvs) from I.hok a _ ea)
  obtain ⟨_, yc, vc, rc, dc⟩ := (show ObjOk X.prog X.w H s.heap c (.dK kvs) from I.hok c _ ec)
  have hl : va.length = vc.length := ra.length.symm.trans rc.length
  exact PySem.W.keq_eq (knd := mixKind X.prog X.w) (r := true) ya yc da dc hu (fun _ => same_hits rc ra fun p hp => ⟨val_nodup nd p hp, g p hp⟩) (fin_bl I q (by simp [hl]))
theorem op_neS (hu : X.A.units < cLine) : OpR X (compareOp .NotEq) (rSameD false) := by
  intro pins s σ H x y v u Q I rx ry h
  obtain ⟨a, c, kvs, rfl, rfl, ea, ec, nd, g, q⟩ := h
  obtain rfl : v = Value.ref a := rx
  obtain rfl : u = Value.ref c := ry
  obtain ⟨_, ya, va, ra, da⟩ := (show ObjOk X.prog X.w H s.heap a (.dK kvs) from I.hok a _ ea)
  obtain ⟨_, yc, vc, rc, dc⟩ := (show ObjOk X.prog X.w H s.heap c (.dK kvs) from I.hok c _ ec)
  have hl : va.length = vc.length := ra.length.symm.trans rc.length
  exact PySem.W.keq_ne (knd := mixKind X.prog X.w) (r := true) ya yc da dc hu (fun _ => same_hits rc ra fun p hp => ⟨val_nodup nd p hp, g p hp⟩) (fin_bl I q (by simp [hl]))
end
end HH
namespace HH
open PySem PySem.Spec PyProof.Rows L2 PySem.SeqAt
/-- a locked dict of nested keys -/
def NdF (P : Program) (w : World) (K : PySem.W.Frag) (H : Hp) (d : Addr) (o : Obj) (xs : NX) : Prop :=
  H d = some (.frz o (NdO P w d xs)) ∧ ∀ x ∈ xs, IsK K H x.1 (.ref x.2.1) ∧ x.1.depth ≤ 8
/-- its keys, in their order -/
def Itn (P : Program) (w : World) (d : Addr) (o : Obj) (xs : NX) : It :=
  ⟨fun i H => H d = some (.frz o (NdO P w d xs)) ∧ i < xs.length, fun i H x H' => H' = H ∧ ∃ q, xs[i]? = some q ∧ x = .ref q.2.1, fun i H => H d = some (.frz o (NdO P w d xs)) ∧ xs.length ≤ i⟩
section
variable {X : Cx} {pins : List (Addr × Obj)} {σ : L2.St} {H : Hp} {s : Shared} {d : Addr} {o : Obj} {xs : NX}
theorem frzN (I : Inv X pins σ H s) (h : H d = some (.frz o (NdO X.prog X.w d xs))) :
    (d == sysModules) = false ∧ s.heap.get? d = some o ∧ o.ExactDict ∧ ∃ (es : Array DictEntry) (ep : Nat), o.data = .dict es ep ∧ es.size = xs.length ∧ ∀ (i : Nat) (q : NestedKey × Addr × V), xs[i]? = some q → ∃ en : DictEntry, es[i]? = some en ∧ en.key = .ref q.2.1 := by
  obtain ⟨hd, ⟨z, hs, ys, rel, o', es, ep, ho, hx, hdt, he, _⟩, _⟩ := (show ObjOk X.prog X.w H s.heap d (.frz o (NdO X.prog X.w d xs)) from I.hok d _ h)
  rw [hd] at ho
  cases ho
  refine ⟨hs, hd, hx, es, ep, hdt, ?_, fun i q e => ?_⟩
  · have l1 : es.size = ys.length := size_of_entries he
    have l2 := rel.length
    omega
  · obtain ⟨b, hb, e1, e2, _⟩ := paired_get (show Paired _ xs ys from rel) e
    have q' := entry_at he i
    rw [hb] at q'
    refine ⟨_, q', ?_⟩
    rw [e2]
    rfl
theorem nd_ofF (I : Inv X pins σ H s) (e : H d = some (.frz o (NdO X.prog X.w d xs))) (hk : ∀ x ∈ xs, IsK X.K H x.1 (.ref x.2.1) ∧ x.1.depth ≤ 8) :
    xs.length ≤ sizeLine ∧ (d == sysModules) = false ∧ ∃ ys, NdRel xs ys ∧ s.heap.DictOfH (nestedKind X.prog X.w) d ys := by
  obtain ⟨_, ⟨z, y, ys, r, o, es, ep, h1, h2, h3, h4, h5⟩, _⟩ := (show ObjOk X.prog X.w H s.heap d (.frz o (NdO X.prog X.w d xs)) from I.hok d _ e)
  refine ⟨z, y, ys, r, o, es, ep, h1, h2, h3, h4, fun q hq => ?_, h5⟩
  have all : ∀ {l : NX} {m : List (NestedKey × Addr × Value)}, NdRel l m → (∀ x ∈ l, IsK X.K H x.1 (.ref x.2.1) ∧ x.1.depth ≤ 8) → ∀ q ∈ m, (nestedKind X.prog X.w).is s.heap q.1 q.2.1 := by
    intro l m r
    unfold NdRel at r
    induction r with
    | nil => intro _ q hq; exact nomatch hq
    | @cons p q ps qs h t ih =>
      intro hl x hx
      rcases List.mem_cons.mp hx with e | hx
      · subst e
        obtain ⟨a, b⟩ := hl p List.mem_cons_self
        rw [← h.1, ← h.2.1]
        exact a.key I b
      · exact ih (fun y hy => hl y (List.mem_cons_of_mem _ hy)) x hx
  exact all r hk q hq
end
section
variable {P : Program} {w : World} {K : PySem.W.Frag} {tg : Expr} {d : Addr} {o : Obj} {es : Array DictEntry} {ep : Nat}
theorem turn_nkeys {xs : NX} (it : Addr) (hod : o.data = .dict es ep) : Turn P w K tg (Itn P w d o xs) [it] it (fun i h => h.IsKeyIter it d i xs.length ep) where
  mem := by simp
  obj := fun i h st b hb => by
    have e : b = it := by simpa using hb
    subst e
    obtain ⟨oi, e, c, dd⟩ := st
    exact ⟨oi, e, fun v z => by rw [dd] at z; cases z⟩
  keep := fun i h h' st k => st.at fun oi e => k it (by simp) oi e
  item := by
    intro X hP hw hK hc i pins s σ H E I hf st hg
    subst hP hw hK
    obtain ⟨hd, hi⟩ := hg
    obtain ⟨f0, f1, f2, f3, f4, f5⟩ := hf it (by simp)
    obtain ⟨hs, hgd, hx, es', ep', hdt, hsz, ent⟩ := frzN I hd
    obtain ⟨rfl, rfl⟩ := dict_ep hod hdt
    obtain ⟨q, hq⟩ : ∃ p, xs[i]? = some p := ⟨xs[i], List.getElem?_eq_getElem hi⟩
    obtain ⟨en, hen, hkey⟩ := ent i q hq
    refine next_key_item st hgd hdt hsz hen fun h' st' sb => ?_
    have I1 : Inv X pins σ H { s with heap := h' } := I.turned (t' := s.toks) (fun b ob hb e => (sb.2 b hb).trans e) f0 f1 f3 f4 f5
    obtain ⟨oi, e, c, dd⟩ := id st'
    exact ⟨en.key, rfl, go_of (s := { s with heap := h' }) e c dd (by decide) ⟨.ref q.2.1, H, I1, hkey, ⟨rfl, q, hq, rfl⟩, st', fun b hb => (hf b hb).1⟩⟩
  done := by
    intro X hP hw hK hc i pins s σ H E I hf st hg
    subst hP hw hK
    obtain ⟨hd, hi⟩ := hg
    obtain ⟨f0, f1, f2, f3, f4, f5⟩ := hf it (by simp)
    obtain ⟨hs, hgd, hx, es', ep', hdt, hsz, ent⟩ := frzN I hd
    obtain ⟨rfl, rfl⟩ := dict_ep hod hdt
    exact next_key_end (I.ok.hd hc) st hgd hdt hsz hi fun h' eb => ⟨rfl, I.turned (t' := s.toks) (fun b ob hb e => eb b ob hb e) f0 f1 f3 f4 f5⟩
  self := fun A i s Q E st h => by
    refine wpAny_pyIter_slot st.typeIs F.slot_dict_keyiterator_iter (wpAny_call_entry F.slot_dict_keyiterator_iter st.typeIs F.entry_dict_keyiterator_iter ?_ (F.args_dict_keyiterator_iter_1 _))
    show wpAny _ _ (ret (.ref it)) _ _ s
    exact wpAny_pure ⟨_, rfl, "dict_keyiterator", _, st.typeIs, F.slot_dict_keyiterator_next.lookup, h⟩
end
def iNKeys (P : Program) (w : World) (td : TE) : TI := fun σ H R => td σ H fun x H1 => ∃ d o xs, x = .ref d ∧ H1 d = some (.frz o (NdO P w d xs)) ∧ R (Itn P w d o xs) H1
def tNGetF (P : Program) (w : World) (K : PySem.W.Frag) (td ty : TE) : TE := fun σ H Q => td σ H fun x H1 => ty σ H1 fun y H2 => ∃ d o xs k v, x = .ref d ∧ NdF P w K H2 d o xs ∧ KeyAt K H2 k y ∧ valV (kvX xs) k = some v ∧ Q v H2
section
variable {X : Cx} {tg e i : Expr} {td ty : TE} {pos : Pos}
theorem pi_nkeys {P : Program} {w : World} (he : PE X e td) (hX : X.prog = P ∧ X.w = w := by exact ⟨rfl, rfl⟩) : PI X tg e (iNKeys P w td) := by
  obtain ⟨rfl, rfl⟩ := hX
  refine ⟨fun pins s σ H R I h => ?_⟩
  refine thn (he.run pins s σ H _ I h) fun u s1 ⟨x, H1, I1, rx, d, o, xs, ex, hd, q⟩ => ?_
  subst ex
  obtain rfl : u = Value.ref d := rx
  obtain ⟨hs, hgd, hx, es, ep, hdt, hsz, ent⟩ := frzN I1 hd
  refine iter_keys hs hgd hx hdt (pi_one (tk := s1.toks) I1 _ (turn_nkeys _ hdt) ⟨_, Heap.get?_push_size _ rfl, rfl, ?_⟩ q)
  rw [hsz] <;> rfl
theorem pe_ngetF {P : Program} {w : World} {K : PySem.W.Frag} (hu : X.A.units + 20 < cLine) (ho : PE X e td) (hi : PE X i ty) (hs : NoSl i) (hX : X.prog = P ∧ X.w = w ∧ X.K = K := by exact ⟨rfl, rfl, rfl⟩) : PE X (.Subscript e i pos) (tNGetF P w K td ty) := by
  obtain ⟨rfl, rfl, rfl⟩ := hX
  refine ⟨fun pins s σ H Q I h => ?_⟩
  refine subD_of PySem.F.slot_dict_getitem.lookup hs (thn (ho.run pins s σ H _ I h) fun u s1 ⟨x, H1, I1, rx, q1⟩ => thn (hi.run pins s1 σ H1 _ I1 q1) fun iv s2 ⟨y, H2, I2, ry, d, o, xs, k, v, ex, ⟨hd, hk⟩, ⟨b, eb, ik, dep⟩, l, q2⟩ => ?_)
  subst ex eb
  obtain rfl : u = Value.ref d := rx
  cases (show iv = Value.ref b from ry)
  obtain ⟨_, _, ys, rel, dd⟩ := nd_ofF I2 hd hk
  obtain ⟨w', hw, rw'⟩ := RelO.some_of (v := v) (o := (atKey ys k).map (·.2)) (by rw [← l]; exact rel.val k)
  obtain ⟨p, hp, hp2⟩ := Option.map_eq_some_iff.mp hw
  refine ⟨dd.typeIs, wpAny_getItem_heap (room_nd hu) (ik.key I2 dep) dd hp ?_⟩
  rw [hp2]
  exact ⟨v, H2, I2.tok _, rw', q2⟩
end
theorem walk_nkeys {P : Program} {w : World} {d : Addr} {o : Obj} {xs : NX} : Walk (Itn P w d o xs) xs.length (fun H => H d = some (.frz o (NdO P w d xs))) (fun i H x H' => H' = H ∧ ∃ q, xs[i]? = some q ∧ x = .ref q.2.1) :=
  ⟨fun i H hi h => ⟨h, hi⟩, fun H h => ⟨h, Nat.le_refl _⟩, fun i H x H' hi h y => y⟩
section
variable {P : Program} {w : World} {K : PySem.W.Frag} {σ : L2.St} {H : Hp} {Q : VK} {D : Ends} {te tl tk tv td ty : TE} {ta : TA} {tt : TT} {tb t : TS} {g : TG} {wi : TI} {vs : List Nat}
theorem rd_iN {R : It → Hp → Prop} (h : td σ H fun x H1 => ∃ d o xs, x = .ref d ∧ H1 d = some (.frz o (NdO P w d xs)) ∧ R (Itn P w d o xs) H1) : iNKeys P w td σ H R := h
theorem rd_leafN {d : Addr} {o : Obj} {xs : NX} {R : It → Prop} (hd : H d = some (.frz o (NdO P w d xs))) (h : R (Itn P w d o xs)) : ∃ d' o xs, V.ref d = .ref d' ∧ H d' = some (.frz o (NdO P w d' xs)) ∧ R (Itn P w d' o xs) := ⟨d, o, xs, rfl, hd, h⟩
theorem rd_ngetF (h : td σ H fun x H1 => ty σ H1 fun y H2 => ∃ d o xs k v, x = .ref d ∧ NdF P w K H2 d o xs ∧ KeyAt K H2 k y ∧ valV (kvX xs) k = some v ∧ Q v H2) : tNGetF P w K td ty σ H Q := h
/-- the locked dict d -/
theorem rd_lock {d : Addr} {xs : NX} (hd : H d = some (NdO P w d xs)) (h : ∀ od, t ⟨fun σ' H' => H' d = some (.frz od (NdO P w d xs)) ∧ D.nx σ' (upd H' d (NdO P w d xs)), fun v H' => H' d = some (.frz od (NdO P w d xs)) ∧ D.rt v (upd H' d (NdO P w d xs)), fun σ' H' => H' d = some (.frz od (NdO P w d xs)) ∧ D.bk σ' (upd H' d (NdO P w d xs)), fun σ' H' => H' d = some (.frz od (NdO P w d xs)) ∧ D.ct σ' (upd H' d (NdO P w d xs))⟩ σ (upd H d (.frz od (NdO P w d xs)))) : tLock t D σ H :=
  ⟨d, _, hd, True.intro, h⟩
theorem rd_lockE {d : Addr} {xs : NX} (hd : H d = some (NdO P w d xs)) (h : ∀ od, te σ (upd H d (.frz od (NdO P w d xs))) fun v H' => H' d = some (.frz od (NdO P w d xs)) ∧ Q v (upd H' d (NdO P w d xs))) : tLockE te σ H Q :=
  ⟨d, _, hd, True.intro, h⟩
end
end HH
namespace HH
open PySem PySem.Spec PyProof.Rows L2 PySem.SeqAt
/-- any thing of the kinds that occur: oth is a list or a dict -/
inductive Th where
  | non | bl (b : Bool) | int (i : Int) | str (s : Str) | lst | dic | tup (ts : List Th)
mutual
def IsTh (K : PySem.W.Frag) (p : Addr) (H : Hp) : Th → V → Prop
  | .non, v => v = .non
  | .bl b, v => v = .bl b
  | .int i, v => v = .int i
  | .str s, v => v = .str s
  | .lst, v => ∃ a xs, v = .ref a ∧ a ≠ p ∧ H a = some (.lst xs)
  | .dic, v => ∃ a xs, v = .ref a ∧ a ≠ p ∧ H a = some (.dK xs)
  | .tup ts, v => ∃ a vs, v = .ref a ∧ SqT K H a vs ∧ IsThs K p H ts vs
def IsThs (K : PySem.W.Frag) (p : Addr) (H : Hp) : List Th → List V → Prop
  | [], vs => vs = []
  | t :: ts, vs => ∃ v r, vs = v :: r ∧ IsTh K p H t v ∧ IsThs K p H ts r
end
section
variable {K : PySem.W.Frag} {p : Addr} {H H' : Hp}
mutual
theorem IsTh.keep (t : Tup K H H') (f : Fr p H H') : ∀ (x : Th) (v : V), IsTh K p H x v → IsTh K p H' x v
  | .non, _, h => h
  | .bl b, _, h => h
  | .int i, _, h => h
  | .str s, _, h => h
  | .lst, _, ⟨a, xs, e, n, h⟩ => ⟨a, xs, e, n, f _ _ n h⟩
  | .dic, _, ⟨a, xs, e, n, h⟩ => ⟨a, xs, e, n, f _ _ n h⟩
  | .tup ts, _, ⟨a, vs, e, s, r⟩ => ⟨a, vs, e, t _ _ s, IsThs.keep t f ts vs r⟩
theorem IsThs.keep (t : Tup K H H') (f : Fr p H H') : ∀ (x : List Th) (v : List V), IsThs K p H x v → IsThs K p H' x v
  | [], _, h => h
  | k :: ks, _, ⟨x, r, e, a, b⟩ => ⟨x, r, e, IsTh.keep t f k x a, IsThs.keep t f ks r b⟩
end
theorem IsTh.same {x : Th} {v : V} (h : IsTh K p H x v) (s : Same H H') : IsTh K p H' x v := h.keep (same_tup s) (Fr.of s)
theorem IsThs.same {x : List Th} {v : List V} (h : IsThs K p H x v) (s : Same H H') : IsThs K p H' x v := h.keep (same_tup s) (Fr.of s)
mutual
/-- a list is written anew -/
theorem IsTh.wr {D : Addr} {us vs' : List V} (t : Tup K H (upd H D (.lst vs'))) (hD : H D = some (.lst us)) : ∀ (x : Th) (v : V), IsTh K p H x v → IsTh K p (upd H D (.lst vs')) x v
  | .non, _, h => h
  | .bl b, _, h => h
  | .int i, _, h => h
  | .str s, _, h => h
  | .lst, _, ⟨a, xs, e, n, h⟩ => by
    by_cases ea : a = D
    · exact ⟨a, vs', e, n, by rw [ea]; exact upd_same⟩
    · exact ⟨a, xs, e, n, by rw [upd_ne ea]; exact h⟩
  | .dic, _, ⟨a, xs, e, n, h⟩ => ⟨a, xs, e, n, by rw [upd_ne (fun z => by rw [z, hD] at h; cases h)]; exact h⟩
  | .tup ts, _, ⟨a, vs, e, s, r⟩ => ⟨a, vs, e, t _ _ s, IsThs.wr t hD ts vs r⟩
theorem IsThs.wr {D : Addr} {us vs' : List V} (t : Tup K H (upd H D (.lst vs'))) (hD : H D = some (.lst us)) : ∀ (x : List Th) (v : List V), IsThs K p H x v → IsThs K p (upd H D (.lst vs')) x v
  | [], _, h => h
  | k :: ks, _, ⟨x, r, e, a, b⟩ => ⟨x, r, e, IsTh.wr t hD k x a, IsThs.wr t hD ks r b⟩
end
theorem IsThs.length : ∀ {ks : List Th} {vs : List V}, IsThs K p H ks vs → vs.length = ks.length
  | [], _, h => by rw [show _ = [] from h]; rfl
  | k :: ks, _, ⟨x, r, e, a, b⟩ => by rw [e, List.length_cons, List.length_cons, IsThs.length b]
theorem IsThs.get : ∀ {ks : List Th} {vs : List V} {i : Nat} {k : Th}, IsThs K p H ks vs → ks[i]? = some k → ∃ v, vs[i]? = some v ∧ IsTh K p H k v
  | [], _, i, k, h, e => by simp at e
  | k :: ks, _, 0, k', ⟨x, r, e, a, b⟩, e' => by
    subst e
    obtain rfl : k = k' := by simpa using e'
    exact ⟨x, rfl, a⟩
  | k :: ks, _, i + 1, k', ⟨x, r, e, a, b⟩, e' => by
    subst e
    exact IsThs.get (i := i) b (by simpa using e')
theorem IsThs.app : ∀ {ks ls : List Th} {vs us : List V}, IsThs K p H ks vs → IsThs K p H ls us → IsThs K p H (ks ++ ls) (vs ++ us)
  | [], _, _, _, h, g => by rw [show _ = [] from h]; exact g
  | k :: ks, _, _, _, ⟨x, r, e, a, b⟩, g => ⟨x, r ++ _, by rw [e]; rfl, a, IsThs.app b g⟩
theorem IsThs.take : ∀ {ks : List Th} {vs : List V} (n : Nat), IsThs K p H ks vs → IsThs K p H (ks.take n) (vs.take n)
  | [], vs, n, h => by rw [show vs = [] from h]; simp; rfl
  | k :: ks, _, 0, _ => rfl
  | k :: ks, _, n + 1, ⟨x, r, e, a, b⟩ => by rw [e]; exact ⟨x, _, rfl, a, IsThs.take n b⟩
theorem IsThs.drop : ∀ {ks : List Th} {vs : List V} (n : Nat), IsThs K p H ks vs → IsThs K p H (ks.drop n) (vs.drop n)
  | [], vs, n, h => by rw [show vs = [] from h]; simp; rfl
  | k :: ks, _, 0, h => h
  | k :: ks, _, n + 1, ⟨x, r, e, a, b⟩ => by rw [e]; exact IsThs.drop n b
def Th.ty : Th → String
  | .non => "NoneType" | .bl _ => "bool" | .int _ => "int" | .str _ => "str" | .lst => "list" | .dic => "dict" | .tup _ => "tuple"
theorem sqt_ty {a : Addr} {xs : List V} (h : SqT K H a xs) : TyX K H (.ref a) (.type "tuple") := by
  rcases h with (h | ⟨o, h⟩) | ⟨o, its, n, h, c, _⟩
  · exact .base (.tup h)
  · exact .fTuple h
  · exact .kTuple h c
theorem th_ty : ∀ {x : Th} {v : V}, IsTh K p H x v → TyX K H v (.type x.ty)
  | .non, _, h => by rw [show _ = V.non from h]; exact .base .non
  | .bl b, _, h => by rw [show _ = V.bl b from h]; exact .base (.bl b)
  | .int i, _, h => by rw [show _ = V.int i from h]; exact .base (.int i)
  | .str s, _, h => by rw [show _ = V.str s from h]; exact .base (.str s)
  | .lst, _, ⟨a, xs, e, n, h⟩ => by rw [e]; exact .base (.lst h)
  | .dic, _, ⟨a, xs, e, n, h⟩ => by rw [e]; exact .base (.dK h)
  | .tup ts, _, ⟨a, vs, e, s, r⟩ => by rw [e]; exact sqt_ty s
def Th.isTup : Th → Bool | .tup _ => true | _ => false
def Th.isStr : Th → Bool | .str _ => true | _ => false
def Th.isInt : Th → Bool | .int _ => true | .bl _ => true | _ => false
def Th.isBool : Th → Bool | .bl _ => true | _ => false
variable {Q : VK} {v : V} {x : Th}
theorem rd_thTup (h : IsTh K p H x v) (q : Q (.bl x.isTup) H) : rIsi K [v, .ty "tuple"] H Q := by
  refine rd_isi (th_ty h) ?_ q
  cases x <;> (simp only [Th.ty, Th.isTup]; decide +kernel)
theorem rd_thStr (h : IsTh K p H x v) (q : Q (.bl x.isStr) H) : rIsi K [v, .ty "str"] H Q := by
  refine rd_isi (th_ty h) ?_ q
  cases x <;> (simp only [Th.ty, Th.isStr]; decide +kernel)
theorem rd_thInt (h : IsTh K p H x v) (q : Q (.bl x.isInt) H) : rIsi K [v, .ty "int"] H Q := by
  refine rd_isi (th_ty h) ?_ q
  cases x <;> (simp only [Th.ty, Th.isInt]; decide +kernel)
theorem rd_thBool (h : IsTh K p H x v) (q : Q (.bl x.isBool) H) : rIsi K [v, .ty "bool"] H Q := by
  refine rd_isi (th_ty h) ?_ q
  cases x <;> (simp only [Th.ty, Th.isBool]; decide +kernel)
end
theorem rd_neS {H : Hp} {Q : VK} {z w : Str} (h : Q (.bl (!decide (z = w))) H) : rNe (.str z) (.str w) H Q := ⟨rfl, by
  rw [show decide (V.str z = V.str w) = decide (z = w) from decide_eq_decide.mpr ⟨V.str.inj, fun e => by rw [e]⟩]; exact h⟩
theorem rd_neN {H : Hp} {Q : VK} {i j : Int} (h : Q (.bl (!decide (i = j))) H) : rNe (.int i) (.int j) H Q := ⟨rfl, by
  rw [show decide (V.int i = V.int j) = decide (i = j) from decide_eq_decide.mpr ⟨V.int.inj, fun e => by rw [e]⟩]; exact h⟩
theorem rd_neB {H : Hp} {Q : VK} {i j : Bool} (h : Q (.bl (!decide (i = j))) H) : rNe (.bl i) (.bl j) H Q := ⟨rfl, by
  rw [show decide (V.bl i = V.bl j) = decide (i = j) from decide_eq_decide.mpr ⟨V.bl.inj, fun e => by rw [e]⟩]; exact h⟩
theorem rd_chain {σ : L2.St} {H : Hp} {Q : VK} {r r' : R2} {ta tb tc : TE} (h : ta σ H fun x H1 => tb σ H1 fun y H2 => r x y H2 fun z H3 => ∃ k, z = .bl k ∧ (if k = true then tc σ H3 fun w' H4 => r' y w' H4 Q else Q (.bl false) H3)) : tChain r r' ta tb tc σ H Q := h
/-! ### rows and trees -/
mutual
def Th.dep : Th → Nat
  | .tup ts => 1 + Th.deps ts
  | _ => 0
def Th.deps : List Th → Nat
  | [] => 0
  | t :: ts => max t.dep (Th.deps ts)
end
theorem Th.dep_mem {t : Th} : ∀ {ts : List Th}, t ∈ ts → t.dep ≤ Th.deps ts
  | x :: xs, h => by
    rw [Th.deps]
    rcases List.mem_cons.mp h with r | r
    · rw [r]; omega
    · have := Th.dep_mem r; omega
theorem Th.deps_le {n : Nat} : ∀ {ts : List Th}, (∀ t ∈ ts, t.dep ≤ n) → Th.deps ts ≤ n
  | [], _ => by rw [Th.deps]; omega
  | x :: xs, h => by
    rw [Th.deps]
    have a := h x List.mem_cons_self
    have b := Th.deps_le (ts := xs) fun t ht => h t (List.mem_cons_of_mem _ ht)
    omega
structure FRow where
  add : Bool
  nm : Str
  co : Int
  ps : Tab
def wordK (b : Bool) : Str := if b then "add" else "lift"
def rowK (r : FRow) : NestedKey := .tup [.text (wordK r.add), .text r.nm, .num r.co, prodK r.ps]
def rowsK (R : List FRow) : NestedKey := .tup (R.map rowK)
theorem rows_at {K : PySem.W.Frag} {H : Hp} {R : List FRow} {v : V} (h : IsK K H (rowsK R) v) : ∃ a vs, v = .ref a ∧ SqT K H a vs ∧ IsKs K H (R.map rowK) vs ∧ vs.length = R.length := by
  obtain ⟨a, vs, rfl, s, k⟩ := h
  exact ⟨a, vs, rfl, s, k, by rw [IsKs.length k, List.length_map]⟩
theorem row_at {K : PySem.W.Frag} {H : Hp} {r : FRow} {v : V} (h : IsK K H (rowK r) v) : ∃ a t, v = .ref a ∧ SqT K H a [.str (wordK r.add), .str r.nm, .int r.co, .ref t] ∧ IsK K H (prodK r.ps) (.ref t) := by
  obtain ⟨a, vs, rfl, s, ⟨x1, r1, rfl, h1, x2, r2, rfl, h2, x3, r3, rfl, h3, x4, r4, rfl, h4, hr⟩⟩ := h
  obtain rfl : x1 = .str _ := h1
  obtain rfl : x2 = .str _ := h2
  obtain rfl : x3 = .int _ := h3
  obtain rfl : r4 = [] := hr
  obtain ⟨t, _, rfl, _⟩ := id h4
  exact ⟨a, t, rfl, s, h4⟩
theorem prod_th {K : PySem.W.Frag} {H : Hp} {ps : Tab} {v : V} (h : IsK K H (prodK ps) v) : ∃ a vs, v = .ref a ∧ SqT K H a vs ∧ IsKs K H (ps.map fun q => .tup [.text q.1, .num q.2]) vs ∧ vs.length = ps.length := by
  obtain ⟨a, vs, rfl, s, k⟩ := h
  exact ⟨a, vs, rfl, s, k, by rw [IsKs.length k, List.length_map]⟩
theorem pair_th {K : PySem.W.Frag} {H : Hp} {q : Str × Int} {v : V} (h : IsK K H (.tup [.text q.1, .num q.2]) v) : ∃ a, v = .ref a ∧ SqT K H a [.str q.1, .int q.2] := by
  obtain ⟨a, vs, rfl, s, ⟨x1, r1, rfl, h1, x2, r2, rfl, h2, hr⟩⟩ := h
  obtain rfl : x1 = .str _ := h1
  obtain rfl : x2 = .int _ := h2
  obtain rfl : r2 = [] := hr
  exact ⟨a, rfl, s⟩
def Th.strIs (z : Str) : Th → Bool
  | .str s => decide (s = z)
  | _ => false
/-- what a def asks of things: a tuple of so many, the first this word -/
def Th.made (w : Str) (n : Nat) : Th → Bool
  | .tup ts => decide (ts.length = n) && match ts with | t :: _ => t.strIs w | [] => false
  | _ => false
/-- the number of one of so many -/
def Th.num (n : Nat) : Th → Option Nat
  | .int i => if 0 ≤ i ∧ i < n then some i.toNat else none
  | _ => none
mutual
/-- it is a loop tree for the name -/
def jt (R : List FRow) (x : Str) : Th → Bool
  | .tup [.str s] => decide (s = "begin")
  | .tup [.str s, n, .tup ts] => decide (s = "row") && match Th.num R.length n with
    | some k => match R[k]? with
      | some r => decide (r.nm = x) && (decide (ts.length = r.ps.length) && jts R (r.ps.map (·.1)) ts)
      | none => false
    | none => false
  | _ => false
def jts (R : List FRow) (xs : List Str) : List Th → Bool
  | [] => true
  | t :: ts => match xs with
    | [] => true
    | x :: xs => jt R x t && jts R xs ts
end
end HH
namespace HH
open PySem PySem.Spec PyProof.Rows L2 PySem.SeqAt
/-! ### tables keyed by a name and a product -/
abbrev Ft := List ((Str × Tab) × Int)
def encF (q : Str × Tab) : NestedKey := .tup [.text q.1, prodK q.2]
theorem encF_inj {a b : Str × Tab} (h : encF a = encF b) : a = b := by
  unfold encF at h
  injection h with h
  injection h with h1 h2
  injection h2 with h2 _
  injection h1 with h1
  exact Prod.ext h1 (prodK_inj h2)
theorem depth_encF (q : Str × Tab) : (encF q).depth ≤ 8 := by
  have := prodK_depth q.2
  simp only [encF, NestedKey.depth, NestedKey.depthAll]
  omega
def ftV (m : Ft) : List (NestedKey × V) := encV encF m
theorem ftV_len (m : Ft) : (ftV m).length = m.length := List.length_map _
theorem valV_ft (m : Ft) (z : Str × Tab) : valV (ftV m) (encF z) = (tget m z).map V.int := valV_enc encF (fun _ _ h => encF_inj h) m z
theorem putK_ft (m : Ft) (z : Str × Tab) (n : Int) : putK (ftV m) (encF z) (V.int n) = ftV (tput m z n) := putK_enc encF (fun _ _ h => encF_inj h) m z n
theorem key_ft {K : PySem.W.Frag} {H : Hp} {nm : Str} {ps : Tab} {t u : Addr} (hu : H u = some (.tup [.str nm, .ref t])) (h : IsK K H (prodK ps) (.ref t)) : KeyAt K H (encF (nm, ps)) (.ref u) :=
  ⟨u, rfl, ⟨u, _, rfl, sqt hu, _, _, rfl, rfl, _, _, rfl, h, rfl⟩, depth_encF _⟩
/-- the i-th key -/
theorem nx_at {xs : NX} {m : Ft} (e : kvX xs = ftV m) {i : Nat} {q : NestedKey × Addr × V} (h : xs[i]? = some q) : ∃ z, m[i]? = some z ∧ q.1 = encF z.1 := by
  have h1 : (kvX xs)[i]? = some (q.1, q.2.2) := by unfold kvX; rw [List.getElem?_map, h]; rfl
  rw [e] at h1
  unfold ftV encV at h1
  rw [List.getElem?_map] at h1
  cases hm : m[i]? with
  | none => rw [hm] at h1; cases h1
  | some z =>
    rw [hm] at h1
    have := Option.some.inj h1
    exact ⟨z, rfl, (congrArg Prod.fst this).symm⟩
theorem nx_len {xs : NX} {m : Ft} (e : kvX xs = ftV m) : xs.length = m.length := by
  have := congrArg List.length e
  rw [ftV_len] at this
  rw [← this]; unfold kvX; rw [List.length_map]
theorem encF_at {K : PySem.W.Frag} {H : Hp} {z : Str × Tab} {v : V} (h : IsK K H (encF z) v) : ∃ a t, v = .ref a ∧ SqT K H a [.str z.1, .ref t] ∧ IsK K H (prodK z.2) (.ref t) := by
  obtain ⟨a, vs, rfl, s, ⟨x1, r1, rfl, h1, x2, r2, rfl, h2, hr⟩⟩ := h
  obtain rfl : x1 = .str _ := h1
  obtain rfl : r2 = [] := hr
  obtain ⟨t, _, rfl, _⟩ := id h2
  exact ⟨a, t, rfl, s, h2⟩
/-- the rows of a table -/
def rowsOf (b : Bool) (m : Ft) : List FRow := m.map fun q => ⟨b, q.1.1, (tget m q.1).getD 0, q.1.2⟩
theorem rowsOf_len (b : Bool) (m : Ft) : (rowsOf b m).length = m.length := List.length_map _
theorem cm_row (a b : FRow) : cmK (rowK a) (rowK b) = true := by
  have := cmK_prod a.ps b.ps
  simp only [rowK, cmK, cmL, this, Bool.and_true, Bool.true_and]
theorem depth_row (r : FRow) : (rowK r).depth ≤ 4 := by
  have := prodK_depth r.ps
  simp only [rowK, NestedKey.depth, NestedKey.depthAll]
  omega
theorem rows_back {ks : List NestedKey} {R : List FRow} (p : ks.Perm (R.map rowK)) : ∃ R' : List FRow, ks = R'.map rowK ∧ R'.Perm R := perm_map_inv p rfl
/-! ### what the judges say -/
theorem made_inv {z : Str} {n : Nat} {t : Th} (h : Th.made z n t = true) : ∃ ts, t = .tup (.str z :: ts) ∧ ts.length + 1 = n := by
  cases t with
  | tup ts =>
    simp only [Th.made, Bool.and_eq_true, decide_eq_true_eq] at h
    obtain ⟨h1, h2⟩ := h
    cases ts with
    | nil => simp at h2
    | cons t0 ts =>
      cases t0 with
      | str s0 =>
        obtain rfl : s0 = z := of_decide_eq_true h2
        exact ⟨ts, rfl, h1⟩
      | _ => simp [Th.strIs] at h2
  | _ => simp [Th.made] at h
theorem made_row {t : Th} (h : Th.made "row" 3 t = true) : ∃ n tr, t = .tup [.str "row", n, tr] := by
  obtain ⟨ts, rfl, e⟩ := made_inv h
  match ts, e with
  | [n, tr], _ => exact ⟨n, tr, rfl⟩
theorem jt_begin {R : List FRow} {x : Str} {t : Th} (h : Th.made "begin" 1 t = true) : jt R x t = true := by
  obtain ⟨ts, rfl, e⟩ := made_inv h
  obtain rfl : ts = [] := List.eq_nil_of_length_eq_zero (by omega)
  simp [jt]
theorem jt_row {R : List FRow} {x : Str} {n : Th} {ts : List Th} : jt R x (.tup [.str "row", n, .tup ts]) = match Th.num R.length n with
    | some k => match R[k]? with
      | some r => decide (r.nm = x) && (decide (ts.length = r.ps.length) && jts R (r.ps.map (·.1)) ts)
      | none => false
    | none => false := by
  first
    | (rw [jt, decide_eq_true rfl, Bool.true_and]; done)
    | (rw [jt, decide_eq_true rfl, Bool.true_and]
       generalize Th.num R.length n = o
       cases o with
       | none => rfl
       | some k =>
         dsimp only
         generalize R[k]? = o2
         cases o2 <;> rfl)
/-- what the judge lets -/
theorem jt_inv {R : List FRow} {x : Str} {t : Th} (h : jt R x t = true) : t = .tup [.str "begin"] ∨ ∃ (i : Int) (ts : List Th) (k : Nat) (r : FRow), t = .tup [.str "row", .int i, .tup ts] ∧ Th.num R.length (.int i) = some k ∧ R[k]? = some r ∧ r.nm = x ∧ ts.length = r.ps.length ∧ jts R (r.ps.map (·.1)) ts = true := by
  unfold jt at h
  split at h
  · obtain rfl := of_decide_eq_true h
    exact .inl rfl
  · next s n ts =>
    simp only [Bool.and_eq_true, decide_eq_true_eq] at h
    obtain ⟨rfl, h⟩ := h
    cases n with
    | int i =>
      refine .inr ?_
      cases e : Th.num R.length (.int i) with
      | none => rw [e] at h; cases h
      | some k =>
        rw [e] at h
        cases e2 : R[k]? with
        | none => simp only [e2] at h; cases h
        | some r =>
          simp only [e2, Bool.and_eq_true, decide_eq_true_eq] at h
          exact ⟨i, ts, k, r, rfl, e, e2, h.1, h.2.1, h.2.2⟩
    | _ => simp [Th.num] at h
  · cases h
theorem jts_iff {R : List FRow} : ∀ {xs : List Str} {ts : List Th}, xs.length = ts.length → (jts R xs ts = true ↔ ∀ (i : Nat) (x : Str) (t : Th), xs[i]? = some x → ts[i]? = some t → jt R x t = true)
  | xs, [], e => by simp [jts]
  | [], _ :: _, e => by simp at e
  | x :: xs, t :: ts, e => by
    rw [jts, Bool.and_eq_true, jts_iff (xs := xs) (ts := ts) (by simpa using e)]
    constructor
    · rintro ⟨h1, h2⟩ i x' t' hx ht
      cases i with
      | zero =>
        obtain rfl : x = x' := by simpa using hx
        obtain rfl : t = t' := by simpa using ht
        exact h1
      | succ i => exact h2 i x' t' (by simpa using hx) (by simpa using ht)
    · intro h
      exact ⟨h 0 x t rfl rfl, fun i x' t' hx ht => h (i + 1) x' t' (by simpa using hx) (by simpa using ht)⟩
/-- what is no tuple of just these -/
theorem jt_no {R : List FRow} {x : Str} {t : Th} (h1 : Th.made "begin" 1 t = false) (h2 : Th.made "row" 3 t = false) : jt R x t = false := by
  cases e : jt R x t with
  | false => rfl
  | true =>
    rcases jt_inv e with rfl | ⟨i, ts, k, r, rfl, _⟩
    · simp [Th.made, Th.strIs] at h1
    · simp [Th.made, Th.strIs] at h2
theorem jt_num {R : List FRow} {x : Str} {n tr : Th} (h : (Th.num R.length n).isSome = false) : jt R x (.tup [.str "row", n, tr]) = false := by
  cases e : jt R x (.tup [.str "row", n, tr]) with
  | false => rfl
  | true =>
    rcases jt_inv e with z | ⟨i, ts, k, r, z, e1, _⟩
    · cases z
    · injection z with z
      injection z with _ z
      injection z with z _
      rw [z, e1] at h
      cases h
def Th.items : Th → List Th
  | .tup ts => ts
  | _ => []
theorem num_nat {m k : Nat} (h : k < m) : Th.num m (.int (k : Int)) = some k := by
  simp only [Th.num]
  rw [if_pos ⟨by omega, by omega⟩]
  simp
theorem jt_row2 {R : List FRow} {x : Str} {k : Nat} {tr : Th} (h : k < R.length) : jt R x (.tup [.str "row", .int (k : Int), tr]) = (decide (R[k].nm = x) && (tr.isTup && (decide (tr.items.length = R[k].ps.length) && jts R (R[k].ps.map (·.1)) tr.items))) := by
  cases tr with
  | tup ts =>
    rw [jt_row, num_nat h]
    first
      | (simp only [List.getElem?_eq_getElem h, Th.isTup, Th.items, Bool.true_and]; done)
      | (simp only [List.getElem?_eq_getElem h, Th.isTup, Th.items, Bool.true_and]; rfl)
  | _ =>
    simp only [Th.isTup, Bool.false_and, Bool.and_false]
    refine Bool.eq_false_iff.mpr fun e => ?_
    rcases jt_inv e with z | ⟨i, ts, k, r, z, _⟩
    · cases z
    · injection z with z
      injection z with _ z
      injection z with _ z
      injection z with z _
      cases z
theorem num_inv {m : Nat} {n : Th} (h : (Th.num m n).isSome = true) : ∃ k : Nat, n = .int (k : Int) ∧ k < m ∧ Th.num m n = some k := by
  cases n with
  | int i =>
    simp only [Th.num] at h ⊢
    by_cases c : 0 ≤ i ∧ i < (m : Int)
    · exact ⟨i.toNat, by rw [Int.toNat_of_nonneg c.1], by omega, by rw [if_pos c]⟩
    · rw [if_neg c] at h; cases h
  | _ => simp [Th.num] at h
end HH
namespace HH
open PySem PySem.Spec PyProof.Rows L2 PySem.SeqAt
theorem same_seq {K : PySem.W.Frag} {H H' : Hp} {a : Addr} {xs : List V} (e : Same H H') (h : SqL K H a xs) : SqL K H' a xs := by
  rcases h with (h | ⟨o, h⟩) | h
  · exact .inl (.inl (e _ _ h))
  · exact .inl (.inr ⟨o, e _ _ h⟩)
  · exact .inr h
theorem rd_lenA {P : Program} {w : World} {K : PySem.W.Frag} {H : Hp} {Q : VK} {p : Addr} {xs : List V} (hp : SqL K H p xs ∨ SqT K H p xs) (h : Q (.int xs.length) H) : rLenU P w K [.ref p] H Q := hp.elim (fun z => rd_lenL z h) (fun z => rd_lenT z h)
theorem seqIx_nat {k : Int} {n : Nat} (h0 : 0 ≤ k) (h : k.toNat < n) : seqIndex? k n = some k.toNat := by
  unfold seqIndex?
  simp only [show ¬ k < 0 from by omega, if_false]
  rw [if_pos (by simp; omega)]
theorem map_erase (ls : List Str) (k : Nat) : (ls.map V.str).eraseIdx k = (ls.eraseIdx k).map V.str := by
  induction ls generalizing k with
  | nil => rfl
  | cons a ls ih =>
    cases k with
    | zero => rfl
    | succ k => rw [List.map_cons, List.eraseIdx_cons_succ, List.eraseIdx_cons_succ, List.map_cons, ih]
theorem erase_perm {α : Type} : ∀ {ls : List α} {k : Nat} (h : k < ls.length), ([ls[k]] ++ ls.eraseIdx k).Perm ls
  | _ :: _, 0, _ => List.Perm.refl _
  | a :: ls, k + 1, h => by
    have ih := erase_perm (ls := ls) (k := k) (by simpa using h)
    exact (List.Perm.swap a (ls[k]'(by simpa using h)) _).trans (ih.cons a)
theorem rd_iZ {K : PySem.W.Frag} {σ : L2.St} {H : Hp} {ta : TA} {R : It → Hp → Prop} (h : ta σ H fun vs H1 => ∃ a b xs ys, vs = [.ref a, .ref b] ∧ ((SqL K H1 a xs ∧ SqL K H1 b ys ∧ R (Itz K a b) H1) ∨ (SqT K H1 a xs ∧ SqT K H1 b ys ∧ R (RZ.ItzT K a b) H1))) : RZ.iZipA K ta σ H R := h
section
variable {P : Program} {w : World} {σ : L2.St} {tt : TT} {te : TE} {g : TG} {vs : List Nat}
/-- a comprehension over the keys of a locked dict -/
theorem lc_nkW {d : Addr} {o : Obj} {xs : NX} {H1 : Hp} {D : Addr} {Qd : Hp → Prop} (σ' : L2.St) (hw : wipe σ vs = σ') (Pv : Nat → Hp → Prop) (h0 : Pv 0 (upd H1 D (.lst []))) (hl : ∀ i H, i ≤ xs.length → Pv i H → H d = some (.frz o (NdO P w d xs)))
    (hs : ∀ i (q : NestedKey × Addr × V) H, i < xs.length → xs[i]? = some q → Pv i H → g (.ref q.2.1) σ' H fun σ2 H2 => wipe σ2 vs = σ' ∧ tt σ2 H2 fun b H3 =>
      if b = true then te σ2 H3 fun y H4 => ∃ acc, H4 D = some (.lst acc) ∧ acc.length < sizeLine ∧ Pv (i + 1) (upd H4 D (.lst (acc ++ [y]))) else Pv (i + 1) H3) (hd : ∀ H, Pv xs.length H → Qd H) :
    ∃ W : Nat → Nat → Hp → Prop, (∃ m, W 0 m (upd H1 D (.lst []))) ∧ ∀ i m H, W i m H →
      ((Itn P w d o xs).stop i H ∧ Qd H) ∨ ((Itn P w d o xs).go i H ∧ ∃ Nx : Hp → Prop, (∀ H', Nx H' → ∃ m', m' < m ∧ W (i + 1) m' H') ∧ ∀ x H', (Itn P w d o xs).yld i H x H' → g x (wipe σ vs) H' fun σ2 H2 => wipe σ2 vs = wipe σ vs ∧ tt σ2 H2 fun b H3 =>
        if b = true then te σ2 H3 fun y H4 => ∃ acc, H4 D = some (.lst acc) ∧ acc.length < sizeLine ∧ Nx (upd H4 D (.lst (acc ++ [y]))) else Nx H3) := by
  subst hw
  refine lc_it walk_nkeys Pv h0 hl (fun i x H H' hi p y => ?_) hd
  obtain ⟨rfl, q, hq, rfl⟩ := y
  exact hs i q _ hi hq p
end
section
variable {σ : L2.St} {tt : TT} {te : TE} {g : TG} {vs : List Nat}
theorem lc_rangeW {lo : Int} {n : Nat} {H1 : Hp} {D : Addr} {Qd : Hp → Prop} (σ' : L2.St) (hw : wipe σ vs = σ') (Pv : Nat → Hp → Prop) (h0 : Pv 0 (upd H1 D (.lst [])))
    (hs : ∀ i H, i < n → Pv i H → g (.int (lo + i)) σ' H fun σ2 H2 => wipe σ2 vs = σ' ∧ tt σ2 H2 fun b H3 =>
      if b = true then te σ2 H3 fun y H4 => ∃ acc, H4 D = some (.lst acc) ∧ acc.length < sizeLine ∧ Pv (i + 1) (upd H4 D (.lst (acc ++ [y]))) else Pv (i + 1) H3) (hd : ∀ H, Pv n H → Qd H) :
    ∃ W : Nat → Nat → Hp → Prop, (∃ m, W 0 m (upd H1 D (.lst []))) ∧ ∀ i m H, W i m H →
      ((Itr lo n).stop i H ∧ Qd H) ∨ ((Itr lo n).go i H ∧ ∃ Nx : Hp → Prop, (∀ H', Nx H' → ∃ m', m' < m ∧ W (i + 1) m' H') ∧ ∀ x H', (Itr lo n).yld i H x H' → g x (wipe σ vs) H' fun σ2 H2 => wipe σ2 vs = wipe σ vs ∧ tt σ2 H2 fun b H3 =>
        if b = true then te σ2 H3 fun y H4 => ∃ acc, H4 D = some (.lst acc) ∧ acc.length < sizeLine ∧ Nx (upd H4 D (.lst (acc ++ [y]))) else Nx H3) := by
  subst hw
  exact lc_range Pv h0 hs hd
end
theorem jt_beg {R : List FRow} {x : Str} : jt R x (.tup [.str "begin"]) = true := by simp [jt]
theorem op_catAK {X : Cx} {K : PySem.W.Frag} (hX : X.K = K := by rfl) : OpR X (binaryOp .Add) (rCatA K) := by subst hX; exact op_catA
section
variable {K : PySem.W.Frag} {H : Hp} {Q : VK}
theorem rd_catA {a b : Addr} {xs ys : List V} (ha : SqT K H a xs) (hb : SqT K H b ys) (hz : xs.length + ys.length ≤ 1000000) (h : ∀ (r : Addr) (H' : Hp), SqT K H' r (xs ++ ys) → Same H H' → Q (.ref r) H') : rCatA K (.ref a) (.ref b) H Q := by
  refine ⟨a, b, xs, ys, rfl, rfl, ha, hb, sz_le hz, fun e => h b H (by rw [e]; exact hb) (Same.refl _), fun _ e => h a H (by rw [e, List.append_nil]; exact ha) (Same.refl _), fun _ _ r nr => h r _ (sqt upd_same) (same_new nr)⟩
theorem rd_slTA {a : Addr} {xs : List V} {lo hi : Option Int} (ha : SqT K H a xs) (h : ∀ (r : Addr) (H' : Hp), SqT K H' r (cutV xs lo hi) → Same H H' → Q (.ref r) H') : rSlA K (.ref a) lo hi H Q := by
  refine ⟨a, xs, rfl, ha, fun e => h a H ?_ (Same.refl _), fun _ r nr => h r _ (sqt upd_same) (same_new nr)⟩
  unfold cutV
  rw [e.1, e.2, Nat.sub_zero, List.drop_zero, List.take_length]
  exact ha
end
theorem cut_ths {K : PySem.W.Frag} {p : Addr} {H : Hp} {ts : List Th} {us : List V} (h : IsThs K p H ts us) (lo hi : Option Int) : ∃ ts', IsThs K p H ts' (cutV us lo hi) ∧ ts'.length ≤ ts.length ∧ ∀ t ∈ ts', t ∈ ts := by
  unfold cutV
  exact ⟨_, IsThs.take _ (IsThs.drop _ h), by rw [List.length_take, List.length_drop]; omega, fun t ht => List.mem_of_mem_drop (List.mem_of_mem_take ht)⟩
end HH
namespace HH
open PySem PySem.Spec PyProof.Rows L2 PySem.SeqAt
/-! ### the order of texts, strictly -/
def SLt (a b : Str) : Prop := a.cps.toList < b.cps.toList
theorem SLt.irrefl (a : Str) : ¬ SLt a a := List.lt_irrefl a.cps.toList
theorem SLt.trans {a b c : Str} (h : SLt a b) (g : SLt b c) : SLt a c := List.lt_trans h g
theorem str_eq {a b : Str} (h : a.cps.toList = b.cps.toList) : a = b := by
  cases a; cases b
  simp only [Str.mk.injEq]
  exact Array.toList_inj.mp h
theorem SLt.tri (a b : Str) : SLt a b ∨ a = b ∨ SLt b a := by
  by_cases h : SLt a b
  · exact .inl h
  · by_cases h2 : SLt b a
    · exact .inr (.inr h2)
    · exact .inr (.inl (str_eq (List.le_antisymm (List.not_lt.mp h2) (List.not_lt.mp h))))
theorem strict_of {l : List Str} (h : l.Pairwise fun a b => ¬ SLt b a) (nd : l.Nodup) : l.Pairwise SLt := by
  refine List.Pairwise.imp ?_ (List.Pairwise.and h nd)
  rintro a b ⟨h1, h2⟩
  rcases SLt.tri a b with r | r | r
  · exact r
  · exact absurd r h2
  · exact absurd r h1
theorem rising_pw : ∀ {l : List Str} {p : Str}, risingS p l = true → (p :: l).Pairwise fun a b => ¬ SLt b a
  | [], p, _ => List.pairwise_singleton _ _
  | x :: r, p, h => by
    have h' : (!ltCps x.cps.toList p.cps.toList && risingS x r) = true := h
    rw [Bool.and_eq_true, ltCps_eq] at h'
    have h1 : ¬ SLt x p := by simpa [SLt] using h'.1
    have ih := rising_pw h'.2
    refine List.pairwise_cons.mpr ⟨fun y hy => ?_, ih⟩
    rcases List.mem_cons.mp hy with e | e
    · rw [e]; exact h1
    · have h2 := (List.pairwise_cons.mp ih).1 y e
      intro g
      rcases SLt.tri x p with r | r | r
      · exact h1 r
      · rw [r] at h2; exact h2 g
      · exact h2 (g.trans r)
theorem sorted_pw {l : List Str} (h : sortedS l = true) : l.Pairwise fun a b => ¬ SLt b a := by
  cases l with
  | nil => exact List.Pairwise.nil
  | cons x r => exact rising_pw h
theorem strict_nodup {l : List Str} (h : l.Pairwise SLt) : l.Nodup := h.imp fun r e => by rw [e] at r; exact SLt.irrefl _ r
theorem strict_uniq : ∀ {l m : List Str}, l.Pairwise SLt → m.Pairwise SLt → (∀ z, z ∈ l ↔ z ∈ m) → l = m
  | [], [], _, _, _ => rfl
  | [], b :: m, _, _, h => absurd ((h b).mpr List.mem_cons_self) (by simp)
  | a :: l, [], _, _, h => absurd ((h a).mp List.mem_cons_self) (by simp)
  | a :: l, b :: m, p, q, h => by
    obtain ⟨p1, p2⟩ := List.pairwise_cons.mp p
    obtain ⟨q1, q2⟩ := List.pairwise_cons.mp q
    have e : a = b := by
      rcases List.mem_cons.mp ((h a).mp List.mem_cons_self) with r | r
      · exact r
      · rcases List.mem_cons.mp ((h b).mpr List.mem_cons_self) with s | s
        · exact s.symm
        · exact absurd ((q1 a r).trans (p1 b s)) (SLt.irrefl _)
    subst e
    rw [strict_uniq p2 q2 fun z => ⟨fun hz => ?_, fun hz => ?_⟩]
    · rcases List.mem_cons.mp ((h z).mp (List.mem_cons_of_mem _ hz)) with r | r
      · rw [r] at hz; exact absurd (p1 a hz) (SLt.irrefl _)
      · exact r
    · rcases List.mem_cons.mp ((h z).mpr (List.mem_cons_of_mem _ hz)) with r | r
      · rw [r] at hz; exact absurd (q1 a hz) (SLt.irrefl _)
      · exact r
/-! ### products by the power of each letter -/
structure PT (zs : List Str) (ps : Tab) : Prop where
  st : (ps.map (·.1)).Pairwise SLt
  ge : ∀ q ∈ ps, q.1 ∈ zs ∧ 1 ≤ q.2
theorem PT.nd {zs : List Str} {ps : Tab} (h : PT zs ps) : (ps.map (·.1)).Nodup := strict_nodup h.st
theorem PT.len {zs : List Str} {ps : Tab} (h : PT zs ps) : ps.length ≤ zs.length := by
  have := List.Nodup.length_le_of_subset h.nd (fun y hy => by
    obtain ⟨q, hq, rfl⟩ := List.mem_map.mp hy
    exact (h.ge q hq).1)
  rwa [List.length_map] at this
/-- the power of a letter -/
def sw (ps : Tab) (y : Str) : Int := (ps.map fun q => if q.1 = y then q.2 else 0).sum
theorem sw_nil (y : Str) : sw [] y = 0 := rfl
theorem sw_cons (q : Str × Int) (ps : Tab) (y : Str) : sw (q :: ps) y = (if q.1 = y then q.2 else 0) + sw ps y := by simp [sw]
theorem sw_app (ps qs : Tab) (y : Str) : sw (ps ++ qs) y = sw ps y + sw qs y := by
  induction ps with
  | nil => simp [sw_nil]
  | cons q ps ih => rw [List.cons_append, sw_cons, sw_cons, ih]; omega
theorem sw_perm {ps qs : Tab} (h : ps.Perm qs) (y : Str) : sw ps y = sw qs y := perm_sum (h.map _)
theorem sw_out {ps : Tab} {y : Str} (h : y ∉ ps.map (·.1)) : sw ps y = 0 := by
  induction ps with
  | nil => rfl
  | cons q ps ih =>
    rw [List.map_cons, List.mem_cons, not_or] at h
    rw [sw_cons, if_neg (fun e => h.1 e.symm), ih h.2]; rfl
theorem sw_get {ps : Tab} (nd : (ps.map (·.1)).Nodup) (y : Str) : sw ps y = (tget ps y).getD 0 := by
  induction ps with
  | nil => rfl
  | cons q ps ih =>
    rw [List.map_cons, List.nodup_cons] at nd
    rw [sw_cons]
    by_cases e : q.1 = y
    · rw [if_pos e, tget_cons_pos e, sw_out (by rw [← e]; exact nd.1)]; simp
    · rw [if_neg e, tget_cons_neg e, ih nd.2]; simp
theorem sw_upd {m : Tab} (nd : (m.map (·.1)).Nodup) {z : Str} (h : z ∈ m.map (·.1)) (n : Int) (y : Str) : sw (m.map fun q => if q.1 = z then (q.1, n) else q) y = sw m y + if y = z then n - sw m z else 0 := by
  induction m with
  | nil => simp at h
  | cons q m ih =>
    rw [List.map_cons, List.nodup_cons] at nd
    rw [List.map_cons, sw_cons, sw_cons, sw_cons]
    by_cases e : q.1 = z
    · have hz : z ∉ m.map (·.1) := by rw [← e]; exact nd.1
      have em : (m.map fun q => if q.1 = z then (q.1, n) else q) = m := by
        refine (List.map_congr_left fun p hp => ?_).trans (List.map_id _)
        rw [if_neg]
        · rfl
        · intro e2; exact hz (by rw [← e2]; exact List.mem_map_of_mem hp)
      rw [em, if_pos e]
      have e3 := sw_out hz
      by_cases c : y = z
      · subst c
        simp only [e, if_true, e3]
        omega
      · have c2 : ¬ z = y := fun w => c w.symm
        simp only [e, c, c2, if_false]
        omega
    · have hz : z ∈ m.map (·.1) := by
        rcases List.mem_cons.mp (show z ∈ q.1 :: m.map (·.1) from h) with r | r
        · exact absurd r.symm e
        · exact r
      simp only [e, if_false]
      rw [ih nd.2 hz]
      by_cases c : y = z
      · rw [if_pos c, if_pos c]; omega
      · rw [if_neg c, if_neg c]; omega
/-- a letter's power grows -/
theorem sw_acc {m : Tab} (nd : (m.map (·.1)).Nodup) (z : Str) (n : Int) (y : Str) : sw (tput m z ((tget m z).getD 0 + n)) y = sw m y + if y = z then n else 0 := by
  rw [← sw_get nd z]
  unfold tput
  by_cases h : z ∈ m.map (·.1)
  · rw [if_pos h, sw_upd nd h]
    by_cases c : y = z
    · rw [if_pos c, if_pos c]; omega
    · rw [if_neg c, if_neg c]
  · rw [if_neg h, sw_app, sw_cons, sw_nil, sw_out h]
    by_cases c : y = z
    · rw [if_pos c, if_pos c.symm]; omega
    · rw [if_neg c, if_neg (fun w => c w.symm)]; omega
theorem PT.mem {zs : List Str} {ps : Tab} (h : PT zs ps) (y : Str) : y ∈ ps.map (·.1) ↔ 1 ≤ sw ps y := by
  rw [sw_get h.nd]
  constructor
  · intro hy
    obtain ⟨n, hn⟩ := Option.isSome_iff_exists.mp (tget_some.mpr hy)
    rw [hn]
    exact (h.ge _ (tget_mem hn)).2
  · intro h1
    cases e : tget ps y with
    | none => rw [e] at h1; simp at h1
    | some n => exact tget_some.mp (by rw [e]; rfl)
/-- one product has these powers -/
theorem PT.uniq {zs : List Str} {ps qs : Tab} (h : PT zs ps) (g : PT zs qs) (e : ∀ y, sw ps y = sw qs y) : ps = qs := by
  have k : ps.map (·.1) = qs.map (·.1) := strict_uniq h.st g.st fun y => by rw [h.mem, g.mem, e]
  have self : ∀ {t : Tab}, (t.map (·.1)).Nodup → t = (t.map (·.1)).map fun y => (y, sw t y) := by
    intro t nd
    rw [List.map_map]
    refine ((List.map_congr_left fun q hq => ?_).trans (List.map_id t)).symm
    show (q.1, sw t q.1) = q
    rw [sw_get nd, mem_tget nd (show (q.1, q.2) ∈ t from hq)]
    rfl
  rw [self h.nd, self g.nd, k]
  exact List.map_congr_left fun y _ => by rw [e]
theorem PT.sub {zs ws : List Str} {ps : Tab} (h : PT zs ps) (s : ∀ z ∈ zs, z ∈ ws) : PT ws ps := ⟨h.st, fun q hq => ⟨s _ (h.ge q hq).1, (h.ge q hq).2⟩⟩
theorem sw_nn {zs : List Str} {ps : Tab} (h : ∀ q ∈ ps, q.1 ∈ zs ∧ 1 ≤ q.2) (y : Str) : 0 ≤ sw ps y := by
  induction ps with
  | nil => exact Int.le_refl _
  | cons q ps ih =>
    rw [sw_cons]
    have h1 := (h q List.mem_cons_self).2
    have h2 := ih fun x hx => h x (List.mem_cons_of_mem _ hx)
    split <;> omega
/-- a table of powers while it grows -/
structure MT (zs : List Str) (m : Tab) : Prop where
  nd : (m.map (·.1)).Nodup
  ge : ∀ q ∈ m, q.1 ∈ zs ∧ 1 ≤ q.2
theorem MT.nil {zs : List Str} : MT zs [] := ⟨List.nodup_nil, by simp⟩
theorem PT.mt {zs : List Str} {ps : Tab} (h : PT zs ps) : MT zs ps := ⟨h.nd, h.ge⟩
theorem MT.len {zs : List Str} {m : Tab} (h : MT zs m) : m.length ≤ zs.length := by
  have := List.Nodup.length_le_of_subset h.nd (fun y hy => by
    obtain ⟨q, hq, rfl⟩ := List.mem_map.mp hy
    exact (h.ge q hq).1)
  rwa [List.length_map] at this
theorem MT.acc {zs : List Str} {m : Tab} (h : MT zs m) {z : Str} {n : Int} (hz : z ∈ zs) (hn : 1 ≤ n) : MT zs (tput m z ((tget m z).getD 0 + n)) := by
  refine ⟨tput_nodup h.nd, fun q hq => ?_⟩
  rcases mem_tput hq with r | r
  · exact h.ge q r
  · rw [r]
    refine ⟨hz, ?_⟩
    have : 0 ≤ (tget m z).getD 0 := by rw [← sw_get h.nd]; exact sw_nn h.ge z
    simp only
    omega
/-- the table, sorted by items -/
theorem MT.sorted {zs : List Str} {m qs : Tab} (h : MT zs m) (pm : qs.Perm m) (pw : (qs.map pairK).Pairwise fun a b => ltK b a = false) : PT zs qs := by
  have nd : (qs.map (·.1)).Nodup := (pm.map _).nodup_iff.mpr h.nd
  refine ⟨?_, fun q hq => h.ge q (pm.mem_iff.mp hq)⟩
  have h1 : qs.Pairwise fun a b => ltK (pairK b) (pairK a) = false := List.pairwise_map.mp pw
  have h2 : qs.Pairwise fun a b => a.1 ≠ b.1 := List.pairwise_map.mp nd
  refine List.pairwise_map.mpr (List.Pairwise.imp ?_ (List.Pairwise.and h1 h2))
  rintro a b ⟨g1, g2⟩
  have g3 : ¬ SLt b.1 a.1 := by
    intro z
    simp only [pairK, ltK, ltL] at g1
    rw [if_neg (fun e => g2 (by injection e with e; exact e.symm))] at g1
    exact of_decide_eq_false g1 z
  rcases SLt.tri a.1 b.1 with r | r | r
  · exact r
  · exact absurd r g2
  · exact absurd r g3
/-- the table, its keys sorted -/
theorem MT.keyed {zs : List Str} {m : Tab} (h : MT zs m) {ys : List Str} (pm : ys.Perm (m.map (·.1))) (so : sortedS ys = true) : PT zs (ys.map fun y => (y, (tget m y).getD 0)) ∧ (ys.map fun y => (y, (tget m y).getD 0)).Perm m := by
  have pp := tab_perm h.nd pm
  refine ⟨⟨?_, fun q hq => h.ge q (pp.mem_iff.mp hq)⟩, pp⟩
  rw [List.map_map]
  have e : (ys.map ((fun x => x.1) ∘ fun y => (y, (tget m y).getD 0))) = ys := List.map_id' _
  rw [e]
  exact strict_of (sorted_pw so) (pm.nodup_iff.mpr h.nd)
end HH
namespace HH
open PySem PySem.Spec PyProof.Rows L2 PySem.SeqAt
/-! ### trees' products -/
mutual
def tp (R : List FRow) (x : Str) : Th → Str → Int
  | .tup [.str _, .int i, .tup ts], y => match R[i.toNat]? with
    | some r => tps R r.ps ts y + (if r.add = true ∧ y = "#" then 1 else 0)
    | none => 0
  | _, y => if y = x then 1 else 0
def tps (R : List FRow) (ps : Tab) : List Th → Str → Int
  | [], _ => 0
  | t :: ts, y => match ps with
    | [] => 0
    | q :: ps => q.2 * tp R q.1 t y + tps R ps ts y
end
theorem tp_beg {R : List FRow} {x y : Str} : tp R x (.tup [.str "begin"]) y = if y = x then 1 else 0 := by simp [tp]
theorem tp_row {R : List FRow} {x y : Str} {k : Nat} {r : FRow} {ts : List Th} (h : R[k]? = some r) : tp R x (.tup [.str "row", .int (k : Int), .tup ts]) y = tps R r.ps ts y + (if r.add = true ∧ y = "#" then 1 else 0) := by
  simp only [tp, Int.toNat_natCast, h]
theorem tps_snoc {R : List FRow} {y : Str} {q : Str × Int} {t : Th} : ∀ {ps : Tab} {ts : List Th}, ps.length = ts.length → tps R (ps ++ [q]) (ts ++ [t]) y = tps R ps ts y + q.2 * tp R q.1 t y
  | [], [], _ => by simp [tps]
  | [], _ :: _, e => by simp at e
  | _ :: _, [], e => by simp at e
  | p :: ps, s :: ts, e => by
    have ih := tps_snoc (R := R) (y := y) (q := q) (t := t) (ps := ps) (ts := ts) (by simpa using e)
    simp only [List.cons_append, tps, ih]
    omega
theorem tps_take {R : List FRow} {y : Str} {ps : Tab} {ts : List Th} {i : Nat} (e : ps.length = ts.length) (h : i < ps.length) (h2 : i < ts.length) : tps R (ps.take (i + 1)) (ts.take (i + 1)) y = tps R (ps.take i) (ts.take i) y + ps[i].2 * tp R ps[i].1 ts[i] y := by
  rw [List.take_add_one, List.take_add_one, List.getElem?_eq_getElem h, List.getElem?_eq_getElem h2]
  exact tps_snoc (by rw [List.length_take, List.length_take]; omega)
/-- the sum over the names so far -/
def gsum (P : Tab) (g : Nat → Str → Int) : Nat → Str → Int
  | 0, _ => 0
  | n + 1, y => gsum P g n y + ((P[n]?).map (·.2)).getD 0 * g n y
theorem gsum_tps {R : List FRow} {P : Tab} {ts : List Th} {g : Nat → Str → Int} (e : P.length = ts.length) (h : ∀ (j : Nat) (hj : j < P.length) (hj2 : j < ts.length) (y : Str), g j y = tp R P[j].1 ts[j] y) (y : Str) :
    ∀ n, n ≤ P.length → gsum P g n y = tps R (P.take n) (ts.take n) y
  | 0, _ => by simp [gsum, tps]
  | n + 1, hn => by
    have h1 : n < P.length := hn
    have h2 : n < ts.length := by omega
    rw [tps_take e h1 h2, gsum, gsum_tps e h y n (by omega), List.getElem?_eq_getElem h1, h n h1 h2 y]
    rfl
/-! ### a product whose tuple's object is known -/
def IsZ (K : PySem.W.Frag) (H : Hp) (ps : Tab) (a : Addr) : Prop := ∃ as : List Addr, ZT H a (as.map V.ref) ∧ IsKs K H (ps.map pairK) (as.map V.ref)
theorem IsZ.isK {K : PySem.W.Frag} {H : Hp} {ps : Tab} {a : Addr} (h : IsZ K H ps a) : IsK K H (prodK ps) (.ref a) := let ⟨as, z, k⟩ := h; ⟨a, _, rfl, z.seq, k⟩
theorem refs_of {K : PySem.W.Frag} {H : Hp} : ∀ {ps : Tab} {vs : List V}, IsKs K H (ps.map pairK) vs → ∃ as : List Addr, vs = as.map V.ref
  | [], vs, h => ⟨[], h⟩
  | q :: ps, _, ⟨v, r, e, hv, hr⟩ => by
    obtain ⟨a, rfl, _⟩ := pair_at hv
    obtain ⟨as, rfl⟩ := refs_of hr
    exact ⟨a :: as, e⟩
theorem paired_of {K : PySem.W.Frag} {H : Hp} : ∀ {ps : Tab} {as : List Addr}, IsKs K H (ps.map pairK) (as.map V.ref) → Paired (fun p (kv : Key × V) => SqT K H p [kV kv.1, kv.2]) as (tabV ps)
  | [], as, h => by
    have e : as = [] := List.map_eq_nil_iff.mp (show as.map V.ref = [] from h)
    rw [e]; exact .nil
  | q :: ps, [], ⟨v, r, e, _, _⟩ => nomatch e
  | q :: ps, a :: as, ⟨v, r, e, hv, hr⟩ => by
    rw [List.map_cons, List.cons.injEq] at e
    obtain ⟨rfl, rfl⟩ := e
    obtain ⟨a', ea, s⟩ := pair_at hv
    obtain rfl := V.ref.inj ea
    exact .cons s (paired_of hr)
theorem merge_tab : ∀ {ps m : Tab}, ((m ++ ps).map (·.1)).Nodup → mergeK (tabV m) (tabV ps) = tabV (m ++ ps)
  | [], m, _ => by rw [List.append_nil]; rfl
  | q :: ps, m, nd => by
    show mergeK (putK (tabV m) (Sum.inr q.1) (V.int q.2)) (tabV ps) = _
    have hq : q.1 ∉ m.map (·.1) := by
      rw [List.map_append, List.map_cons] at nd
      intro h
      exact (List.nodup_append.mp nd).2.2 _ h _ List.mem_cons_self rfl
    rw [putK_tab, show tput m q.1 q.2 = m ++ [q] by unfold tput; rw [if_neg hq], merge_tab (m := m ++ [q]) (by rw [List.append_assoc]; exact nd), List.append_assoc]
    rfl
theorem rd_bm0 {σ : L2.St} {H : Hp} {Q : VK} {K : PySem.W.Frag} {T : String} {r : V → List V → Hp → VK → Prop} {te : TE} (h : te σ H fun x H1 => tyV K T x H1 ∧ r x [] H1 Q) : tBM0 K T r te σ H Q := h
theorem rd_items {H : Hp} {Q : VK} {K : PySem.W.Frag} {a : Addr} {m : Tab} (ha : H a = some (.dK (tabV m))) (h : ∀ p, H p = none → Q (.ref p) (upd H p (DX.itemsO p a))) : tyV K "dict" (.ref a) H ∧ rItemsK (.ref a) [] H Q :=
  ⟨.inr (.inr (.inl ⟨rfl, .inl ⟨_, ha⟩⟩)), a, m, rfl, rfl, ha, h⟩
section
variable {σ : L2.St} {H : Hp} {Q : VK} {tt : TT} {tk tv : TE} {g : TG} {wi : TI} {vs : List Nat}
theorem rd_dc (h : wi σ H fun J H1 => ∀ D, H1 D = none → ∃ W : Nat → Nat → Hp → Prop, (∃ m, W 0 m (upd H1 D (.dK []))) ∧ ∀ i m H, W i m H →
  (J.stop i H ∧ Q (.ref D) H) ∨ (J.go i H ∧ ∃ Nx : Hp → Prop, (∀ H', Nx H' → ∃ m', m' < m ∧ W (i + 1) m' H') ∧ ∀ x H', J.yld i H x H' → g x (wipe σ vs) H' fun σ2 H2 => wipe σ2 vs = wipe σ vs ∧ tt σ2 H2 fun b H3 =>
    if b = true then tk σ2 H3 fun y H4 => tv σ2 H4 fun z H5 => ∃ kvs k, y = kV k ∧ H5 D = some (.dK kvs) ∧ kvs.length < sizeLine ∧ Nx (upd H5 D (.dK (putK kvs k z))) else Nx H3)) : tDc wi g tt tk tv vs σ H Q := h
/-- a dict comprehension over zip of two tuples of one length -/
theorem dc_zipT {K : PySem.W.Frag} {a b : Addr} {xs ys : List V} {H1 : Hp} {D : Addr} {Qd : Hp → Prop} (hl : xs.length = ys.length) (σ' : L2.St) (hw : wipe σ vs = σ') (Pv : Nat → Hp → Prop) (h0 : Pv 0 (upd H1 D (.dK []))) (hq : ∀ i H, Pv i H → SqT K H a xs ∧ SqT K H b ys)
    (hs : ∀ i x y T H, xs[i]? = some x → ys[i]? = some y → Pv i H → H T = none → g (.ref T) σ' (upd H T (.tup [x, y])) fun σ2 H2 => wipe σ2 vs = σ' ∧ tt σ2 H2 fun b H3 =>
      if b = true then tk σ2 H3 fun y H4 => tv σ2 H4 fun z H5 => ∃ kvs k, y = kV k ∧ H5 D = some (.dK kvs) ∧ kvs.length < sizeLine ∧ Pv (i + 1) (upd H5 D (.dK (putK kvs k z))) else Pv (i + 1) H3) (hd : ∀ H, Pv xs.length H → Qd H) :
    ∃ W : Nat → Nat → Hp → Prop, (∃ m, W 0 m (upd H1 D (.dK []))) ∧ ∀ i m H, W i m H →
      ((RZ.ItzT K a b).stop i H ∧ Qd H) ∨ ((RZ.ItzT K a b).go i H ∧ ∃ Nx : Hp → Prop, (∀ H', Nx H' → ∃ m', m' < m ∧ W (i + 1) m' H') ∧ ∀ x H', (RZ.ItzT K a b).yld i H x H' → g x (wipe σ vs) H' fun σ2 H2 => wipe σ2 vs = wipe σ vs ∧ tt σ2 H2 fun b H3 =>
        if b = true then tk σ2 H3 fun y H4 => tv σ2 H4 fun z H5 => ∃ kvs k, y = kV k ∧ H5 D = some (.dK kvs) ∧ kvs.length < sizeLine ∧ Nx (upd H5 D (.dK (putK kvs k z))) else Nx H3) := by
  subst hw
  refine ⟨fun i m H => m = xs.length - i ∧ i ≤ xs.length ∧ Pv i H, ⟨xs.length, by simp, Nat.zero_le _, h0⟩, ?_⟩
  rintro i m H ⟨rfl, hi, p⟩
  obtain ⟨qx, qy⟩ := hq i H p
  by_cases hlt : i < xs.length
  · have hlt2 : i < ys.length := by omega
    have hx : xs[i]? = some xs[i] := List.getElem?_eq_getElem hlt
    have hy : ys[i]? = some ys[i] := List.getElem?_eq_getElem hlt2
    refine .inr ⟨⟨xs, ys, _, _, qx, qy, hx, hy⟩, Pv (i + 1), fun H' p' => ⟨xs.length - (i + 1), by omega, rfl, hlt, p'⟩, fun v H' y => ?_⟩
    obtain ⟨T, x', y', rfl, hT, rfl, f1, f2⟩ := y
    exact hs i x' y' T H (f1 xs qx) (f2 ys qy) p hT
  · have e : i = xs.length := by omega
    subst e
    exact .inl ⟨⟨xs, ys, qx, qy, Or.inl (Nat.le_refl _)⟩, hd H p⟩
theorem rd_ifE {tc : TT} {ta tb : TE} (h : tc σ H fun b H1 => if b = true then ta σ H1 Q else tb σ H1 Q) : tIf tc ta tb σ H Q := h
end
/-- the same letter by letter -/
theorem sw_map {ps : Tab} {n : Int} (y : Str) : sw (ps.map fun q => (q.1, q.2 * n)) y = n * sw ps y := by
  induction ps with
  | nil => simp [sw]
  | cons q ps ih =>
    rw [List.map_cons, sw_cons, sw_cons, ih]
    by_cases c : q.1 = y
    · simp only [c, if_true]
      rw [Int.mul_add, Int.mul_comm]
    · simp only [c, if_false]
      rw [Int.zero_add, Int.zero_add]
end HH
namespace HH
open PySem PySem.Spec PyProof.Rows L2 PySem.SeqAt
mutual
/-- no tuple in it is long -/
def wide : NestedKey → Bool
  | .tup ks => decide (ks.length ≤ 1000) && wides ks
  | .none => false
  | _ => true
def wides : List NestedKey → Bool
  | [] => true
  | k :: ks => wide k && wides ks
end
theorem wides_mem : ∀ {ks : List NestedKey} {k : NestedKey}, wides ks = true → k ∈ ks → wide k = true
  | x :: ks, k, h, hk => by
    rw [wides, Bool.and_eq_true] at h
    rcases List.mem_cons.mp hk with r | r
    · rw [r]; exact h.1
    · exact wides_mem h.2 r
theorem wide_prod {ps : Tab} (h : ps.length ≤ 1000) : wide (prodK ps) = true := by
  rw [prodK, wide, Bool.and_eq_true, List.length_map]
  refine ⟨decide_eq_true h, ?_⟩
  clear h
  induction ps with
  | nil => simp [wides]
  | cons q ps ih => simp [wides, wide, ih]
end HH
namespace HH
open PySem PySem.Spec PyProof.Rows L2 PySem.SeqAt
theorem sw_trueD {kx vx : Expr} {gs : List Comprehension} {scope : Scope} {pos py : Pos} {y : Str} {l : Nat} {env : Env} (hk : env.scope.kind = .function) (hy : env.scope.names.lookup y = some .local) (hl : (py.line == pos.line) = true)
    (ha : (scope.names.any fun (n, k) => n == y && (k == .local || k == .cell)) = false) : swapsWith (.DictComp kx vx gs scope pos) (some (.Name y py)) l env = pure true := by
  have ky : env.kindOf y = some .local := hy
  have hb : env.blockKind = .function := by unfold Env.blockKind; rw [hk]; rfl
  unfold swapsWith
  simp only [hb, ky, ha, Expr.pos, hl]
  rfl
section
variable {X : Cx}
/-- y = {k: v for ..}, a statement of its own -/
theorem ps_setDc {i : Nat} {y : Str} {py : Pos} {kx vx tg iter : Expr} {ifs : List Expr} {scope : Scope} {own : List (Str × Nat)} {pos spos : Pos} {wi : TI} {g : TG} {tt : TT} {tk tv : TE} (hc : X.calm = true) (hN : X.N.Nodup) (hy : X.N[i]? = some y) (hyl : X.env.scope.names.lookup y = some .local)
    (hsw : swapsWith (.DictComp kx vx [⟨tg, iter, ifs, 0⟩] scope pos) (some (.Name y py)) spos.line X.env = pure true) (hi : PI X tg iter wi) (ok : BlkOk X.N X.env.scope scope own)
    (hg : ∀ (s : Shared) (H : Hp) (C : Addr) (cl : List (Str × Addr)) (fp : List Addr), PG (X.blk s H scope (compEnvC scope cl C X.env) fp) tg g) (ht : ∀ (s : Shared) (H : Hp) (C : Addr) (cl : List (Str × Addr)) (fp : List Addr), PTs (X.blk s H scope (compEnvC scope cl C X.env) fp) ifs tt)
    (hk : ∀ (s : Shared) (H : Hp) (C : Addr) (cl : List (Str × Addr)) (fp : List Addr), PE (X.blk s H scope (compEnvC scope cl C X.env) fp) kx tk)
    (he : ∀ (s : Shared) (H : Hp) (C : Addr) (cl : List (Str × Addr)) (fp : List Addr), PE (X.blk s H scope (compEnvC scope cl C X.env) fp) vx tv) (hs : ∀ x, foldedSetIterable iter X.env x = pure x := by intro _; rfl) :
    PS X (.Assign [.Name y py] (.DictComp kx vx [⟨tg, iter, ifs, 0⟩] scope pos) spos) (tAsg (tDc wi g tt tk tv (own.map (·.2))) (gName i)) := by
  refine ⟨fun pins s σ H D I h => ?_⟩
  rw [exec_Assign_Name_used _ _ _ _ hsw]
  refine wpAny_bind (wpAny_standAt (wpAny_bind ?_))
  show wpAny _ X.A (do let _ ← comprehension (.DictComp kx vx [⟨tg, iter, ifs, 0⟩] scope pos) scope X.env (firstIterPos [⟨tg, iter, ifs, 0⟩] pos) newDict false (eval iter X.env) (some (assign (.Name y py) X.env))) _ _ s
  have h : tDc wi g tt tk tv (own.map (·.2)) σ H (fun x H1 => gName i x σ H1 D.nx) := h
  refine wpAny_bind (thn (dc_core (Qf := fun _ s' => SP X pins D .next s') hc hN I hi ok hg ht hk he hs h fun L C s' m H' I' q hn f => ?_) fun _ s' hq => wpAny_pure (wpAny_pure hq))
  show wpAny _ _ (assign (.Name y py) X.env (.ref L)) _ _ _
  refine wpAny_assign_Name (store_ok2 (v := V.ref L) I' hN hy (.inl hyl) rfl (fun s2 I2 ⟨a, sb, ha⟩ => ?_) (.inr hyl))
  obtain ⟨f0, f1, f2, f3, f4, f5⟩ := f
  have haC : C ≠ a := by
    rcases ha with z | z
    · rw [z]; exact f1
    · exact fun e => f4 y a z e.symm
  refine ⟨m, hn.sameBut sb haC, fun h3 sb3 => ?_⟩
  exact ⟨_, H', I2.turned (t' := s2.toks) (fun b o hb e => (sb3.2 b hb).trans e) f0 f1 f3 f4 f5, q⟩
end
end HH
namespace HH
open PySem PySem.Spec PyProof.Rows L2 PySem.SeqAt
/-! ### what is handed on -/
def Edge (R : List FRow) (x g : Str) : Prop := ∃ r ∈ R, r.nm = x ∧ g ∈ r.ps.map (·.1)
def TC (R : List FRow) : Str → Str → Prop := Relation.TransGen (Edge R)
theorem TC.trans {R : List FRow} {a b c : Str} (h : TC R a b) (g : TC R b c) : TC R a c := by
  induction g with
  | single e => exact .tail h e
  | tail _ e ih => exact .tail ih e
theorem TC.head {R : List FRow} {a b c : Str} (h : Edge R a b) (g : TC R b c) : TC R a c := TC.trans (.single h) g
/-- the names of the rows are these -/
def RowsN (xs : List Str) (R : List FRow) : Prop := ∀ r ∈ R, r.nm ∈ xs ∧ ∀ q ∈ r.ps, q.1 ∈ xs
theorem Edge.mem {xs : List Str} {R : List FRow} (h : RowsN xs R) {a b : Str} (e : Edge R a b) : a ∈ xs ∧ b ∈ xs := by
  obtain ⟨r, hr, rfl, hg⟩ := e
  obtain ⟨q, hq, rfl⟩ := List.mem_map.mp hg
  exact ⟨(h r hr).1, (h r hr).2 q hq⟩
theorem TC.mem {xs : List Str} {R : List FRow} (h : RowsN xs R) {a b : Str} (e : TC R a b) : b ∈ xs := by
  cases e with
  | single e => exact (e.mem h).2
  | tail _ e => exact (e.mem h).2
/-! ### parts, in their order -/
open Classical in
noncomputable def partOf (r : Str → Str → Prop) (xs : List Str) (x : Str) : List Str := xs.filter fun o => decide (o = x ∨ (r x o ∧ r o x))
open Classical in
theorem mem_part {r : Str → Str → Prop} {xs : List Str} {x o : Str} : o ∈ partOf r xs x ↔ o ∈ xs ∧ (o = x ∨ (r x o ∧ r o x)) := by
  unfold partOf
  rw [List.mem_filter, decide_eq_true_eq]
noncomputable def leftAcc (r : Str → Str → Prop) (xs : List Str) : List Str → List (List Str) → List (List Str)
  | [], acc => acc
  | x :: l, acc => if partOf r xs x ∈ acc then leftAcc r xs l acc else leftAcc r xs l (acc ++ [partOf r xs x])
/-- the parts, one for each of the first i names that has a new one -/
noncomputable def leftL (r : Str → Str → Prop) (xs : List Str) (i : Nat) : List (List Str) := leftAcc r xs (xs.take i) []
theorem leftAcc_app (r : Str → Str → Prop) (xs : List Str) : ∀ (l m : List Str) (acc : List (List Str)), leftAcc r xs (l ++ m) acc = leftAcc r xs m (leftAcc r xs l acc)
  | [], m, acc => rfl
  | x :: l, m, acc => by
    rw [List.cons_append, leftAcc, leftAcc]
    split
    · exact leftAcc_app r xs l m acc
    · exact leftAcc_app r xs l m _
theorem leftL_succ {r : Str → Str → Prop} {xs : List Str} {i : Nat} (h : i < xs.length) : leftL r xs (i + 1) = if partOf r xs xs[i] ∈ leftL r xs i then leftL r xs i else leftL r xs i ++ [partOf r xs xs[i]] := by
  unfold leftL
  rw [List.take_add_one, List.getElem?_eq_getElem h, Option.toList_some, leftAcc_app]
  rfl
theorem leftL_facts {r : Str → Str → Prop} {xs : List Str} : ∀ i, i ≤ xs.length → (leftL r xs i).Nodup ∧ (leftL r xs i).length ≤ i ∧ (∀ p ∈ leftL r xs i, ∃ x ∈ xs, p = partOf r xs x) ∧ ∀ (j : Nat) (h : j < xs.length), j < i → partOf r xs xs[j] ∈ leftL r xs i
  | 0, _ => ⟨List.nodup_nil, Nat.le_refl _, by simp [leftL, leftAcc], fun j h hj => absurd hj (Nat.not_lt_zero _)⟩
  | i + 1, hi => by
    obtain ⟨h1, h2, h3, h4⟩ := leftL_facts (r := r) (xs := xs) i (by omega)
    rw [leftL_succ hi]
    by_cases c : partOf r xs xs[i] ∈ leftL r xs i
    · rw [if_pos c]
      refine ⟨h1, Nat.le_succ_of_le h2, h3, fun j h hj => ?_⟩
      rcases Nat.lt_succ_iff_lt_or_eq.mp hj with z | z
      · exact h4 j h z
      · subst z; exact c
    · rw [if_neg c]
      refine ⟨List.nodup_append.mpr ⟨h1, List.nodup_cons.mpr ⟨List.not_mem_nil, List.nodup_nil⟩, fun a ha b hb e => ?_⟩, by rw [List.length_append]; exact Nat.succ_le_succ h2, fun p hp => ?_, fun j h hj => ?_⟩
      · rw [List.mem_singleton.mp hb] at e
        rw [e] at ha; exact c ha
      · rcases List.mem_append.mp hp with z | z
        · exact h3 p z
        · rw [List.mem_singleton.mp z]; exact ⟨_, List.getElem_mem hi, rfl⟩
      · rcases Nat.lt_succ_iff_lt_or_eq.mp hj with z | z
        · exact List.mem_append_left _ (h4 j h z)
        · subst z; exact List.mem_append_right _ List.mem_cons_self
/-- all parts of these names -/
structure AllParts (r : Str → Str → Prop) (xs : List Str) (W : List (List Str)) : Prop where
  tr : ∀ a b c, r a b → r b c → r a c
  inn : ∀ a b, r a b → b ∈ xs
  nd : W.Nodup
  le : W.length ≤ xs.length
  is : ∀ p ∈ W, ∃ x ∈ xs, p = partOf r xs x
  all : ∀ x ∈ xs, partOf r xs x ∈ W
theorem allParts {r : Str → Str → Prop} {xs : List Str} (tr : ∀ a b c, r a b → r b c → r a c) (inn : ∀ a b, r a b → b ∈ xs) : AllParts r xs (leftL r xs xs.length) := by
  obtain ⟨h1, h2, h3, h4⟩ := leftL_facts (r := r) (xs := xs) xs.length (Nat.le_refl _)
  refine ⟨tr, inn, h1, h2, h3, fun x hx => ?_⟩
  obtain ⟨j, hj, rfl⟩ := List.getElem_of_mem hx
  exact h4 j hj hj
def hd (p : List Str) : Str := p.headD ""
theorem hd_mem {p : List Str} (h : p ≠ []) : hd p ∈ p := by
  cases p with
  | nil => exact absurd rfl h
  | cons a l => exact List.mem_cons_self
theorem part_ne {r : Str → Str → Prop} {xs : List Str} {x : Str} (h : x ∈ xs) : partOf r xs x ≠ [] := fun e => by
  have : x ∈ partOf r xs x := mem_part.mpr ⟨h, .inl rfl⟩
  rw [e] at this; cases this
open Classical in
noncomputable def rdy (r : Str → Str → Prop) (placed : List Str) (p : List Str) : Bool := decide (∀ g, r (hd p) g → g ∈ placed ∨ g ∈ p)
open Classical in
theorem rdy_iff {r : Str → Str → Prop} {placed : List Str} {p : List Str} : rdy r placed p = true ↔ ∀ g, r (hd p) g → g ∈ placed ∨ g ∈ p := by
  unfold rdy
  rw [decide_eq_true_eq]
/-- what is chosen among parts -/
def encP (p : List Str) : PyData := .tuple (p.map PyData.str)
def minP (q : List Str) (qs : List (List Str)) : List Str := qs.foldl (fun a y => if PySem.W.dataLt (encP y) (encP a) then y else a) q
theorem minD_enc (q : List Str) (qs : List (List Str)) : PySem.W.minD (encP q) (qs.map encP) = encP (minP q qs) := by
  unfold PySem.W.minD minP
  induction qs generalizing q with
  | nil => rfl
  | cons y qs ih =>
    rw [List.map_cons, List.foldl_cons, List.foldl_cons]
    by_cases c : PySem.W.dataLt (encP y) (encP q) = true
    · rw [if_pos c, if_pos c]; exact ih y
    · rw [if_neg c, if_neg c]; exact ih q
theorem minP_mem (q : List Str) (qs : List (List Str)) : minP q qs ∈ q :: qs := by
  unfold minP
  induction qs generalizing q with
  | nil => exact List.mem_cons_self
  | cons y qs ih =>
    rw [List.foldl_cons]
    by_cases c : PySem.W.dataLt (encP y) (encP q) = true
    · rw [if_pos c]; exact List.mem_cons_of_mem _ (ih y)
    · rw [if_neg c]
      rcases List.mem_cons.mp (ih q) with z | z
      · rw [z]; exact List.mem_cons_self
      · exact List.mem_cons_of_mem _ (List.mem_cons_of_mem _ z)
def least : List (List Str) → List Str
  | [] => []
  | q :: qs => minP q qs
theorem least_mem {ps : List (List Str)} (h : ps ≠ []) : least ps ∈ ps := by
  cases ps with
  | nil => exact absurd rfl h
  | cons q qs => exact minP_mem q qs
/-- the parts one behind the other, those that wait and what stands already -/
noncomputable def ordL (r : Str → Str → Prop) : Nat → List (List Str) → List Str → List (List Str)
  | 0, _, _ => []
  | n + 1, w, pl => least (w.filter (rdy r pl)) :: ordL r n (w.erase (least (w.filter (rdy r pl)))) (pl ++ least (w.filter (rdy r pl)))
/-- what waits and what stands fit -/
structure OI (W waiting : List (List Str)) (placed : List Str) : Prop where
  sub : ∀ p ∈ waiting, p ∈ W
  nd : waiting.Nodup
  cov : ∀ p ∈ W, p ∈ waiting ∨ ∀ z ∈ p, z ∈ placed
theorem filter_lt {α : Type} {p q : α → Bool} : ∀ {l : List α}, (∀ x, p x = true → q x = true) → (∃ x ∈ l, q x = true ∧ p x = false) → (l.filter p).length < (l.filter q).length
  | [], _, ⟨_, h, _⟩ => nomatch h
  | a :: l, hs, ⟨x, hx, h1, h2⟩ => by
    have le : (l.filter p).length ≤ (l.filter q).length := by
      clear hx
      induction l with
      | nil => exact Nat.le_refl _
      | cons b l ih =>
        rw [List.filter_cons, List.filter_cons]
        by_cases c : p b = true
        · rw [if_pos c, if_pos (hs b c)]; exact Nat.succ_le_succ ih
        · rw [if_neg c]
          split
          · exact Nat.le_succ_of_le ih
          · exact ih
    rw [List.filter_cons, List.filter_cons]
    rcases List.mem_cons.mp hx with e | e
    · subst e
      rw [if_pos h1, if_neg (by rw [h2]; exact Bool.false_ne_true)]
      exact Nat.lt_succ_of_le le
    · have ih := filter_lt (l := l) hs ⟨x, e, h1, h2⟩
      by_cases c : p a = true
      · rw [if_pos c, if_pos (hs a c)]; exact Nat.succ_lt_succ ih
      · rw [if_neg c]
        split
        · exact Nat.lt_succ_of_lt ih
        · exact ih
open Classical in
/-- some part that waits is ready -/
theorem ready_ne {r : Str → Str → Prop} {xs : List Str} {W waiting : List (List Str)} {placed : List Str} (A : AllParts r xs W) (O : OI W waiting placed) (ne : waiting ≠ []) : waiting.filter (rdy r placed) ≠ [] := by
  intro none
  have no : ∀ p ∈ waiting, ∃ g, r (hd p) g ∧ g ∉ placed ∧ g ∉ p := fun p hp => by
    have h1 : rdy r placed p = false := by
      cases e : rdy r placed p with
      | false => rfl
      | true =>
        have : p ∈ waiting.filter (rdy r placed) := List.mem_filter.mpr ⟨hp, e⟩
        rw [none] at this; cases this
    refine Classical.byContradiction fun h => ?_
    have : rdy r placed p = true := rdy_iff.mpr fun g hg => Classical.byContradiction fun h2 => by
      rw [not_or] at h2
      exact h ⟨g, hg, h2.1, h2.2⟩
    rw [h1] at this; cases this
  have key : ∀ n, ∀ p ∈ waiting, (xs.filter fun h => decide (h = hd p ∨ r (hd p) h)).length ≤ n → False := by
    intro n
    induction n with
    | zero =>
      intro p hp hn
      obtain ⟨x, hx, rfl⟩ := A.is p (O.sub p hp)
      have m := hd_mem (part_ne (r := r) hx)
      have : hd (partOf r xs x) ∈ xs.filter fun h => decide (h = hd (partOf r xs x) ∨ r (hd (partOf r xs x)) h) := List.mem_filter.mpr ⟨(mem_part.mp m).1, decide_eq_true (.inl rfl)⟩
      have := List.length_pos_of_mem this
      omega
    | succ n ih =>
      intro p hp hn
      obtain ⟨g, hg, g1, g2⟩ := no p hp
      have gx := A.inn _ _ hg
      have hp' : partOf r xs g ∈ waiting := by
        rcases O.cov _ (A.all g gx) with z | z
        · exact z
        · exact absurd (z g (mem_part.mpr ⟨gx, .inl rfl⟩)) g1
      refine ih _ hp' ?_
      obtain ⟨x, hx, rfl⟩ := A.is p (O.sub p hp)
      have m := mem_part.mp (hd_mem (part_ne (r := r) hx))
      have m' := mem_part.mp (hd_mem (part_ne (r := r) gx))
      generalize hd (partOf r xs x) = a at *
      generalize hd (partOf r xs g) = b at *
      have ab : r a b := by
        rcases m'.2 with z | z
        · rw [z]; exact hg
        · exact A.tr _ _ _ hg z.1
      have nba : ¬ r g a := fun h => by
        refine g2 (mem_part.mpr ⟨gx, ?_⟩)
        rcases m.2 with z | z
        · rw [z] at hg h; exact .inr ⟨hg, h⟩
        · exact .inr ⟨A.tr _ _ _ z.1 hg, A.tr _ _ _ h z.2⟩
      have nga : g ≠ a := fun e => g2 (by rw [e]; exact mem_part.mpr ⟨m.1, m.2⟩)
      have := filter_lt (l := xs) (p := fun h => decide (h = b ∨ r b h)) (q := fun h => decide (h = a ∨ r a h)) (fun h hh => by
        have hh := of_decide_eq_true hh
        refine decide_eq_true (.inr ?_)
        rcases hh with z | z
        · rw [z]; exact ab
        · exact A.tr _ _ _ ab z) ⟨a, m.1, decide_eq_true (.inl rfl), decide_eq_false fun h => by
          rcases h with z | z
          · rcases m'.2 with y | y
            · exact nga (y.symm.trans z.symm)
            · rw [← z] at y; exact nba y.1
          · rcases m'.2 with y | y
            · rw [y] at z; exact nba z
            · exact nba (A.tr _ _ _ y.1 z)⟩
      omega
  cases waiting with
  | nil => exact ne rfl
  | cons p l => exact key _ p List.mem_cons_self (Nat.le_refl _)
theorem OI.next {W waiting : List (List Str)} {placed : List Str} (O : OI W waiting placed) {p : List Str} (h : p ∈ waiting) : OI W (waiting.erase p) (placed ++ p) := by
  refine ⟨fun q hq => O.sub q (List.mem_of_mem_erase hq), O.nd.erase p, fun q hq => ?_⟩
  by_cases e : q = p
  · subst e
    exact .inr fun z hz => List.mem_append_right _ hz
  · rcases O.cov q hq with z | z
    · exact .inl ((List.mem_erase_of_ne e).mpr z)
    · exact .inr fun y hy => List.mem_append_left _ (z y hy)
end HH
namespace HH
open PySem PySem.Spec PyProof.Rows L2 PySem.SeqAt
/-! ### lists of tuples of texts -/
abbrev PL := List (Addr × List Str)
def PLs (K : PySem.W.Frag) (H : Hp) (L : PL) : Prop := ∀ q ∈ L, SqT K H q.1 (q.2.map V.str) ∧ ∀ z ∈ q.2, Low z
abbrev refsP (L : PL) : List V := L.map fun q => V.ref q.1
theorem PLs.keep {K : PySem.W.Frag} {H H' : Hp} {L : PL} (h : PLs K H L) (t : Tup K H H') : PLs K H' L := fun q hq => ⟨t _ _ (h q hq).1, (h q hq).2⟩
theorem dpAll_strs {K : PySem.W.Frag} {H : Hp} : ∀ (p : List Str), DpAll K H (p.map V.str) (p.map PyData.str)
  | [] => .nil
  | z :: p => .cons (.str z) (dpAll_strs p)
theorem dp_part {K : PySem.W.Frag} {H : Hp} {a : Addr} {p : List Str} (h : SqT K H a (p.map V.str)) : Dp K H (.ref a) (encP p) := .tup h (dpAll_strs p)
theorem dp_parts {K : PySem.W.Frag} {H : Hp} : ∀ {L : PL}, PLs K H L → DpAll K H (refsP L) ((L.map (·.2)).map encP)
  | [], _ => .nil
  | q :: L, h => .cons (dp_part (h q List.mem_cons_self).1) (dp_parts fun x hx => h x (List.mem_cons_of_mem _ hx))
theorem low_ok {z : Str} (h : Low z) : PyData.strOk z = true := by
  unfold PyData.strOk
  rw [Array.all_eq_true_iff_forall_mem]
  intro c hc
  have := h c (by simpa using hc)
  exact decide_eq_true (by omega)
theorem lay_strs : ∀ {p : List Str}, (∀ z ∈ p, Low z) → PyData.canLayAll0 (p.map PyData.str) = true
  | [], _ => by simp [PyData.canLayAll0]
  | z :: p, h => by
    rw [List.map_cons, PyData.canLayAll0, lay_strs fun y hy => h y (List.mem_cons_of_mem _ hy)]
    simp [PyData.canLay0, low_ok (h z List.mem_cons_self)]
theorem lay_part {p : List Str} (h : ∀ z ∈ p, Low z) : PyData.canLay0 (encP p) = true := by
  simp only [encP, PyData.canLay0, lay_strs h]
theorem lay_parts : ∀ {ps : List (List Str)}, (∀ p ∈ ps, ∀ z ∈ p, Low z) → PyData.canLayAll0 (ps.map encP) = true
  | [], _ => by simp [PyData.canLayAll0]
  | p :: ps, h => by
    rw [List.map_cons, PyData.canLayAll0, lay_parts fun y hy => h y (List.mem_cons_of_mem _ hy), lay_part (h p List.mem_cons_self)]
    rfl
theorem dep_strs : ∀ (p : List Str), PyData.depthAll (p.map PyData.str) ≤ 1
  | [] => by simp [PyData.depthAll]
  | z :: p => by
    have := dep_strs p
    simp only [List.map_cons, PyData.depthAll, PyData.depth]
    omega
theorem dep_part (p : List Str) : (encP p).depth ≤ 2 := by
  have := dep_strs p
  simp only [encP, PyData.depth]
  omega
theorem dep_parts : ∀ (ps : List (List Str)), PyData.depthAll (ps.map encP) ≤ 2
  | [] => by simp [PyData.depthAll]
  | p :: ps => by
    have h1 := dep_part p
    have h2 := dep_parts ps
    simp only [List.map_cons, PyData.depthAll]
    omega
theorem eqv_strs : ∀ (p q : List Str), PyData.eqvAll (p.map PyData.str) (q.map PyData.str) = decide (p = q)
  | [], [] => by simp [PyData.eqvAll]
  | [], _ :: _ => by simp [PyData.eqvAll]
  | _ :: _, [] => by simp [PyData.eqvAll]
  | a :: p, b :: q => by
    rw [List.map_cons, List.map_cons, PyData.eqvAll, eqv_strs p q, PyData.eqv]
    by_cases h : a = b
    · subst h; simp
    · simp [h]
theorem eqv_part (p q : List Str) : PyData.eqv (encP p) (encP q) = decide (p = q) := by
  simp only [encP, PyData.eqv, eqv_strs]
theorem any_part {p : List Str} : ∀ {ps : List (List Str)}, ((ps.map encP).any fun z => PyData.eqv z (encP p)) = decide (p ∈ ps)
  | [] => by simp
  | q :: ps => by
    rw [List.map_cons, List.any_cons, any_part, eqv_part]
    by_cases h : q = p
    · simp [h]
    · have h2 : ¬ p = q := fun e => h e.symm
      simp [h, h2]
section
variable {X : Cx} {K : PySem.W.Frag} {H : Hp} {Q : VK}
theorem op_notInDK (hu : X.A.units + 65 < cLine) (hX : X.K = K := by rfl) : OpR X (compareOp .NotIn) (rNotInD K) := by subst hX; exact op_notInD hu
theorem hu65_of {A : Around} {k : Nat} (hr : Room k A) : A.units + 65 < cLine := by have := hr.un; omega
theorem shape_list {ps : List (List Str)} (h : ∀ p ∈ ps, ∀ z ∈ p, Low z) : PySem.SeqAt.shaped (.list (ps.map encP)) = true := by
  unfold PySem.SeqAt.shaped
  rw [Bool.and_eq_true]
  refine ⟨by simp only [PyData.canLay0, lay_parts h], decide_eq_true ?_⟩
  have := dep_parts ps
  simp only [PyData.depth]
  omega
theorem shape_part {p : List Str} (h : ∀ z ∈ p, Low z) : PySem.SeqAt.shaped (encP p) = true := by
  unfold PySem.SeqAt.shaped
  rw [Bool.and_eq_true]
  exact ⟨lay_part h, decide_eq_true (by have := dep_part p; omega)⟩
/-- a part not in a list of parts -/
theorem rd_ninP {a l : Addr} {p : List Str} {L : PL} (ha : SqT K H a (p.map V.str)) (lp : ∀ z ∈ p, Low z) (hl : SqL K H l (refsP L)) (hL : PLs K H L) (h : Q (.bl (!decide (p ∈ L.map (·.2)))) H) : rNotInD K (.ref a) (.ref l) H Q :=
  ⟨encP p, (L.map (·.2)).map encP, dp_part ha, .lst hl (dp_parts hL), shape_part lp, shape_list fun q hq => by obtain ⟨x, hx, rfl⟩ := List.mem_map.mp hq; exact (hL x hx).2, by rw [any_part]; exact h⟩
/-! ### min of a list of parts -/
theorem alike_strs : ∀ (p q : List Str), PySem.W.alikeAll (p.map PyData.str) (q.map PyData.str) = true
  | [], _ => by simp [PySem.W.alikeAll]
  | _ :: _, [] => by simp [PySem.W.alikeAll]
  | a :: p, b :: q => by simp only [List.map_cons, PySem.W.alikeAll, PySem.W.alike, alike_strs p q, Bool.and_self]
theorem alike_parts {ps : List (List Str)} : PySem.W.AlikeAll (ps.map encP) := by
  refine ⟨fun x hx y hy => ?_, fun x hx => ?_⟩
  · obtain ⟨p, _, rfl⟩ := List.mem_map.mp hx
    obtain ⟨q, _, rfl⟩ := List.mem_map.mp hy
    simp only [encP, PySem.W.alike, alike_strs]
  · obtain ⟨p, _, rfl⟩ := List.mem_map.mp hx
    simp [encP]
theorem reads_strs {h : Heap} : ∀ {p q : List Str} {vs : List Value} {as bs : List Addr}, ReadsAll h vs (p.map PyData.str) as → ReadsAll h vs (q.map PyData.str) bs → p = q
  | [], [], _, _, _, _, _ => rfl
  | [], _ :: _, _, _, _, r, s => by cases r; cases s
  | _ :: _, [], _, _, _, r, s => by cases s; cases r
  | a :: p, b :: q, _, _, _, r, s => by
    cases r with
    | cons r1 r2 =>
      cases s with
      | cons s1 s2 =>
        have e : a = b := by
          cases r1
          cases s1
          rfl
        rw [e, reads_strs r2 s2]
theorem reads_part {h : Heap} {u : Value} {p q : List Str} {as bs : List Addr} (r : Reads h u (encP p) as) (s : Reads h u (encP q) bs) : p = q := by
  unfold encP at r s
  cases r with
  | tuple h1 h2 h3 h4 =>
    cases s with
    | tuple g1 g2 g3 g4 =>
      rw [h1] at g1
      cases g1
      rw [h3] at g3
      cases g3
      exact reads_strs h4 g4
def rMinP (K : PySem.W.Frag) : List V → Hp → VK → Prop := fun vs H Q => ∃ (l : Addr) (L : PL), vs = [.ref l] ∧ SqL K H l (refsP L) ∧ PLs K H L ∧ L ≠ [] ∧ ∀ q ∈ L, q.2 = least (L.map (·.2)) → Q (.ref q.1) H
theorem cr_minP (hu : X.A.units + 20 < cLine) (hc : X.calm = true) (hX : X.K = K := by rfl) : CallR X (.builtin "min") (rMinP K) := by
  subst hX
  intro pins s σ H vs us Q I r h
  obtain ⟨l, L, rfl, hl, hL, ne, q⟩ := h
  obtain rfl := Vals.ref1 r
  obtain ⟨its, rv, pl, hz⟩ := I.list hl
  obtain ⟨as, ra⟩ := Dp.readsAll I _ _ its (dp_parts hL) rv
  cases L with
  | nil => exact absurd rfl ne
  | cons q0 L =>
    refine PySem.W.min_list_data (vs := its.toArray) (as := as) (I.ok.hd hc) pl.isList (by simpa using ra) (alike_parts (ps := (q0 :: L).map (·.2))) ?_ fun i v h' tk bs hv hr kp => ?_
    · have := dep_parts ((q0 :: L).map (·.2))
      show X.A.units + 1 + PyData.depthAll (((q0 :: L).map (·.2)).map encP) < cLine
      omega
    · rw [minD_enc] at hr
      have hv' : its[i]? = some v := by simpa using hv
      have hi : i < (q0 :: L).length := by
        have h1 := (List.getElem?_eq_some_iff.mp hv').1
        have h2 := rv.length
        rw [List.length_map] at h2
        omega
      cases eq : (q0 :: L)[i]? with
      | none => rw [List.getElem?_eq_getElem hi] at eq; cases eq
      | some q1 =>
        obtain ⟨u, hu', ru⟩ := rv.get (i := i) (x := V.ref q1.1) (by rw [List.getElem?_map, eq]; rfl)
        obtain rfl : v = u := Option.some.inj (hv'.symm.trans hu')
        obtain rfl : v = Value.ref q1.1 := ru
        have m1 := List.mem_of_getElem? eq
        have I1 : Inv X pins σ H { s with heap := h', toks := tk } := I.kept kp
        obtain ⟨cs, r1⟩ := Dp.reads I1 _ _ (.ref q1.1) (dp_part (hL q1 m1).1) rfl
        exact ⟨.ref q1.1, H, I1, rfl, q q1 m1 (reads_part r1 hr)⟩
/-! ### xs.remove(part) -/
theorem map_eraseG {α β : Type} (f : α → β) : ∀ (l : List α) (k : Nat), (l.map f).eraseIdx k = (l.eraseIdx k).map f
  | [], _ => rfl
  | _ :: _, 0 => rfl
  | a :: l, k + 1 => by
    rw [List.map_cons, List.eraseIdx_cons_succ, List.eraseIdx_cons_succ, List.map_cons, map_eraseG f l k]
theorem plain_parts {ps : List (List Str)} (h : ∀ p ∈ ps, ∀ z ∈ p, Low z) : PyData.plainAll (ps.map encP) = true := by
  have := PyData.plain_of_canLay0 (.list (ps.map encP)) (by simp only [PyData.canLay0, lay_parts h])
  simpa [PyData.plain] using this
def rRemP (K : PySem.W.Frag) : V → List V → Hp → VK → Prop := fun x vs H Q => ∃ (l a : Addr) (L : PL) (p : List Str) (j : Nat), x = .ref l ∧ vs = [.ref a] ∧ H l = some (.lst (refsP L)) ∧ PLs K H L ∧ SqT K H a (p.map V.str) ∧ (∀ z ∈ p, Low z) ∧ (L.map (·.2)).findIdx? (fun y => decide (y = p)) = some j ∧ Q .non (upd H l (.lst (refsP (L.eraseIdx j))))
theorem place_part {p : List Str} : ∀ (ps : List (List Str)), dataPlace (ps.map encP) (encP p) = ps.findIdx? fun y => decide (y = p) := by
  intro ps
  unfold dataPlace
  induction ps with
  | nil => rfl
  | cons q ps ih => rw [List.map_cons, List.findIdx?_cons, List.findIdx?_cons, eqv_part, ih]
theorem mt_remP (hu : X.A.units + 20 < cLine) (hX : X.K = K := by rfl) : MtM X "list.remove" (rRemP K) := by
  subst hX
  intro pins s σ H x vs v us Q I rx rv h
  obtain ⟨l, a, L, p, j, rfl, rfl, hH, hL, ha, lp, hj, q⟩ := h
  cases rx
  obtain ⟨u, rfl, ru⟩ := rv.one
  obtain rfl : u = Value.ref a := ru
  obtain ⟨z, its, n, r, hl, e⟩ := I.lstM hH
  obtain ⟨as, ra⟩ := Dp.readsAll I _ _ its (dp_parts hL) r
  obtain ⟨bs, rb⟩ := Dp.reads I _ _ (.ref a) (dp_part ha) rfl
  have hll : ∀ p ∈ L.map (·.2), ∀ z ∈ p, Low z := fun y hy => by obtain ⟨x, hx, rfl⟩ := List.mem_map.mp hy; exact (hL x hx).2
  refine remove_list_data (j := j) (vs := its.toArray) ⟨_, e, rfl, _, rfl⟩ (by simpa using ra) rb (plain_parts hll) (PyData.plain_of_canLay0 _ (lay_part lp)) ?_ (by rw [place_part]; exact hj) (by rw [List.size_toArray]; omega) ?_
  · have := dep_part p
    omega
  · refine ⟨.non, _, I.lset (its' := its.eraseIdx j) hH e ?_ (by have := r.eraseIdx j; rw [map_eraseG] at this; exact this) ?_, rfl, q⟩
    · show its.toArray.eraseIdxIfInBounds j = (its.eraseIdx j).toArray
      rw [List.eraseIdxIfInBounds_toArray]
    · rw [List.length_map]
      have h1 := len_erase L j
      have h2 := List.length_map (f := fun q : Addr × List Str => V.ref q.1) (as := L)
      have h3 : (refsP L).length = L.length := h2
      omega
end
end HH
namespace HH
open PySem PySem.Spec PyProof.Rows L2 PySem.SeqAt
/-! ### over a list or a tuple, whichever it is -/
theorem pi_tupK {X : Cx} {tg e : Expr} {tl : TE} {K : PySem.W.Frag} (he : PE X e tl) (hX : X.K = K := by rfl) : PI X tg e (iTup K tl) := by subst hX; exact pi_tup he
theorem pi_listK {X : Cx} {tg e : Expr} {tl : TE} {K : PySem.W.Frag} (he : PE X e tl) (hX : X.K = K := by rfl) : PI X tg e (iList K tl) := by subst hX; exact pi_list he
def iOr (a b : TI) : TI := fun σ H R => a σ H R ∨ b σ H R
theorem pi_or {X : Cx} {tg e : Expr} {a b : TI} (h1 : PI X tg e a) (h2 : PI X tg e b) : PI X tg e (iOr a b) := ⟨fun pins s σ H R I h => h.elim (h1.run pins s σ H R I) (h2.run pins s σ H R I)⟩
theorem rd_iO {K : PySem.W.Frag} {σ : L2.St} {H : Hp} {n : Nat} {a : Addr} {xs : List V} {R : It → Hp → Prop} (e : σ[n]? = some (some (V.ref a))) (h : SqL K H a xs ∨ SqT K H a xs)
    (k : ∀ (J : It) (G : Hp → Prop), (∀ H', Same H H' → G H') → Walk J xs.length G (YAt xs) → R J H) : iOr (iList K (tVar n)) (iTup K (tVar n)) σ H R := by
  rcases h with h | h
  · exact .inl ⟨_, e, a, rfl, ⟨xs, h⟩, k _ _ (fun H' s => same_seq s h) walk_list⟩
  · exact .inr ⟨_, e, a, rfl, ⟨xs, h⟩, k _ _ (fun H' s => same_tup s _ _ h) walk_tup⟩
/-! ### a dict of lists of texts -/
structure DL (H : Hp) (d : Addr) (xs : List Str) (ad : Str → Addr) (L : Str → List Str) : Prop where
  d : H d = some (.dK (xs.map fun x => (Sum.inr x, V.ref (ad x))))
  l : ∀ x ∈ xs, H (ad x) = some (.lst ((L x).map V.str))
  inj : ∀ x ∈ xs, ∀ y ∈ xs, ad x = ad y → x = y
theorem valV_dl {ad : Str → Addr} {x : Str} : ∀ {xs : List Str}, x ∈ xs → valV (xs.map fun y => ((Sum.inr y : Key), V.ref (ad y))) (Sum.inr x) = some (.ref (ad x))
  | y :: xs, h => by
    rw [List.map_cons]
    by_cases e : y = x
    · rw [valV_pos (by rw [e]), e]
    · rw [valV_neg (fun z => e (Sum.inr.inj z))]
      rcases List.mem_cons.mp h with z | z
      · exact absurd z.symm e
      · exact valV_dl z
theorem putK_dl {ad : Str → Addr} {l : Addr} {x : Str} {ys : List Str} (h : x ∉ ys) : putK (ys.map fun y => ((Sum.inr y : Key), V.ref (ad y))) (Sum.inr x) (V.ref l) = (ys ++ [x]).map fun y => ((Sum.inr y : Key), V.ref (if y = x then l else ad y)) := by
  have e1 : (ys.map fun y => ((Sum.inr y : Key), V.ref (if y = x then l else ad y))) = ys.map fun y => ((Sum.inr y : Key), V.ref (ad y)) := List.map_congr_left fun y hy => by
    rw [if_neg (fun e => h (by rw [← e]; exact hy))]
  unfold putK
  rw [if_neg, List.map_append, e1, List.map_cons, List.map_nil, if_pos rfl]
  intro c
  obtain ⟨q, hq, e⟩ := List.any_eq_true.mp c
  obtain ⟨y, hy, rfl⟩ := List.mem_map.mp hq
  have := Sum.inr.inj (of_decide_eq_true e)
  exact h (by rw [← this]; exact hy)
theorem DL.get {H : Hp} {d : Addr} {xs : List Str} {ad : Str → Addr} {L : Str → List Str} (h : DL H d xs ad L) {x : Str} (hx : x ∈ xs) : DGet H d (.str x) (some (.ref (ad x))) := by
  have := DGet.k (k := Sum.inr x) h.d
  rw [valV_dl hx] at this
  exact this
theorem DL.keep {H H' : Hp} {d : Addr} {xs : List Str} {ad : Str → Addr} {L : Str → List Str} (h : DL H d xs ad L) (s : Same H H') : DL H' d xs ad L := ⟨s _ _ h.d, fun x hx => s _ _ (h.l x hx), h.inj⟩
/-- another thing is written -/
theorem DL.oth {H : Hp} {d l : Addr} {xs : List Str} {ad : Str → Addr} {L : Str → List Str} {o : HO} (h : DL H d xs ad L) (n1 : l ≠ d) (n2 : ∀ x ∈ xs, l ≠ ad x) : DL (upd H l o) d xs ad L :=
  ⟨by rw [upd_ne n1.symm]; exact h.d, fun x hx => by rw [upd_ne (n2 x hx).symm]; exact h.l x hx, h.inj⟩
theorem DL.ne {H : Hp} {d : Addr} {xs : List Str} {ad : Str → Addr} {L : Str → List Str} (h : DL H d xs ad L) {x : Str} (hx : x ∈ xs) : ad x ≠ d := fun e => by
  have h1 := h.l x hx
  rw [e, h.d] at h1
  cases h1
/-- an item more -/
def addL (L : Str → List Str) (x g : Str) : Str → List Str := fun y => if y = x then L x ++ [g] else L y
theorem DL.app {H : Hp} {d : Addr} {xs : List Str} {ad : Str → Addr} {L : Str → List Str} (h : DL H d xs ad L) {x : Str} (hx : x ∈ xs) (g : Str) : DL (upd H (ad x) (.lst ((L x).map V.str ++ [V.str g]))) d xs ad (addL L x g) := by
  refine ⟨by rw [upd_ne (h.ne hx).symm]; exact h.d, fun y hy => ?_, h.inj⟩
  unfold addL
  by_cases e : y = x
  · subst e; rw [upd_same, if_pos rfl, List.map_append]; rfl
  · rw [upd_ne (fun z => e (h.inj y hy x hx z)), if_neg e]; exact h.l y hy
/-- the pairs that are to be looked at -/
abbrev PR := List (Addr × Str × Str)
def PRs (K : PySem.W.Frag) (H : Hp) (T : PR) : Prop := ∀ q ∈ T, SqT K H q.1 [.str q.2.1, .str q.2.2]
theorem PRs.keep {K : PySem.W.Frag} {H H' : Hp} {T : PR} (h : PRs K H T) (t : Tup K H H') : PRs K H' T := fun q hq => t _ _ (h q hq)
abbrev refsR (T : PR) : List V := T.map fun q => V.ref q.1
/-! ### the closure, step by step -/
structure CL (R : List FRow) (xs : List Str) (L : Str → List Str) (T : List (Str × Str)) : Prop where
  td : ∀ q ∈ T, q.1 ∈ xs ∧ q.2 ∈ xs ∧ TC R q.1 q.2
  so : ∀ x ∈ xs, ∀ g ∈ L x, g ∈ xs ∧ TC R x g
  nd : ∀ x ∈ xs, (L x).Nodup
  ed : ∀ x g, Edge R x g → g ∈ L x ∨ (x, g) ∈ T
  cl : ∀ x ∈ xs, ∀ y ∈ xs, ∀ z, y ∈ L x → z ∈ L y → z ∈ L x ∨ (x, z) ∈ T
theorem CL.skip {R : List FRow} {xs : List Str} {L : Str → List Str} {T : List (Str × Str)} {x g : Str} (h : CL R xs L (T ++ [(x, g)])) (c : g ∈ L x) : CL R xs L T := by
  have un : ∀ {a b : Str}, (a, b) ∈ T ++ [(x, g)] → b ∈ L a ∨ (a, b) ∈ T := fun {a b} m => by
    rcases List.mem_append.mp m with z | z
    · exact .inr z
    · have := List.mem_singleton.mp z
      injection this with e1 e2
      rw [e1, e2]; exact .inl c
  exact ⟨fun q hq => h.td q (List.mem_append_left _ hq), h.so, h.nd, fun a b e => (h.ed a b e).elim .inl un, fun a ha b hb c' h1 h2 => (h.cl a ha b hb c' h1 h2).elim .inl un⟩
theorem CL.step {R : List FRow} {xs : List Str} {L : Str → List Str} {T : List (Str × Str)} {x g : Str} (h : CL R xs L (T ++ [(x, g)])) (c : g ∉ L x) {A B : List (Str × Str)}
    (hA : A = (addL L x g g).map fun f => (x, f)) (hB : B = (xs.filter fun f => decide (x ∈ addL L x g f)).map fun f => (f, g)) : CL R xs (addL L x g) (T ++ A ++ B) := by
  obtain ⟨xm, gm, tc⟩ := h.td (x, g) (List.mem_append_right _ List.mem_cons_self)
  have old : ∀ {a b : Str}, b ∈ L a → b ∈ addL L x g a := fun {a b} m => by
    unfold addL
    by_cases e : a = x
    · rw [if_pos e]; rw [e] at m; exact List.mem_append_left _ m
    · rw [if_neg e]; exact m
  have new : g ∈ addL L x g x := by unfold addL; rw [if_pos rfl]; exact List.mem_append_right _ List.mem_cons_self
  have inv : ∀ {a b : Str}, b ∈ addL L x g a → b ∈ L a ∨ (a = x ∧ b = g) := fun {a b} m => by
    unfold addL at m
    by_cases e : a = x
    · rw [if_pos e] at m
      rcases List.mem_append.mp m with z | z
      · rw [e]; exact .inl z
      · exact .inr ⟨e, List.mem_singleton.mp z⟩
    · rw [if_neg e] at m; exact .inl m
  have so' : ∀ a ∈ xs, ∀ b ∈ addL L x g a, b ∈ xs ∧ TC R a b := fun a ha b hb => by
    rcases inv hb with z | ⟨e1, e2⟩
    · exact h.so a ha b z
    · rw [e1, e2]; exact ⟨gm, tc⟩
  have un : ∀ {a b : Str}, (a, b) ∈ T ++ [(x, g)] → b ∈ addL L x g a ∨ (a, b) ∈ T ++ A ++ B := fun {a b} m => by
    rcases List.mem_append.mp m with z | z
    · exact .inr (List.mem_append_left _ (List.mem_append_left _ z))
    · have := List.mem_singleton.mp z
      injection this with e1 e2
      rw [e1, e2]; exact .inl new
  refine ⟨fun q hq => ?_, so', fun a ha => ?_, fun a b e => (h.ed a b e).elim (fun z => .inl (old z)) un, fun a ha b hb c' h1 h2 => ?_⟩
  · rcases List.mem_append.mp hq with z | z
    · rcases List.mem_append.mp z with z | z
      · exact h.td q (List.mem_append_left _ z)
      · rw [hA] at z
        obtain ⟨f, hf, rfl⟩ := List.mem_map.mp z
        obtain ⟨f1, f2⟩ := so' g gm f hf
        exact ⟨xm, f1, tc.trans f2⟩
    · rw [hB] at z
      obtain ⟨f, hf, rfl⟩ := List.mem_map.mp z
      obtain ⟨f1, f2⟩ := List.mem_filter.mp hf
      exact ⟨f1, gm, (so' f f1 x (of_decide_eq_true f2)).2.trans tc⟩
  · unfold addL
    by_cases e : a = x
    · rw [if_pos e]
      refine List.nodup_append.mpr ⟨h.nd x xm, List.nodup_cons.mpr ⟨List.not_mem_nil, List.nodup_nil⟩, fun u hu v hv e2 => ?_⟩
      rw [List.mem_singleton.mp hv] at e2
      rw [e2] at hu; exact c hu
    · rw [if_neg e]; exact h.nd a ha
  · rcases inv h1 with z1 | ⟨e1, e2⟩
    · rcases inv h2 with z2 | ⟨e3, e4⟩
      · exact (h.cl a ha b hb c' z1 z2).elim (fun z => .inl (old z)) un
      · refine .inr (List.mem_append_right _ ?_)
        rw [hB, e4]
        exact List.mem_map.mpr ⟨a, List.mem_filter.mpr ⟨ha, decide_eq_true (by rw [e3] at h1; exact h1)⟩, rfl⟩
    · refine .inr (List.mem_append_left _ (List.mem_append_right _ ?_))
      rw [hA, e1]
      exact List.mem_map.mpr ⟨c', by rw [e2] at h2; exact h2, rfl⟩
theorem CL.done {R : List FRow} {xs : List Str} {L : Str → List Str} (h : CL R xs L []) (rn : RowsN xs R) {x g : Str} (hx : x ∈ xs) : g ∈ L x ↔ TC R x g := by
  refine ⟨fun m => (h.so x hx g m).2, fun t => ?_⟩
  induction t with
  | single e => exact (h.ed _ _ e).elim id (fun z => nomatch z)
  | @tail b c t e ih =>
    have hb := TC.mem rn t
    have := (h.ed b c e).elim id (fun z => nomatch z)
    exact (h.cl x hx b hb c ih this).elim id (fun z => nomatch z)
/-- how many stand -/
def tot (xs : List Str) (L : Str → List Str) : Nat := (xs.map fun x => (L x).length).sum
theorem tot_le {xs : List Str} {L : Str → List Str} {n : Nat} (h : ∀ x ∈ xs, (L x).length ≤ n) : tot xs L ≤ xs.length * n := by
  unfold tot
  induction xs with
  | nil => simp
  | cons x xs ih =>
    rw [List.map_cons, List.sum_cons, List.length_cons, Nat.succ_mul]
    have h1 := h x List.mem_cons_self
    have h2 := ih fun y hy => h y (List.mem_cons_of_mem _ hy)
    omega
theorem tot_add {L : Str → List Str} {x g : Str} : ∀ {xs : List Str}, xs.Nodup → x ∈ xs → tot xs (addL L x g) = tot xs L + 1
  | y :: xs, nd, hx => by
    obtain ⟨n1, n2⟩ := List.nodup_cons.mp nd
    unfold tot
    rw [List.map_cons, List.sum_cons, List.map_cons, List.sum_cons]
    by_cases e : y = x
    · have e1 : (xs.map fun z => (addL L x g z).length) = xs.map fun z => (L z).length := List.map_congr_left fun z hz => by
        unfold addL
        rw [if_neg (fun w => n1 (by rw [e, ← w]; exact hz))]
      rw [e1]
      unfold addL
      rw [if_pos e, List.length_append, e]
      simp
      omega
    · have hx' : x ∈ xs := by
        rcases List.mem_cons.mp hx with z | z
        · exact absurd z.symm e
        · exact z
      have ih := tot_add (L := L) (x := x) (g := g) n2 hx'
      unfold tot at ih
      rw [ih]
      unfold addL
      rw [if_neg e]
      omega
theorem CL.len {R : List FRow} {xs : List Str} {L : Str → List Str} {T : List (Str × Str)} (h : CL R xs L T) {x : Str} (hx : x ∈ xs) : (L x).length ≤ xs.length :=
  List.Nodup.length_le_of_subset (h.nd x hx) fun g hg => (h.so x hx g hg).1
end HH
namespace HH
open PySem PySem.Spec PyProof.Rows L2 PySem.SeqAt
section
variable {K : PySem.W.Frag} {σ : L2.St} {tt tt1 : TT} {te tk tv : TE} {g g1 : TG} {wi1 : TI} {vs vs1 : List Nat}
theorem dc_itW {J : It} {n : Nat} {G : Hp → Prop} {Y : Nat → Hp → V → Hp → Prop} (w : Walk J n G Y) {H1 : Hp} {D : Addr} {Qd : Hp → Prop} (σ' : L2.St) (hw : wipe σ vs = σ') (Pv : Nat → Hp → Prop) (h0 : Pv 0 (upd H1 D (.dK []))) (hG : ∀ i H, i ≤ n → Pv i H → G H)
    (hs : ∀ i x H H', i < n → Pv i H → Y i H x H' → g x σ' H' fun σ2 H2 => wipe σ2 vs = σ' ∧ tt σ2 H2 fun b H3 =>
      if b = true then tk σ2 H3 fun y H4 => tv σ2 H4 fun z H5 => ∃ kvs k, y = kV k ∧ H5 D = some (.dK kvs) ∧ kvs.length < sizeLine ∧ Pv (i + 1) (upd H5 D (.dK (putK kvs k z))) else Pv (i + 1) H3) (hd : ∀ H, Pv n H → Qd H) :
    ∃ W : Nat → Nat → Hp → Prop, (∃ m, W 0 m (upd H1 D (.dK []))) ∧ ∀ i m H, W i m H →
      (J.stop i H ∧ Qd H) ∨ (J.go i H ∧ ∃ Nx : Hp → Prop, (∀ H', Nx H' → ∃ m', m' < m ∧ W (i + 1) m' H') ∧ ∀ x H', J.yld i H x H' → g x (wipe σ vs) H' fun σ2 H2 => wipe σ2 vs = wipe σ vs ∧ tt σ2 H2 fun b H3 =>
        if b = true then tk σ2 H3 fun y H4 => tv σ2 H4 fun z H5 => ∃ kvs k, y = kV k ∧ H5 D = some (.dK kvs) ∧ kvs.length < sizeLine ∧ Nx (upd H5 D (.dK (putK kvs k z))) else Nx H3) := by
  subst hw
  refine ⟨fun i m H => m = n - i ∧ i ≤ n ∧ Pv i H, ⟨n, by simp, Nat.zero_le _, h0⟩, ?_⟩
  rintro i m H ⟨rfl, hi, p⟩
  have q := hG i H hi p
  by_cases hlt : i < n
  · exact .inr ⟨w.goes i H hlt q, Pv (i + 1), fun H' p' => ⟨n - (i + 1), by omega, rfl, hlt, p'⟩, fun x H' y => hs i x H H' hlt p (w.yields i H x H' hlt q y)⟩
  · have e : i = n := by omega
    subst e
    exact .inl ⟨w.stops H q, hd H p⟩
theorem lc_itW {J : It} {n : Nat} {G : Hp → Prop} {Y : Nat → Hp → V → Hp → Prop} (w : Walk J n G Y) {H1 : Hp} {D : Addr} {Qd : Hp → Prop} (σ' : L2.St) (hw : wipe σ vs = σ') (Pv : Nat → Hp → Prop) (h0 : Pv 0 (upd H1 D (.lst []))) (hG : ∀ i H, i ≤ n → Pv i H → G H)
    (hs : ∀ i x H H', i < n → Pv i H → Y i H x H' → g x σ' H' fun σ2 H2 => wipe σ2 vs = σ' ∧ tt σ2 H2 fun b H3 =>
      if b = true then te σ2 H3 fun y H4 => ∃ acc, H4 D = some (.lst acc) ∧ acc.length < sizeLine ∧ Pv (i + 1) (upd H4 D (.lst (acc ++ [y]))) else Pv (i + 1) H3) (hd : ∀ H, Pv n H → Qd H) :
    ∃ W : Nat → Nat → Hp → Prop, (∃ m, W 0 m (upd H1 D (.lst []))) ∧ ∀ i m H, W i m H →
      (J.stop i H ∧ Qd H) ∨ (J.go i H ∧ ∃ Nx : Hp → Prop, (∀ H', Nx H' → ∃ m', m' < m ∧ W (i + 1) m' H') ∧ ∀ x H', J.yld i H x H' → g x (wipe σ vs) H' fun σ2 H2 => wipe σ2 vs = wipe σ vs ∧ tt σ2 H2 fun b H3 =>
        if b = true then te σ2 H3 fun y H4 => ∃ acc, H4 D = some (.lst acc) ∧ acc.length < sizeLine ∧ Nx (upd H4 D (.lst (acc ++ [y]))) else Nx H3) := by
  subst hw
  exact lc_it w Pv h0 hG hs hd
theorem rd_lc2 {σ : L2.St} {H : Hp} {Q : VK} {wi : TI} {g : TG} {tt : TT} {wi1 : TI} {g1 : TG} {tt1 : TT} {te : TE} {vs vs1 : List Nat} (h : wi σ H fun J H1 => ∀ D, H1 D = none → ∃ W : Nat → Nat → Hp → Prop, (∃ m, W 0 m (upd H1 D (.lst []))) ∧ ∀ i m H, W i m H →
  (J.stop i H ∧ Q (.ref D) H) ∨ (J.go i H ∧ ∃ Nx : Hp → Prop, (∀ H', Nx H' → ∃ m', m' < m ∧ W (i + 1) m' H') ∧ ∀ x H', J.yld i H x H' → g x (wipe σ vs) H' fun σ2 H2 => wipe σ2 vs = wipe σ vs ∧ tt σ2 H2 fun b H3 =>
    if b = true then wi1 σ2 H3 fun J1 H4 => ∃ W1 : Nat → Nat → Hp → Prop, (∃ m, W1 0 m H4) ∧ ∀ j k H, W1 j k H →
      (J1.stop j H ∧ Nx H) ∨ (J1.go j H ∧ ∃ Nx1 : Hp → Prop, (∀ H', Nx1 H' → ∃ k', k' < k ∧ W1 (j + 1) k' H') ∧ ∀ x H', J1.yld j H x H' → g1 x (wipe σ2 vs1) H' fun σ3 H5 => wipe σ3 vs1 = wipe σ2 vs1 ∧ tt1 σ3 H5 fun b H6 =>
        if b = true then te σ3 H6 fun y H7 => ∃ acc, H7 D = some (.lst acc) ∧ acc.length < sizeLine ∧ Nx1 (upd H7 D (.lst (acc ++ [y]))) else Nx1 H6)
    else Nx H3)) : tLc2 wi g tt wi1 g1 tt1 te vs vs1 σ H Q := h
/-- the inner for of two, over a tuple -/
theorem in_tup {b : Addr} {ys : List V} {D : Addr} {Nx : Hp → Prop} {σ2 : L2.St} {H4 : Hp} (σ'' : L2.St) (hw1 : wipe σ2 vs1 = σ'') (Pv : Nat → Hp → Prop) (h0 : Pv 0 H4) (hl : ∀ j H, Pv j H → SqT K H b ys)
    (hs : ∀ j y H, ys[j]? = some y → Pv j H → g1 y σ'' H fun σ3 H5 => wipe σ3 vs1 = σ'' ∧ tt1 σ3 H5 fun b H6 =>
      if b = true then te σ3 H6 fun y H7 => ∃ acc, H7 D = some (.lst acc) ∧ acc.length < sizeLine ∧ Pv (j + 1) (upd H7 D (.lst (acc ++ [y]))) else Pv (j + 1) H6) (hd : ∀ H, Pv ys.length H → Nx H) :
    ∃ W1 : Nat → Nat → Hp → Prop, (∃ m, W1 0 m H4) ∧ ∀ j k H, W1 j k H →
      ((Itt K b).stop j H ∧ Nx H) ∨ ((Itt K b).go j H ∧ ∃ Nx1 : Hp → Prop, (∀ H', Nx1 H' → ∃ k', k' < k ∧ W1 (j + 1) k' H') ∧ ∀ x H', (Itt K b).yld j H x H' → g1 x (wipe σ2 vs1) H' fun σ3 H5 => wipe σ3 vs1 = wipe σ2 vs1 ∧ tt1 σ3 H5 fun b H6 =>
        if b = true then te σ3 H6 fun y H7 => ∃ acc, H7 D = some (.lst acc) ∧ acc.length < sizeLine ∧ Nx1 (upd H7 D (.lst (acc ++ [y]))) else Nx1 H6) := by
  subst hw1
  refine ⟨fun i m H => m = ys.length - i ∧ i ≤ ys.length ∧ Pv i H, ⟨ys.length, by simp, Nat.zero_le _, h0⟩, ?_⟩
  rintro i m H ⟨rfl, hi, p⟩
  have q := hl i H p
  by_cases hlt : i < ys.length
  · refine .inr ⟨⟨ys, ys[i], q, by simp [hlt]⟩, Pv (i + 1), fun H' p' => ⟨ys.length - (i + 1), by omega, rfl, hlt, p'⟩, fun x H' y => ?_⟩
    obtain ⟨e, y⟩ := y
    subst e
    exact hs i x _ (y ys q) p
  · have e : i = ys.length := by omega
    subst e
    exact .inl ⟨⟨ys, q, Nat.le_refl _⟩, hd H p⟩
/-- the outer for of two, over a tuple -/
theorem lc2_tupW {a : Addr} {xs : List V} {H1 : Hp} {D : Addr} {Qd : Hp → Prop} (σ' : L2.St) (hw : wipe σ vs = σ') (Pv : Nat → Hp → Prop) (h0 : Pv 0 (upd H1 D (.lst []))) (hl : ∀ i H, i ≤ xs.length → Pv i H → SqT K H a xs)
    (hs : ∀ i x H, xs[i]? = some x → Pv i H → g x σ' H fun σ2 H2 => wipe σ2 vs = σ' ∧ tt σ2 H2 fun b H3 =>
      if b = true then wi1 σ2 H3 fun J1 H4 => ∃ W1 : Nat → Nat → Hp → Prop, (∃ m, W1 0 m H4) ∧ ∀ j k H, W1 j k H →
        (J1.stop j H ∧ Pv (i + 1) H) ∨ (J1.go j H ∧ ∃ Nx1 : Hp → Prop, (∀ H', Nx1 H' → ∃ k', k' < k ∧ W1 (j + 1) k' H') ∧ ∀ x H', J1.yld j H x H' → g1 x (wipe σ2 vs1) H' fun σ3 H5 => wipe σ3 vs1 = wipe σ2 vs1 ∧ tt1 σ3 H5 fun b H6 =>
          if b = true then te σ3 H6 fun y H7 => ∃ acc, H7 D = some (.lst acc) ∧ acc.length < sizeLine ∧ Nx1 (upd H7 D (.lst (acc ++ [y]))) else Nx1 H6)
      else Pv (i + 1) H3) (hd : ∀ H, Pv xs.length H → Qd H) :
    ∃ W : Nat → Nat → Hp → Prop, (∃ m, W 0 m (upd H1 D (.lst []))) ∧ ∀ i m H, W i m H →
      ((Itt K a).stop i H ∧ Qd H) ∨ ((Itt K a).go i H ∧ ∃ Nx : Hp → Prop, (∀ H', Nx H' → ∃ m', m' < m ∧ W (i + 1) m' H') ∧ ∀ x H', (Itt K a).yld i H x H' → g x (wipe σ vs) H' fun σ2 H2 => wipe σ2 vs = wipe σ vs ∧ tt σ2 H2 fun b H3 =>
        if b = true then wi1 σ2 H3 fun J1 H4 => ∃ W1 : Nat → Nat → Hp → Prop, (∃ m, W1 0 m H4) ∧ ∀ j k H, W1 j k H →
          (J1.stop j H ∧ Nx H) ∨ (J1.go j H ∧ ∃ Nx1 : Hp → Prop, (∀ H', Nx1 H' → ∃ k', k' < k ∧ W1 (j + 1) k' H') ∧ ∀ x H', J1.yld j H x H' → g1 x (wipe σ2 vs1) H' fun σ3 H5 => wipe σ3 vs1 = wipe σ2 vs1 ∧ tt1 σ3 H5 fun b H6 =>
            if b = true then te σ3 H6 fun y H7 => ∃ acc, H7 D = some (.lst acc) ∧ acc.length < sizeLine ∧ Nx1 (upd H7 D (.lst (acc ++ [y]))) else Nx1 H6)
        else Nx H3) := by
  subst hw
  refine ⟨fun i m H => m = xs.length - i ∧ i ≤ xs.length ∧ Pv i H, ⟨xs.length, by simp, Nat.zero_le _, h0⟩, ?_⟩
  rintro i m H ⟨rfl, hi, p⟩
  have q := hl i H hi p
  by_cases hlt : i < xs.length
  · refine .inr ⟨⟨xs, xs[i], q, by simp [hlt]⟩, Pv (i + 1), fun H' p' => ⟨xs.length - (i + 1), by omega, rfl, hlt, p'⟩, fun x H' y => ?_⟩
    obtain ⟨e, y⟩ := y
    subst e
    exact hs i x _ (y xs q) p
  · have e : i = xs.length := by omega
    subst e
    exact .inl ⟨⟨xs, q, Nat.le_refl _⟩, hd H p⟩
end
/-- the pairs at the beginning -/
def prs0 (R : List FRow) : List (Str × Str) := R.flatMap fun r => r.ps.map fun q => (r.nm, q.1)
theorem prs0_snoc (R : List FRow) {i : Nat} (h : i < R.length) : prs0 (R.take (i + 1)) = prs0 (R.take i) ++ R[i].ps.map fun q => (R[i].nm, q.1) := by
  unfold prs0
  rw [List.take_add_one, List.getElem?_eq_getElem h, Option.toList_some, List.flatMap_append]
  simp
theorem mem_prs0 {R : List FRow} {x g : Str} : (x, g) ∈ prs0 R ↔ Edge R x g := by
  unfold prs0 Edge
  rw [List.mem_flatMap]
  constructor
  · rintro ⟨r, hr, h⟩
    obtain ⟨q, hq, e⟩ := List.mem_map.mp h
    injection e with e1 e2
    exact ⟨r, hr, e1, by rw [← e2]; exact List.mem_map_of_mem hq⟩
  · rintro ⟨r, hr, rfl, h⟩
    obtain ⟨q, hq, rfl⟩ := List.mem_map.mp h
    exact ⟨r, hr, List.mem_map.mpr ⟨q, hq, rfl⟩⟩
theorem CL.begin {R : List FRow} {xs : List Str} (rn : RowsN xs R) : CL R xs (fun _ => []) (prs0 R) :=
  ⟨fun q hq => by have e := mem_prs0.mp hq; exact ⟨(e.mem rn).1, (e.mem rn).2, .single e⟩, (fun x hx g h => nomatch h), fun x hx => List.nodup_nil, fun x g e => .inr (mem_prs0.mpr e), (fun x hx y hy z h => nomatch h)⟩
theorem len_prs0 {R : List FRow} (h : R.length ≤ 20) (h2 : ∀ r ∈ R, r.ps.length ≤ 20) : ∀ i, (prs0 (R.take i)).length ≤ 20 * i
  | 0 => by simp [prs0]
  | i + 1 => by
    have ih := len_prs0 h h2 i
    by_cases hi : i < R.length
    · rw [prs0_snoc R hi, List.length_append, List.length_map]
      have := h2 _ (List.getElem_mem hi)
      omega
    · rw [List.take_of_length_le (by omega), ← List.take_of_length_le (l := R) (i := i) (by omega)]
      omega
theorem DL.zero {H : Hp} {d : Addr} (h : H d = some (.dK [])) (ad : Str → Addr) (L : Str → List Str) : DL H d [] ad L := ⟨h, by simp, by simp⟩
end HH
namespace HH
open PySem PySem.Spec PyProof.Rows L2 PySem.SeqAt
theorem ZT.wr {H : Hp} {a l : Addr} {xs ys : List V} {o : HO} (z : ZT H a xs) (h : H l = some (.lst ys)) : ZT (upd H l o) a xs := by
  obtain ⟨ob, c, e⟩ := z
  exact ⟨ob, c, by rw [upd_ne (fun w => by rw [w, h] at e; cases e)]; exact e⟩
def PZ (H : Hp) (L : PL) : Prop := ∀ q ∈ L, ZT H q.1 (q.2.map V.str) ∧ ∀ z ∈ q.2, Low z
theorem PZ.pls {K : PySem.W.Frag} {H : Hp} {L : PL} (h : PZ H L) : PLs K H L := fun q hq => ⟨(h q hq).1.seq, (h q hq).2⟩
theorem PZ.keep {H H' : Hp} {L : PL} (h : PZ H L) (s : Same H H') : PZ H' L := fun q hq => ⟨(h q hq).1.keep s, (h q hq).2⟩
theorem PZ.wr {H : Hp} {l : Addr} {ys : List V} {o : HO} {L : PL} (h : PZ H L) (hl : H l = some (.lst ys)) : PZ (upd H l o) L := fun q hq => ⟨(h q hq).1.wr hl, (h q hq).2⟩
theorem PZ.snoc {H : Hp} {L : PL} {q : Addr × List Str} (h : PZ H L) (z : ZT H q.1 (q.2.map V.str)) (l : ∀ y ∈ q.2, Low y) : PZ H (L ++ [q]) := fun x hx => by
  rcases List.mem_append.mp hx with e | e
  · exact h x e
  · rw [List.mem_singleton.mp e]; exact ⟨z, l⟩
theorem rd_inA {P : Program} {w : World} {K : PySem.W.Frag} {H : Hp} {Q : VK} {z : Str} {p : Addr} {xs : List Str} (hp : SqL K H p (xs.map V.str) ∨ SqT K H p (xs.map V.str)) (h : Q (.bl (decide (z ∈ xs))) H) : rInU P w K false (.str z) (.ref p) H Q :=
  .inl (.inl ⟨p, _, rfl, hp, rfl, flat_strs xs, by rw [inV_strs]; exact h⟩)
theorem erase_idx {α : Type} [DecidableEq α] {p : α} : ∀ {l : List α} {j : Nat}, (l.findIdx? fun y => decide (y = p)) = some j → l.eraseIdx j = l.erase p
  | [], j, h => by simp at h
  | a :: l, j, h => by
    rw [List.findIdx?_cons] at h
    by_cases e : a = p
    · rw [if_pos (decide_eq_true e)] at h
      obtain rfl := Option.some.inj h
      rw [e, List.erase_cons_head]; rfl
    · rw [if_neg (by simpa using e)] at h
      obtain ⟨k, hk, rfl⟩ := Option.map_eq_some_iff.mp h
      rw [List.eraseIdx_cons_succ, erase_idx hk, List.erase_cons_tail (by simpa using e)]
theorem find_some {α : Type} [DecidableEq α] {p : α} : ∀ {l : List α}, p ∈ l → ∃ j, (l.findIdx? fun y => decide (y = p)) = some j
  | a :: l, h => by
    rw [List.findIdx?_cons]
    by_cases e : a = p
    · exact ⟨0, by rw [if_pos (decide_eq_true e)]⟩
    · rw [if_neg (by simpa using e)]
      rcases List.mem_cons.mp h with z | z
      · exact absurd z.symm e
      · obtain ⟨j, hj⟩ := find_some z
        exact ⟨j + 1, by rw [hj]; rfl⟩
theorem map_filter2 {r : List Str → Bool} : ∀ (L : PL), (L.filter fun q => r q.2).map (·.2) = (L.map (·.2)).filter r
  | [] => rfl
  | q :: L => by
    rw [List.map_cons, List.filter_cons, List.filter_cons]
    by_cases c : r q.2 = true
    · rw [if_pos c, if_pos c, List.map_cons, map_filter2 L]
    · rw [if_neg c, if_neg c, map_filter2 L]
end HH
namespace HH
open PySem PySem.Spec PyProof.Rows L2 PySem.SeqAt
/-! ### the parts, as the lists tell them -/
def inPart (L : Str → List Str) (x o : Str) : Bool := decide (o = x) || (decide (o ∈ L x) && decide (x ∈ L o))
open Classical in
theorem part_B {r : Str → Str → Prop} {L : Str → List Str} {xs : List Str} (h : ∀ x ∈ xs, ∀ g, g ∈ L x ↔ r x g) {x : Str} (hx : x ∈ xs) : xs.filter (inPart L x) = partOf r xs x := by
  unfold partOf
  refine List.filter_congr fun o ho => ?_
  have e : (inPart L x o = true) ↔ (o = x ∨ (r x o ∧ r o x)) := by
    unfold inPart
    rw [Bool.or_eq_true, Bool.and_eq_true, decide_eq_true_eq, decide_eq_true_eq, decide_eq_true_eq, h x hx, h o ho]
  by_cases c : o = x ∨ (r x o ∧ r o x)
  · rw [e.mpr c]; exact (decide_eq_true (p := o = x ∨ (r x o ∧ r o x)) c).symm
  · rw [Bool.eq_false_iff.mpr (fun z => c (e.mp z))]; exact (decide_eq_false (p := o = x ∨ (r x o ∧ r o x)) c).symm
def rdB (L : Str → List Str) (pl p : List Str) : Bool := (L (hd p)).all fun g => decide (g ∈ pl) || decide (g ∈ p)
theorem rd_B {r : Str → Str → Prop} {L : Str → List Str} {xs : List Str} (h : ∀ x ∈ xs, ∀ g, g ∈ L x ↔ r x g) {pl p : List Str} (hp : hd p ∈ xs) : rdB L pl p = rdy r pl p := by
  have e : rdB L pl p = true ↔ rdy r pl p = true := by
    rw [rdy_iff]
    unfold rdB
    rw [List.all_eq_true]
    refine forall_congr' fun g => ?_
    rw [h _ hp, Bool.or_eq_true, decide_eq_true_eq, decide_eq_true_eq]
  cases c : rdB L pl p with
  | true => exact (e.mp c).symm
  | false =>
    cases c2 : rdy r pl p with
    | false => rfl
    | true => rw [e.mpr c2] at c; cases c
theorem filter_take {α : Type} (p : α → Bool) {l : List α} {i : Nat} (h : i < l.length) : (l.take (i + 1)).filter p = (l.take i).filter p ++ if p l[i] = true then [l[i]] else [] := by
  rw [List.take_add_one, List.getElem?_eq_getElem h, Option.toList_some, List.filter_append]
  congr 1
  rw [List.filter_cons]
  rfl
theorem rd_iOB {K : PySem.W.Frag} {σ : L2.St} {H0 H : Hp} {n : Nat} {a : Addr} {xs : List V} {R : It → Hp → Prop} (e : σ[n]? = some (some (V.ref a))) (s : Same H0 H) (h : SqL K H0 a xs ∨ SqT K H0 a xs)
    (k : ∀ (J : It) (G : Hp → Prop), (∀ H', Same H0 H' → G H') → Walk J xs.length G (YAt xs) → R J H) : iOr (iList K (tVar n)) (iTup K (tVar n)) σ H R := by
  rcases h with h | h
  · exact .inl ⟨_, e, a, rfl, ⟨xs, same_seq s h⟩, k _ _ (fun H' s => same_seq s h) walk_list⟩
  · exact .inr ⟨_, e, a, rfl, ⟨xs, same_tup s _ _ h⟩, k _ _ (fun H' s => same_tup s _ _ h) walk_tup⟩
theorem erase_idxB {α : Type} [BEq α] [LawfulBEq α] [DecidableEq α] {p : α} : ∀ {l : List α} {j : Nat}, (l.findIdx? fun y => decide (y = p)) = some j → l.eraseIdx j = l.erase p
  | [], j, h => by simp at h
  | a :: l, j, h => by
    rw [List.findIdx?_cons] at h
    by_cases e : a = p
    · rw [if_pos (decide_eq_true e)] at h
      obtain rfl := Option.some.inj h
      rw [e, List.erase_cons_head]; rfl
    · rw [if_neg (by simpa using e)] at h
      obtain ⟨k, hk, rfl⟩ := Option.map_eq_some_iff.mp h
      rw [List.eraseIdx_cons_succ, erase_idxB hk, List.erase_cons_tail (by simpa using e)]
theorem at_hd {p : List Str} (h : p ≠ []) : atI (p.map V.str) 0 = some (V.str (hd p)) := by
  cases p with
  | nil => exact absurd rfl h
  | cons a l => simp [atI, ixN, hd]
theorem rd_ninA {P : Program} {w : World} {K : PySem.W.Frag} {H : Hp} {Q : VK} {z : Str} {p : Addr} {xs : List Str} (hp : SqL K H p (xs.map V.str) ∨ SqT K H p (xs.map V.str)) (h : Q (.bl (!decide (z ∈ xs))) H) : rInU P w K true (.str z) (.ref p) H Q :=
  .inl (.inl ⟨p, _, rfl, hp, rfl, flat_strs xs, by rw [inV_strs]; exact h⟩)
theorem part_hd {r : Str → Str → Prop} {xs : List Str} {x : Str} (h : x ∈ xs) : hd (partOf r xs x) ∈ xs := (mem_part.mp (hd_mem (part_ne h))).1
theorem part_low {r : Str → Str → Prop} {xs : List Str} {x : Str} (h : ∀ y ∈ xs, Low y) : ∀ y ∈ partOf r xs x, Low y := fun y hy => h y (mem_part.mp hy).1
theorem part_len {r : Str → Str → Prop} {xs : List Str} {x : Str} : (partOf r xs x).length ≤ xs.length := List.length_filter_le _ _
end HH
namespace HH
open PySem PySem.Spec PyProof.Rows L2 PySem.SeqAt
/-! ### the closure, turn by turn -/
def PTh (R : List FRow) : Nat → Str → Str → Prop
  | 0 => Edge R
  | t + 1 => fun x g => PTh R t x g ∨ ∃ h, PTh R t x h ∧ Edge R h g
theorem PTh.zero {R : List FRow} : ∀ {t : Nat} {x g : Str}, Edge R x g → PTh R t x g
  | 0, _, _, e => e
  | t + 1, _, _, e => .inl (PTh.zero e)
theorem PTh.tc {R : List FRow} : ∀ {t : Nat} {x g : Str}, PTh R t x g → TC R x g
  | 0, _, _, e => .single e
  | t + 1, _, _, .inl e => PTh.tc e
  | t + 1, _, _, .inr ⟨_, e, f⟩ => .tail (PTh.tc e) f
open Classical in
theorem tc_pt {R : List FRow} {xs : List Str} (rn : RowsN xs R) {x g : Str} (h : TC R x g) : PTh R xs.length x g := by
  have key : ∀ t, (∀ g, TC R x g → PTh R t x g) ∨ t + 1 ≤ (xs.filter fun g => decide (PTh R t x g)).length := by
    intro t
    induction t with
    | zero =>
      by_cases c : ∃ g, Edge R x g
      · obtain ⟨g, e⟩ := c
        refine .inr (List.length_pos_of_mem (a := g) (List.mem_filter.mpr ⟨(e.mem rn).2, decide_eq_true e⟩))
      · refine .inl fun g t => False.elim ?_
        induction t with
        | single e => exact c ⟨_, e⟩
        | tail _ _ ih => exact ih
    | succ t ih =>
      rcases ih with ih | ih
      · exact .inl fun g h => .inl (ih g h)
      · by_cases c : ∀ g, PTh R (t + 1) x g → PTh R t x g
        · refine .inl fun g h => .inl ?_
          induction h with
          | single e => exact PTh.zero e
          | tail _ e ih2 => exact c _ (.inr ⟨_, ih2, e⟩)
        · obtain ⟨g, hg⟩ := Classical.not_forall.mp c
          have hg1 : PTh R (t + 1) x g := Classical.byContradiction fun z => hg fun w => absurd w z
          have hg2 : ¬ PTh R t x g := fun z => hg fun _ => z
          have := filter_lt (l := xs) (p := fun g => decide (PTh R t x g)) (q := fun g => decide (PTh R (t + 1) x g)) (fun y hy => decide_eq_true (.inl (of_decide_eq_true hy))) ⟨g, TC.mem rn (PTh.tc hg1), decide_eq_true hg1, decide_eq_false hg2⟩
          exact .inr (by omega)
  rcases key xs.length with k | k
  · exact k g h
  · have := List.length_filter_le (fun g => decide (PTh R xs.length x g)) xs
    omega
/-- what stands is right, and of each thing once -/
structure So (R : List FRow) (xs : List Str) (L : Str → List Str) : Prop where
  so : ∀ x ∈ xs, ∀ g ∈ L x, TC R x g
  nd : ∀ x ∈ xs, (L x).Nodup
def Mo (xs : List Str) (L L' : Str → List Str) : Prop := ∀ x ∈ xs, ∀ g ∈ L x, g ∈ L' x
theorem Mo.refl (xs : List Str) (L : Str → List Str) : Mo xs L L := fun _ _ _ h => h
theorem Mo.trans {xs : List Str} {L L' L'' : Str → List Str} (a : Mo xs L L') (b : Mo xs L' L'') : Mo xs L L'' := fun x hx g h => b x hx g (a x hx g h)
theorem Mo.add {xs : List Str} {L : Str → List Str} {x g : Str} : Mo xs L (addL L x g) := fun y _ h m => by
  unfold addL
  by_cases e : y = x
  · rw [if_pos e]; rw [e] at m; exact List.mem_append_left _ m
  · rw [if_neg e]; exact m
theorem mem_addL {L : Str → List Str} {x g : Str} : g ∈ addL L x g x := by unfold addL; rw [if_pos rfl]; exact List.mem_append_right _ List.mem_cons_self
theorem So.add {R : List FRow} {xs : List Str} {L : Str → List Str} {x g : Str} (s : So R xs L) (c : g ∉ L x) (t : TC R x g) : So R xs (addL L x g) := by
  refine ⟨fun y hy h m => ?_, fun y hy => ?_⟩
  · unfold addL at m
    by_cases e : y = x
    · subst e
      rw [if_pos rfl] at m
      rcases List.mem_append.mp m with z | z
      · exact s.so y hy h z
      · rw [List.mem_singleton.mp z]; exact t
    · rw [if_neg e] at m; exact s.so y hy h m
  · unfold addL
    by_cases e : y = x
    · subst e
      rw [if_pos rfl]
      refine List.nodup_append.mpr ⟨s.nd y hy, List.nodup_cons.mpr ⟨List.not_mem_nil, List.nodup_nil⟩, fun u hu v hv e2 => ?_⟩
      rw [List.mem_singleton.mp hv] at e2
      rw [e2] at hu; exact c hu
    · rw [if_neg e]; exact s.nd y hy
theorem So.len {R : List FRow} {xs : List Str} {L : Str → List Str} (s : So R xs L) (rn : RowsN xs R) {x : Str} (hx : x ∈ xs) : (L x).length ≤ xs.length :=
  List.Nodup.length_le_of_subset (s.nd x hx) fun g hg => TC.mem rn (s.so x hx g hg)
end HH
namespace HH
open PySem PySem.Spec PyProof.Rows L2 PySem.SeqAt
theorem DL.put {H : Hp} {d : Addr} {ys : List Str} {ad : Str → Addr} {L : Str → List Str} (D : DL H d ys ad L) {x : Str} {l : Addr} (hx : x ∉ ys) (nl : H l = none) :
    DL (upd (upd H l (.lst [])) d (.dK (putK (ys.map fun y => ((Sum.inr y : Key), V.ref (ad y))) (Sum.inr x) (V.ref l)))) d (ys ++ [x]) (fun y => if y = x then l else ad y) (fun y => if y = x then [] else L y) := by
  have dl : d ≠ l := ne_of_none D.d nl
  have cs : ∀ {u : Str}, u ∈ ys ++ [x] → u ≠ x → u ∈ ys := fun {u} m c => by
    rcases List.mem_append.mp m with z | z
    · exact z
    · exact absurd (List.mem_singleton.mp z) c
  refine ⟨by rw [upd_same, putK_dl hx], fun y hy => ?_, fun y hy z hz e => ?_⟩
  · skip
    by_cases c : y = x
    · rw [if_pos c, if_pos c, upd_ne dl.symm, upd_same]; rfl
    · rw [if_neg c, if_neg c, upd_ne (D.ne (cs hy c)), upd_ne (ne_of_none (D.l y (cs hy c)) nl)]
      exact D.l y (cs hy c)
  · skip
    by_cases cy : y = x
    · by_cases cz : z = x
      · rw [cy, cz]
      · rw [if_pos cy, if_neg cz] at e
        have := D.l z (cs hz cz)
        rw [← e, nl] at this
        cases this
    · by_cases cz : z = x
      · rw [if_neg cy, if_pos cz] at e
        have := D.l y (cs hy cy)
        rw [e, nl] at this
        cases this
      · rw [if_neg cy, if_neg cz] at e
        exact D.inj y (cs hy cy) z (cs hz cz) e
theorem take_succ {α : Type} {l : List α} {i : Nat} (h : i < l.length) : l.take (i + 1) = l.take i ++ [l[i]] := by
  rw [List.take_add_one, List.getElem?_eq_getElem h]; rfl
theorem nd_take {α : Type} {l : List α} {i : Nat} (nd : l.Nodup) (h : i < l.length) : l[i] ∉ l.take i := fun m => by
  obtain ⟨j, hj, e⟩ := List.getElem_of_mem m
  rw [List.length_take] at hj
  rw [List.getElem_take] at e
  exact (List.pairwise_iff_getElem.mp nd) j i (by omega) h (by omega) e
theorem prs0_other {R : List FRow} {k : Nat} (h : k < R.length) {x g : Str} (c : R[k].nm ≠ x) : (x, g) ∈ prs0 (R.take (k + 1)) ↔ (x, g) ∈ prs0 (R.take k) := by
  rw [prs0_snoc R h, List.mem_append]
  refine ⟨fun z => ?_, .inl⟩
  rcases z with z | z
  · exact z
  · obtain ⟨q, _, e⟩ := List.mem_map.mp z
    injection e with e1 _
    exact absurd e1 c
end HH
namespace HH
open PySem PySem.Spec PyProof.Rows L2 PySem.SeqAt
def inMore (L : Str → List Str) (x o : Str) : Bool := !decide (o = x) && (decide (o ∈ L x) && decide (x ∈ L o))
theorem part_sorted {r : Str → Str → Prop} {L : Str → List Str} {xs ys : List Str} (h : ∀ x ∈ xs, ∀ g, g ∈ L x ↔ r x g) (so : xs.Pairwise SLt) {x : Str} (hx : x ∈ xs) (pm : ys.Perm (x :: xs.filter (inMore L x))) (hs : sortedS ys = true) : ys = partOf r xs x := by
  rw [← part_B h hx]
  have nd : (x :: xs.filter (inMore L x)).Nodup := List.nodup_cons.mpr ⟨fun m => by
    have := (List.mem_filter.mp m).2
    unfold inMore at this
    simp at this, (strict_nodup so).filter _⟩
  refine strict_uniq (strict_of (sorted_pw hs) (pm.nodup_iff.mpr nd)) (so.filter _) fun z => ?_
  rw [pm.mem_iff, List.mem_cons, List.mem_filter, List.mem_filter]
  unfold inMore inPart
  constructor
  · rintro (e | ⟨m, e⟩)
    · rw [e]; exact ⟨hx, by simp⟩
    · refine ⟨m, ?_⟩
      rw [Bool.and_eq_true] at e
      rw [e.2, Bool.or_true]
  · rintro ⟨m, e⟩
    by_cases c : z = x
    · exact .inl c
    · refine .inr ⟨m, ?_⟩
      have c' : decide (z = x) = false := decide_eq_false c
      rw [c', Bool.false_or] at e
      rw [c', e]; rfl
theorem filter_not_snoc {α : Type} [BEq α] [LawfulBEq α] [DecidableEq α] {W F : List α} {p : α} (nd : W.Nodup) : (W.filter fun x => decide (x ∉ F ++ [p])) = (W.filter fun x => decide (x ∉ F)).erase p := by
  rw [List.Nodup.erase_eq_filter (nd.filter _), List.filter_filter]
  refine List.filter_congr fun x _ => ?_
  by_cases a : x = p
  · subst a; simp
  · by_cases b : x ∈ F <;> simp [a, b]
theorem zero_all {pl p l : List Str} : decide ((l.filter fun g => !decide (g ∈ p) && !decide (g ∈ pl)).length = 0) = l.all fun g => decide (g ∈ pl) || decide (g ∈ p) := by
  induction l with
  | nil => rfl
  | cons a l ih =>
    rw [List.filter_cons, List.all_cons, ← ih]
    by_cases h1 : a ∈ p <;> by_cases h2 : a ∈ pl <;> simp [h1, h2]
end HH
namespace HH
open PySem PySem.Spec PyProof.Rows L2 PySem.SeqAt
open Sem (wp)
/-! ### enumerate over a tuple -/
theorem enum_new1 {v : Value} {o : Obj} {S : Heap → Prop} (B : Begins v o S) :
    Meets (Builtin.«enumerate.__new__» ⟨[.type "enumerate", v], []⟩) (fun _ R s => S s.heap ∧
      R (.ok (.ret (.ref (s.heap.push o).objs.size))) { s with heap := (s.heap.push o).push { cls := .type "enumerate", data := .fields #[.none, .bool false, .ref s.heap.objs.size, rawInt 0, .none, .none] } }) :=
  .of_wp fun prog w A R s h => by
    obtain ⟨hp, g, d, tk, os⟩ := s
    obtain ⟨h1, h⟩ := h
    have hsub := sub_enumerate
    have q1 : ∀ {A' : Around} {E : Value → Shared → Prop} {Q : Value → Shared → Prop}, Q (.ref hp.objs.size) ⟨hp.push o, g, d, tk, os⟩ → wpAny (model prog w) A' (pyIter v) Q E ⟨hp, g, d, tk, os⟩ :=
      fun q => B.iter prog w _ _ ⟨hp, g, d, tk, os⟩ _ h1 q
    wp_walk using q1
    refine wpAny_stack_any fun st => wpAny_pure ?_
    split
    · rename_i c _ _ _ _ _
      cases (c == Value.type "enumerate") <;> (wp_walk using q1; exact ⟨_, rfl, h⟩)
    · wp_walk using q1
      exact ⟨_, rfl, h⟩
theorem call_enum_tup {prog : Program} {w : World} {A : Around} {E : Value → Shared → Prop} {s : Shared} {t : Addr} {items : Array Value} {Q : Value → Shared → Prop} (hT : s.heap.IsTuple t items)
    (h : ∀ h', IsEnum h' (s.heap.objs.size + 1) s.heap.objs.size 0 .none → h'.IsTupleIter s.heap.objs.size t 0 → h'.objs.size = s.heap.objs.size + 2 →
      (∀ b o, s.heap.get? b = some o → h'.get? b = some o) → Q (.ref (s.heap.objs.size + 1)) { s with heap := h' }) : wpAny (model prog w) A (call (.type "enumerate") [.ref t]) Q E s := by
  refine callType_new F.called_enumerate (by decide) (F.typeCall_enumerate_1 _) (F.newCall_enumerate_1 _) (fun obj => F.args_object_init_2 obj _) F.entry_enumerate_new
    (enum_new1 (begins_tuple t items)) ⟨hT, ?_⟩
  have hz : (s.heap.push { cls := .type "tuple_iterator", data := .fields #[.ref t, .int 0 0] }).objs.size = s.heap.objs.size + 1 := Heap.size_push ..
  show _ ∧ _
  rw [hz]
  have he : IsEnum ((s.heap.push { cls := .type "tuple_iterator", data := .fields #[.ref t, .int 0 0] }).push { cls := .type "enumerate", data := .fields #[.none, .bool false, .ref s.heap.objs.size, rawInt 0, .none, .none] }) (s.heap.objs.size + 1) s.heap.objs.size 0 .none := by
    have := Heap.get?_push_size (s.heap.push { cls := .type "tuple_iterator", data := .fields #[.ref t, .int 0 0] }) (o := { cls := .type "enumerate", data := .fields #[.none, .bool false, .ref s.heap.objs.size, rawInt 0, .none, .none] }) rfl
    rw [hz] at this; exact this
  exact ⟨⟨_, he, rfl⟩, h _ he ⟨_, Heap.get?_push_of_some _ (Heap.get?_push_size _ rfl), rfl, rfl⟩ (by rw [Heap.size_push, hz]) fun b o x => Heap.get?_push_of_some _ (Heap.get?_push_of_some _ x)⟩
/-- the tuple at a, each item in a new pair -/
def IteT (K : PySem.W.Frag) (a : Addr) : It :=
  ⟨fun i H => ∃ (xs : List V) (x : V), SqT K H a xs ∧ xs[i]? = some x, fun i H v H' => ∃ T x, v = .ref T ∧ H T = none ∧ H' = upd H T (.tup [.int (i : Nat), x]) ∧ ∀ xs, SqT K H a xs → xs[i]? = some x, fun i H => ∃ xs : List V, SqT K H a xs ∧ xs.length = i⟩
theorem turn_enumT {P : Program} {w : World} {K : PySem.W.Frag} {elts : List Expr} {kk : Nat} {tpos : Pos} (a e it : Addr) (hai : a ≠ it) :
    Turn P w K (.Tuple elts kk tpos) (IteT K a) [e, it] e (fun i h => (∃ old, IsEnum h e it ((i : Nat) : Int) old) ∧ h.IsTupleIter it a i ∧ e ≠ it ∧ e ≠ a) where
  mem := by simp
  obj := fun i h st b hb => by
    obtain ⟨⟨old, he⟩, ⟨o, ho, hc, hd⟩, _⟩ := st
    have e' : b = e ∨ b = it := by simpa using hb
    rcases e' with z | z
    · rw [z]; exact ⟨_, he, fun v q => nomatch q⟩
    · rw [z]; exact ⟨o, ho, fun v q => by rw [hd] at q; cases q⟩
  keep := fun i h h' st k => let ⟨⟨old, he⟩, hi, hne⟩ := st; ⟨⟨old, k e (by simp) _ he⟩, hi.at fun o q => k it (by simp) o q, hne⟩
  item := by
    intro X hP hw hK hc i pins s σ H E I hf st hg
    subst hP hw hK
    obtain ⟨⟨old, he⟩, hit, hne, hea⟩ := st
    obtain ⟨xs, x, hq, hx⟩ := hg
    obtain ⟨its, rv, p, hz⟩ := I.tuple hq
    obtain ⟨u, hu, ru⟩ := rv.get hx
    have hel : e < s.heap.objs.size := Heap.lt_size he
    have hlt : i < its.toArray.size := by
      rw [List.size_toArray]
      exact (List.getElem?_eq_some_iff.mp hu).1
    have D := Draws.tuple (prog := X.prog) (w := X.w) (A := X.A.in1) (I.ok.hd hc) it a hai its.toArray
    refine wpAny_pyNext_enum_itemC D he ⟨hit, p⟩ hlt hne (by simp [hne, hea]) fun x' h' tk hP ho hst' hT hsz hk => ?_
    obtain rfl : x' = u := by
      have h1 : its.toArray[i]? = some u := by simpa using hu
      exact Option.some.inj (hP.symm.trans h1)
    have hit' := hst'.1
    refine ⟨_, rfl, wpAny_letOwnedTupleGo_enum (s := { s with heap := h', toks := tk + 1 }) ho fun h'' he' sb => ?_⟩
    have hT2 : h''.get? s.heap.objs.size = some { cls := .type "tuple", data := .seq #[.int i tk, x'] } := (sb.2 _ (Nat.ne_of_gt hel)).trans hT
    have new : ObjOk X.prog X.w (upd H s.heap.objs.size (.tup [.int (i : Nat), x])) h'' s.heap.objs.size (.tup [.int (i : Nat), x]) :=
      ⟨by show 2 ≤ sizeLine; decide, [.int i tk, x'], .cons ⟨_, rfl⟩ (.cons ru .nil), ⟨_, hT2, rfl, _, rfl⟩⟩
    have I1 : Inv X pins σ (upd H s.heap.objs.size (.tup [.int (i : Nat), x])) { s with heap := h'', toks := tk + 1 } :=
      I.turnedNew (ch := [e, it]) (fun b ob hb q => (sb.2 b (fun z => hb (by simp [z]))).trans (hk b ob (fun z => hb (by simp [z])) (fun z => hb (by simp [z])) q)) hf (Nat.le_refl _) new
    refine ⟨.ref s.heap.objs.size, _, I1, rfl, ⟨_, x, rfl, I.hok.fresh (Nat.le_refl _), rfl, fun ys hy => by rw [I.tuple_inj hy hq]; exact hx⟩, ⟨⟨x', ?_⟩, hit'.at fun o q => (sb.2 it (Ne.symm hne)).trans q, hne, hea⟩, fun b hb => ?_⟩
    · have e1 : ((i + 1 : Nat) : Int) = (i : Int) + 1 := by omega
      rw [e1]; exact he'
    · have hb' : b < s.heap.objs.size := by
        have e' : b = e ∨ b = it := by simpa using hb
        rcases e' with z | z
        · rw [z]; exact hel
        · rw [z]; exact (let ⟨_, q, _⟩ := hit; Heap.lt_size q)
      rw [upd_ne (Nat.ne_of_lt hb')]
      exact (hf b hb).1
  done := by
    intro X hP hw hK hc i pins s σ H E I hf st hg
    subst hP hw hK
    obtain ⟨⟨old, he⟩, hit, hne, hea⟩ := st
    obtain ⟨xs, hq, hx⟩ := hg
    obtain ⟨its, rv, p, hz⟩ := I.tuple hq
    obtain ⟨f0, f1, f2, f3, f4, f5⟩ := hf it (by simp)
    have hl := rv.length
    have D := Draws.tuple (prog := X.prog) (w := X.w) (A := X.A.in1) (I.ok.hd hc) it a hai its.toArray
    have en : i = its.toArray.size := by rw [List.size_toArray]; omega
    subst en
    exact wpAny_pyNext_enum_endD D he ⟨hit, p⟩ fun h' eb => ⟨rfl, I.turned (t' := s.toks) (fun b o hb q => eb b o hb q) f0 f1 f3 f4 f5⟩
  self := fun A i s Q E st h => let ⟨⟨_, he⟩, _⟩ := st; wpAny_pyIter_enum he h
def iEnumT (K : PySem.W.Frag) (ta : TA) : TI := fun σ H R => ta σ H fun vs H1 => ∃ a xs, vs = [.ref a] ∧ SqT K H1 a xs ∧ R (IteT K a) H1
theorem pi_enumT {K : PySem.W.Frag} {X : Cx} {e : Expr} {ta : TA} {p pos tpos : Pos} {elts : List Expr} {kk : Nat} (hg : Gl X "enumerate") (hm : X.mg "enumerate" = none) (ha : PA X [e] ta) (hX : X.K = K := by rfl) (hs : starEach [e] X.env = [(false, eval e X.env)] := by rfl) :
    PI X (.Tuple elts kk tpos) (.Call (.Name "enumerate" p) [e] [] pos) (iEnumT K ta) := by
  subst hX
  refine ⟨fun pins s σ H R I h => ?_⟩
  refine Call_ (ld_blt I hg hm boot_enumerate (PyProof.Rows.callWith_type1 (thn (ha.run pos pins s σ H _ I h) fun us s1 ⟨vs, H1, I1, r1, q1⟩ => ?_) hs rfl))
  obtain ⟨a, xs, ex, hq, q⟩ := q1
  subst ex
  cases r1 with
  | cons r rr =>
    cases rr
    cases r
    obtain ⟨its, rv, p', hz⟩ := I1.tuple hq
    have hla : a < s1.heap.objs.size := by obtain ⟨o, ho, _⟩ := p'; exact Heap.lt_size ho
    refine call_enum_tup p' fun h' he hit hsz hk => wpAny_pyIter_enum he ?_
    have I2 : Inv X pins σ H1 { s1 with heap := h' } := I1.kept (t' := s1.toks) hk
    refine ⟨s1.heap.objs.size + 1, [s1.heap.objs.size + 1, s1.heap.objs.size], _, _, H1, rfl, I2, turn_enumT a (s1.heap.objs.size + 1) s1.heap.objs.size (Nat.ne_of_lt hla), ⟨⟨.none, he⟩, hit, Nat.succ_ne_self _, Nat.ne_of_gt (Nat.lt_succ_of_lt hla)⟩, fun b hb => ?_, q⟩
    have e' : b = s1.heap.objs.size + 1 ∨ b = s1.heap.objs.size := by simpa using hb
    have hle : s1.heap.objs.size ≤ b := by
      rcases e' with z | z
      · rw [z]; exact Nat.le_add_right _ _
      · rw [z]; exact Nat.le_refl _
    exact I1.fpOk hle (I1.hok.fresh hle)
theorem walk_enumT {K : PySem.W.Frag} {a : Addr} {xs : List V} : Walk (IteT K a) xs.length (fun H => SqT K H a xs) (YPair (fun i => some (.int (i : Nat))) (fun i => xs[i]?)) := by
  refine ⟨fun i _ hi q => ⟨xs, xs[i], q, by simp [hi]⟩, fun _ q => ⟨xs, q, rfl⟩, fun i H v H' _ q y => ?_⟩
  obtain ⟨T, x, h1, h2, h3, h4⟩ := y
  exact ⟨T, .int (i : Nat), x, h1, h2, h3, rfl, h4 xs q⟩
end HH
namespace HH
open PySem PySem.Spec PyProof.Rows L2 PySem.SeqAt
theorem rd_iEnumT {K : PySem.W.Frag} {ta : TA} {σ : L2.St} {H : Hp} {R : It → Hp → Prop} (h : ta σ H fun vs H1 => ∃ a xs, vs = [.ref a] ∧ SqT K H1 a xs ∧ R (IteT K a) H1) : iEnumT K ta σ H R := h
end HH
namespace HH
open PySem PySem.Spec PyProof.Rows L2 PySem.SeqAt
/-! ### tables keyed by a word, a name and a product -/
abbrev Wt := List ((Bool × Str × Tab) × Int)
def encW (q : Bool × Str × Tab) : NestedKey := .tup [.text (wordK q.1), .text q.2.1, prodK q.2.2]
theorem wordK_inj {a b : Bool} (h : wordK a = wordK b) : a = b := by
  cases a <;> cases b <;> first | rfl | exact absurd h (by decide)
theorem encW_inj {a b : Bool × Str × Tab} (h : encW a = encW b) : a = b := by
  unfold encW at h
  injection h with h
  injection h with h1 h2
  injection h2 with h2 h3
  injection h3 with h3 _
  injection h1 with h1
  injection h2 with h2
  exact Prod.ext (wordK_inj h1) (Prod.ext h2 (prodK_inj h3))
theorem depth_encW (q : Bool × Str × Tab) : (encW q).depth ≤ 8 := by
  have := prodK_depth q.2.2
  simp only [encW, NestedKey.depth, NestedKey.depthAll]
  omega
def wtV (m : Wt) : List (NestedKey × V) := encV encW m
theorem wtV_len (m : Wt) : (wtV m).length = m.length := List.length_map _
theorem valV_wt (m : Wt) (z : Bool × Str × Tab) : valV (wtV m) (encW z) = (tget m z).map V.int := valV_enc encW (fun _ _ h => encW_inj h) m z
theorem putK_wt (m : Wt) (z : Bool × Str × Tab) (n : Int) : putK (wtV m) (encW z) (V.int n) = wtV (tput m z n) := putK_enc encW (fun _ _ h => encW_inj h) m z n
theorem getD_wt (m : Wt) (z : Bool × Str × Tab) : (valV (wtV m) (encW z)).getD (V.int 0) = V.int ((tget m z).getD 0) := by
  rw [valV_wt]
  cases tget m z <;> rfl
theorem key_wt {K : PySem.W.Frag} {H : Hp} {b : Bool} {nm : Str} {ps : Tab} {t u : Addr} (hu : H u = some (.tup [.str (wordK b), .str nm, .ref t])) (h : IsK K H (prodK ps) (.ref t)) : KeyAt K H (encW (b, nm, ps)) (.ref u) :=
  ⟨u, rfl, ⟨u, _, rfl, sqt hu, _, _, rfl, rfl, _, _, rfl, rfl, _, _, rfl, h, rfl⟩, depth_encW _⟩
theorem nx_atW {xs : NX} {m : Wt} (e : kvX xs = wtV m) {i : Nat} {q : NestedKey × Addr × V} (h : xs[i]? = some q) : ∃ z, m[i]? = some z ∧ q.1 = encW z.1 := by
  have h1 : (kvX xs)[i]? = some (q.1, q.2.2) := by unfold kvX; rw [List.getElem?_map, h]; rfl
  rw [e] at h1
  unfold wtV encV at h1
  rw [List.getElem?_map] at h1
  cases hm : m[i]? with
  | none => rw [hm] at h1; cases h1
  | some z =>
    rw [hm] at h1
    have := Option.some.inj h1
    exact ⟨z, rfl, (congrArg Prod.fst this).symm⟩
theorem nx_lenW {xs : NX} {m : Wt} (e : kvX xs = wtV m) : xs.length = m.length := by
  have := congrArg List.length e
  rw [wtV_len] at this
  rw [← this]; unfold kvX; rw [List.length_map]
theorem encW_at {K : PySem.W.Frag} {H : Hp} {z : Bool × Str × Tab} {v : V} (h : IsK K H (encW z) v) : ∃ a t, v = .ref a ∧ SqT K H a [.str (wordK z.1), .str z.2.1, .ref t] ∧ IsK K H (prodK z.2.2) (.ref t) := by
  obtain ⟨a, vs, rfl, s, ⟨x0, r0, rfl, h0, x1, r1, rfl, h1, x2, r2, rfl, h2, hr⟩⟩ := h
  obtain rfl : x0 = .str _ := h0
  obtain rfl : x1 = .str _ := h1
  obtain rfl : r2 = [] := hr
  obtain ⟨t, _, rfl, _⟩ := id h2
  exact ⟨a, t, rfl, s, h2⟩
def rowsW (m : Wt) : List FRow := m.map fun q => ⟨q.1.1, q.1.2.1, (tget m q.1).getD 0, q.1.2.2⟩
theorem rowsW_len (m : Wt) : (rowsW m).length = m.length := List.length_map _
/-- the things of such a table -/
def WOk (xs : List Str) (m : Wt) : Prop := ∀ q ∈ m, q.1.2.1 ∈ xs ∧ (∀ p ∈ q.1.2.2, p.1 ∈ xs) ∧ q.1.2.2.length ≤ 10
theorem WOk.put {xs : List Str} {m : Wt} (h : WOk xs m) {z : Bool × Str × Tab} (n : Int) (h1 : z.2.1 ∈ xs) (h2 : ∀ p ∈ z.2.2, p.1 ∈ xs) (h3 : z.2.2.length ≤ 10) : WOk xs (tput m z n) := fun q hq => by
  rcases mem_tput hq with r | r
  · exact h q r
  · rw [r]; exact ⟨h1, h2, h3⟩
end HH
namespace HH
open PySem PySem.Spec PyProof.Rows L2 PySem.SeqAt
def bt2 (o : Str → Str → Bool) (x y : Str) : Nat → Nat → Bool := fun i j => o (if i = 0 then x else y) (if j = 0 then x else y)
theorem vs2 {x y : Str} {t u : Tok} {i : Nat} {v : Value} (h : (#[Value.str x t, Value.str y u] : Array Value)[i]? = some v) : ∃ z k, v = .str z k ∧ (z = x ∨ z = y) ∧ z = if i = 0 then x else y := by
  match i, h with
  | 0, h => exact ⟨x, t, (Option.some.inj h).symm, .inl rfl, rfl⟩
  | 1, h => exact ⟨y, u, (Option.some.inj h).symm, .inr rfl, rfl⟩
  | i + 2, h => simp at h
theorem min_two_strs {prog : Program} {w : World} {A : Around} {E : Value → Shared → Prop} {s : Shared} {Q : Value → Shared → Prop} {x y : Str} {t u : Tok} (hh : A.handled = none)
    (h : ∀ z k h' tk, z = x ∨ z = y → (∀ c o, s.heap.get? c = some o → h'.get? c = some o) → Q (.str z k) { s with heap := h', toks := tk }) :
    wpAny (model prog w) A (call (.builtin "min") [.str x t, .str y u]) Q E s := by
  have hT : (s.heap.push { cls := .type "tuple", data := .seq #[.str x t, .str y u] }).IsTuple s.heap.objs.size #[.str x t, .str y u] := ⟨_, Heap.get?_push_size _ rfl, rfl, 0, rfl⟩
  refine call_min_two (wpAny_pyIter_tuple hT ?_)
  have hsz : (s.heap.push { cls := .type "tuple", data := .seq #[.str x t, .str y u] }).objs.size = s.heap.objs.size + 1 := Heap.size_push ..
  refine ⟨_, [_, s.heap.objs.size], [_], _, _, _, bt2 (fun a b => decide (a.cps.toList < b.cps.toList)) x y, rfl, Walks.tuple (A := A.in1) hh _ s.heap.objs.size (by rw [hsz]; exact Nat.ne_of_lt (Nat.lt_succ_self _)) #[.str x t, .str y u],
    ⟨⟨_, Heap.get?_push_size _ rfl, rfl, rfl⟩, hT.push _⟩, fun c hc => ?_, by simp, fun i j vi vj s Q E hi hj hQ => ?_, fun v h' tk hP hk => ?_⟩
  · show c < ((s.heap.push _).push _).objs.size
    rw [Heap.size_push, hsz]
    rcases List.mem_cons.mp hc with rfl | hc
    · rw [hsz]; exact Nat.lt_succ_self _
    · rcases List.mem_cons.mp hc with rfl | hc
      · exact Nat.lt_succ_of_lt (Nat.lt_succ_self _)
      · cases hc
  · obtain ⟨z1, k1, rfl, _, e1⟩ := vs2 hi
    obtain ⟨z2, k2, rfl, _, e2⟩ := vs2 hj
    unfold bt2 at hQ
    rw [← e1, ← e2] at hQ
    exact richCompare_gives (op := .Lt) (typeIs_str s z1 k1) (typeIs_str s z2 k2) F.slot_str_lt F.entry_str_lt (F.args_str_lt_2 _ _) (gives_str_lt z1 z2 k1 k2) (fun e => nomatch e) hQ
  · have hold : ∀ c o, s.heap.get? c = some o → h'.get? c = some o := fun c o e => by
      refine hk c o (fun hm => ?_) (Heap.get?_push_of_some _ (Heap.get?_push_of_some _ e))
      rcases List.mem_cons.mp hm with e1 | hm
      · have := Heap.lt_size e; rw [e1, hsz] at this; exact Nat.lt_irrefl _ (Nat.lt_of_succ_lt this)
      · cases hm
    obtain ⟨z, k, rfl, hz, _⟩ := vs2 hP
    exact h z k h' tk hz hold
theorem max_two_strs {prog : Program} {w : World} {A : Around} {E : Value → Shared → Prop} {s : Shared} {Q : Value → Shared → Prop} {x y : Str} {t u : Tok} (hh : A.handled = none)
    (h : ∀ z k h' tk, z = x ∨ z = y → (∀ c o, s.heap.get? c = some o → h'.get? c = some o) → Q (.str z k) { s with heap := h', toks := tk }) :
    wpAny (model prog w) A (call (.builtin "max") [.str x t, .str y u]) Q E s := by
  have hT : (s.heap.push { cls := .type "tuple", data := .seq #[.str x t, .str y u] }).IsTuple s.heap.objs.size #[.str x t, .str y u] := ⟨_, Heap.get?_push_size _ rfl, rfl, 0, rfl⟩
  refine call_max_two (wpAny_pyIter_tuple hT ?_)
  have hsz : (s.heap.push { cls := .type "tuple", data := .seq #[.str x t, .str y u] }).objs.size = s.heap.objs.size + 1 := Heap.size_push ..
  refine ⟨_, [_, s.heap.objs.size], [_], _, _, _, bt2 (fun a b => decide (b.cps.toList < a.cps.toList)) x y, rfl, Walks.tuple (A := A.in1) hh _ s.heap.objs.size (by rw [hsz]; exact Nat.ne_of_lt (Nat.lt_succ_self _)) #[.str x t, .str y u],
    ⟨⟨_, Heap.get?_push_size _ rfl, rfl, rfl⟩, hT.push _⟩, fun c hc => ?_, by simp, fun i j vi vj s Q E hi hj hQ => ?_, fun v h' tk hP hk => ?_⟩
  · show c < ((s.heap.push _).push _).objs.size
    rw [Heap.size_push, hsz]
    rcases List.mem_cons.mp hc with rfl | hc
    · rw [hsz]; exact Nat.lt_succ_self _
    · rcases List.mem_cons.mp hc with rfl | hc
      · exact Nat.lt_succ_of_lt (Nat.lt_succ_self _)
      · cases hc
  · obtain ⟨z1, k1, rfl, _, e1⟩ := vs2 hi
    obtain ⟨z2, k2, rfl, _, e2⟩ := vs2 hj
    unfold bt2 at hQ
    rw [← e1, ← e2] at hQ
    exact richCompare_gives (op := .Gt) (typeIs_str s z1 k1) (typeIs_str s z2 k2) F.slot_str_gt F.entry_str_gt (F.args_str_gt_2 _ _) (gives_str_gt z1 z2 k1 k2) (fun e => nomatch e) hQ
  · have hold : ∀ c o, s.heap.get? c = some o → h'.get? c = some o := fun c o e => by
      refine hk c o (fun hm => ?_) (Heap.get?_push_of_some _ (Heap.get?_push_of_some _ e))
      rcases List.mem_cons.mp hm with e1 | hm
      · have := Heap.lt_size e; rw [e1, hsz] at this; exact Nat.lt_irrefl _ (Nat.lt_of_succ_lt this)
      · cases hm
    obtain ⟨z, k, rfl, hz, _⟩ := vs2 hP
    exact h z k h' tk hz hold
def rPick2 : List V → Hp → VK → Prop := fun xs H Q => ∃ x y, xs = [.str x, .str y] ∧ ∀ z, z = x ∨ z = y → Q (.str z) H
theorem cr_min2S {X : Cx} (hc : X.calm = true) : CallR X (.builtin "min") rPick2 := by
  intro pins s σ H xs us Q I r h
  obtain ⟨i, j, rfl, q⟩ := h
  obtain ⟨u, w', rfl, ⟨t, rfl⟩, ⟨t', rfl⟩⟩ := vals2 r
  exact min_two_strs (I.ok.hd hc) fun z k h' tk hz kp => ⟨.str z, H, I.kept kp, ⟨_, rfl⟩, q z hz⟩
theorem cr_max2S {X : Cx} (hc : X.calm = true) : CallR X (.builtin "max") rPick2 := by
  intro pins s σ H xs us Q I r h
  obtain ⟨i, j, rfl, q⟩ := h
  obtain ⟨u, w', rfl, ⟨t, rfl⟩, ⟨t', rfl⟩⟩ := vals2 r
  exact max_two_strs (I.ok.hd hc) fun z k h' tk hz kp => ⟨.str z, H, I.kept kp, ⟨_, rfl⟩, q z hz⟩
end HH
namespace HH
open PySem PySem.Spec PyProof.Rows L2 PySem.SeqAt
/-! ### a dict of nested keys, its keys' addresses known -/
def NdX (P : Program) (w : World) (K : PySem.W.Frag) (H : Hp) (d : Addr) (xs : NX) : Prop := H d = some (NdO P w d xs) ∧ ∀ x ∈ xs, IsK K H x.1 (.ref x.2.1) ∧ x.1.depth ≤ 8
theorem NdX.nd {P : Program} {w : World} {K : PySem.W.Frag} {H : Hp} {d : Addr} {xs : NX} (h : NdX P w K H d xs) : NdAt P w K H d (kvX xs) := ⟨xs, h.1, rfl, h.2⟩
theorem NdX.keep {P : Program} {w : World} {K : PySem.W.Frag} {H H' : Hp} {d : Addr} {xs : NX} (n : NdX P w K H d xs) (s : ∀ o, H d = some o → H' d = some o) (t : Tup K H H') : NdX P w K H' d xs := ⟨s _ n.1, fun x hx => ⟨(n.2 x hx).1.keep t, (n.2 x hx).2⟩⟩
section
variable {X : Cx} {td ty tv : TE} {o i value : Expr} {pos pos' : Pos}
theorem nd_setItemX {pins : List (Addr × Obj)} {σ : L2.St} {H : Hp} {s : Shared} {d : Addr} {xs : NX} {k : NestedKey} {b : Addr} {v : V} {r : Value} {A : Around} {E : Value → Shared → Prop} {Q : Unit → Shared → Prop} (hu : A.units + 20 < cLine) (I : Inv X pins σ H s) (n : NdX X.prog X.w X.K H d xs) (ik : IsK X.K H k (.ref b)) (dep : k.depth ≤ 8) (hl : xs.length < sizeLine) (rv : RelV v r)
    (h : ∀ s', Inv X pins σ (upd H d (NdO X.prog X.w d (putX xs k b v))) s' → Q () s') : wpAny (model X.prog X.w) A (setItem (.ref d) (.ref b) r) Q E s := by
  obtain ⟨e, hk⟩ := n
  obtain ⟨z, hd, ys, rel, dd⟩ := nd_of I e hk
  have hz : ys.length ≤ sizeLine := by rw [← rel.length]; exact z
  refine wpAny_setItem_heap (hsz := hz) (room_nd hu) (ik.key I dep) dd fun h' dd' hs => h _ (nd_write I e hs ?_ hd (rel.put k b rv) dd')
  have := putX_len xs k b v
  omega
def sNPutX (P : Program) (w : World) (K : PySem.W.Frag) (td ty tv : TE) : TS := fun D σ H => tv σ H fun v H1 => td σ H1 fun x H2 => ty σ H2 fun y H3 => ∃ d xs k b, x = .ref d ∧ y = .ref b ∧ NdX P w K H3 d xs ∧ IsK K H3 k (.ref b) ∧ k.depth ≤ 8 ∧ xs.length < sizeLine ∧ D.nx σ (upd H3 d (NdO P w d (putX xs k b v)))
theorem ps_nputX {P : Program} {w : World} {K : PySem.W.Frag} (hu : X.A.units + 20 < cLine) (ho : PE X o td) (hi : PE X i ty) (hv : PE X value tv) (hs : swapsWith value (some (.Subscript o i pos')) pos.line X.env = pure false) (hX : X.prog = P ∧ X.w = w ∧ X.K = K := by exact ⟨rfl, rfl, rfl⟩) :
    PS X (.Assign [.Subscript o i pos'] value pos) (sNPutX P w K td ty tv) := by
  obtain ⟨rfl, rfl, rfl⟩ := hX
  refine ⟨fun pins s σ H D I h => ?_⟩
  refine wpAny_Assign_Subscript (thn (hv.run pins s σ H _ I h) fun r s1 ⟨v, H1, I1, rv, q1⟩ => thn (ho.run pins s1 σ H1 _ I1 q1) fun u s2 ⟨x, H2, I2, rx, q2⟩ => thn (hi.run pins s2 σ H2 _ I2 q2) fun iv s3 ⟨y, H3, I3, ry, d, xs, k, b, ex, ey, n, ik, dep, l, q3⟩ => ?_) hs
  subst ex ey
  obtain rfl : u = Value.ref d := rx
  obtain rfl : iv = Value.ref b := ry
  exact nd_setItemX hu I3 n ik dep l rv fun s4 I4 => ⟨σ, _, I4, q3⟩
theorem rd_nputX {P : Program} {w : World} {K : PySem.W.Frag} {D : Ends} {σ : L2.St} {H : Hp} (h : tv σ H fun v H1 => td σ H1 fun x H2 => ty σ H2 fun y H3 => ∃ d xs k b, x = .ref d ∧ y = .ref b ∧ NdX P w K H3 d xs ∧ IsK K H3 k (.ref b) ∧ k.depth ≤ 8 ∧ xs.length < sizeLine ∧ D.nx σ (upd H3 d (NdO P w d (putX xs k b v)))) : sNPutX P w K td ty tv D σ H := h
theorem map_kvX (xs : NX) : (kvX xs).map (·.1) = xs.map (·.1) := by unfold kvX; rw [List.map_map]; rfl
theorem refs_in {xs : NX} (kf : Value → NestedKey) : ∀ {zs : List V} {us : List Value}, Vals zs us → (∀ u ∈ us, ∃ x ∈ xs, u = Value.ref x.2.1 ∧ kf u = x.1) → ∃ bl : List (NestedKey × Addr), zs = bl.map (fun q => V.ref q.2) ∧ us.map kf = bl.map (·.1) ∧ ∀ q ∈ bl, ∃ x ∈ xs, q.1 = x.1 ∧ q.2 = x.2.1
  | [], _, .nil, _ => ⟨[], rfl, rfl, by simp⟩
  | z :: zs, u :: us, .cons r t, h => by
    obtain ⟨x, hx, eu, ek⟩ := h u List.mem_cons_self
    subst eu
    obtain ⟨bl, rfl, e2, hbs⟩ := refs_in kf t fun u hu => h u (List.mem_cons_of_mem _ hu)
    have ez : z = V.ref x.2.1 := by
      cases z with
      | ref a => exact congrArg V.ref (Value.ref.inj (show Value.ref x.2.1 = Value.ref a from r)).symm
      | non => exact nomatch (show Value.ref x.2.1 = Value.none from r)
      | bl k => exact nomatch (show Value.ref x.2.1 = Value.bool k from r)
      | int k => obtain ⟨_, e⟩ := (show ∃ t, Value.ref x.2.1 = Value.int k t from r); cases e
      | str k => obtain ⟨_, e⟩ := (show ∃ t, Value.ref x.2.1 = Value.str k t from r); cases e
      | byt k => obtain ⟨_, e⟩ := (show ∃ t, Value.ref x.2.1 = Value.bytes k t from r); cases e
      | flt k => obtain ⟨_, e⟩ := (show ∃ t, Value.ref x.2.1 = Value.float k t from r); cases e
      | ty k => exact nomatch (show Value.ref x.2.1 = Value.type k from r)
    rw [ez]
    refine ⟨(x.1, x.2.1) :: bl, rfl, by rw [List.map_cons, List.map_cons, ek, e2], fun q hq => ?_⟩
    rcases List.mem_cons.mp hq with e | e
    · rw [e]; exact ⟨x, hx, rfl, rfl⟩
    · exact hbs q e
theorem rel_get : ∀ {xs : NX} {ys : List (NestedKey × Addr × Value)} {j : Nat} {y : NestedKey × Addr × Value}, NdRel xs ys → ys[j]? = some y → ∃ x ∈ xs, x.1 = y.1 ∧ x.2.1 = y.2.1
  | [], [], j, y, _, h => by simp at h
  | [], _ :: _, _, _, r, _ => by unfold NdRel at r; cases r
  | _ :: _, [], _, _, r, _ => by unfold NdRel at r; cases r
  | x :: xs, y :: ys, j, z, r, h => by
    unfold NdRel at r
    cases r with
    | cons h0 t =>
      obtain ⟨e1, e2, _⟩ := h0
      cases j with
      | zero =>
        obtain rfl : y = z := by simpa using h
        exact ⟨x, List.mem_cons_self, e1.symm ▸ rfl, e2.symm ▸ rfl⟩
      | succ j =>
        obtain ⟨x', hx', e⟩ := rel_get (xs := xs) (ys := ys) t (by simpa using h)
        exact ⟨x', List.mem_cons_of_mem _ hx', e⟩
/-- sorted(d): the keys as they stood in d -/
def rSortNX (P : Program) (w : World) (K : PySem.W.Frag) : List V → Hp → VK → Prop := fun vs H Q => ∃ (d : Addr) (xs : NX), vs = [.ref d] ∧ NdX P w K H d xs ∧ (∀ a ∈ xs.map (·.1), ∀ b ∈ xs.map (·.1), cmK a b = true) ∧
  ∀ (bl : List (NestedKey × Addr)) (p : Addr), (bl.map (·.1)).Perm (xs.map (·.1)) → (bl.map (·.1)).Pairwise (fun a b => ltK b a = false) → IsKs K H (bl.map (·.1)) (bl.map fun q => V.ref q.2) → (∀ q ∈ bl, ∃ x ∈ xs, q.1 = x.1 ∧ q.2 = x.2.1) → H p = none → Q (.ref p) (upd H p (.lst (bl.map fun q => V.ref q.2)))
theorem cr_sortNX {P : Program} {w : World} {K : PySem.W.Frag} (hu : X.A.units + 20 < cLine) (hcalm : X.calm = true) (hX : X.prog = P ∧ X.w = w ∧ X.K = K := by exact ⟨rfl, rfl, rfl⟩) : CallR X (.builtin "sorted") (rSortNX P w K) := by
  obtain ⟨rfl, rfl, rfl⟩ := hX
  intro pins s σ H vs us Q I r q
  obtain ⟨d, xs, rfl, ⟨e, hk⟩, cm, q⟩ := q
  obtain ⟨u, eu, rx⟩ := vals1 r
  subst eu
  cases rx
  obtain ⟨z, lo, ys, rel, dd⟩ := nd_of I e hk
  obtain ⟨o, es, ep, ho, hex, hda, hes, hall, hnd⟩ := id dd
  have raw : s.heap.DictRaw d es ep := ⟨o, ho, hex, hda⟩
  have esz : es.size = ys.length := size_of_entries hes
  have h16 : es.size ≤ sizeLine := by rw [esz, ← rel.length]; exact z
  refine Calls.call_function_entry PyProof.Rows.kind_sorted PyProof.Rows.plain_sorted PyProof.Rows.entry_sorted (PyProof.Rows.args_sorted1 _) ?_
  unfold Builtin.«sorted»
  refine wpAny_bind (m := checkCount "sorted" 1 1 _) (wpAny_pure ?_)
  refine wpAny_bind (PySem.W.kdu_collect (A := X.A.in1) (PySem.KdlSrc.rawDict (es := es) (ep := ep) lo) (I.ok.hd hcalm) raw h16 fun h' tk acc hkp hacc => ?_)
  have hal : acc.toList.length = ys.length := by rw [Array.length_toList, hacc.1, esz]
  obtain ⟨ik, rv⟩ := nd_keys I (us := acc.toList) rel hk hal fun j v ej => by
    obtain ⟨hi, ev⟩ := hacc.2 j v (by rw [← Array.getElem?_toList]; exact ej)
    have hj : j < ys.length := by omega
    refine ⟨ys[j], List.getElem?_eq_getElem hj, ?_⟩
    have en := entry_at (knd := nestedKind X.prog X.w) hes j
    rw [List.getElem?_eq_getElem hj, Option.map_some, Array.getElem?_eq_getElem hi] at en
    rw [ev, Option.some.inj en]
    rfl
  have I1 : Inv X pins σ H { s with heap := h', toks := tk } := I.kept hkp
  have keq : (kvX xs).map (·.1) = ys.map (·.1) := by
    rw [← rel.keys]; unfold kvX; rw [List.map_map]; rfl
  have dep : NestedKey.depthAll (ys.map (·.1)) ≤ 8 := depthAll_le fun k hk' => by
    rw [← rel.keys] at hk'
    obtain ⟨x, hx, ex⟩ := List.mem_map.mp hk'
    rw [← ex]; exact (hk x hx).2
  refine wpAny_bind (wpAny_newList ?_ (by rw [hal, ← esz]; exact h16))
  have hoL : (h'.push (seqObj "list" acc.toList.toArray 0)).get? h'.objs.size = some (seqObj "list" acc.toList.toArray 0) := Heap.get?_push_size _ rfl
  show wpAny _ _ _ _ _ { s with heap := h'.push (seqObj "list" acc.toList.toArray 0), toks := tk }
  have I2 : Inv X pins σ H { s with heap := h'.push (seqObj "list" acc.toList.toArray 0), toks := tk } := I1.kept (t' := tk) fun b o e => Heap.get?_push_of_some _ e
  have da := IsKs.dis I2 _ _ _ ik rv
  refine wpAny_bind (wpAny_holding (wpAny_call_entry PyProof.Rows.slot_list_sort ⟨_, hoL, rfl⟩ PyProof.Rows.entry_list_sort
    (list_sort_keys (s := { s with heap := h'.push (seqObj "list" acc.toList.toArray 0), toks := tk }) hoL (by rw [hal, ← esz]; exact h16) da (by rw [← keq, map_kvX]; exact cm) (by show X.A.units + 1 + 1 + _ < _; omega) fun out hs hp => ⟨_, rfl, ?_⟩)
    (PyProof.Rows.args_list_sort _)))
  obtain ⟨ls, zs, k1, k2, k3⟩ := back_keys (K := X.K) (H := H) (h := h'.push (seqObj "list" acc.toList.toArray 0)) (out := out) fun u hu => by
    obtain ⟨k, v, _, b, c, e⟩ := triples ik rv da u (hp.mem_iff.mp hu)
    exact ⟨k, v, b, c, e⟩
  have sold : ∀ b o, h'.get? b = some o → (sortedHeap (h'.push (seqObj "list" acc.toList.toArray 0)) h'.objs.size acc.toList out.toArray).get? b = some o := fun b o h1 => by
    have hlt := Heap.lt_size h1
    rw [sortedHeap_old (Nat.ne_of_lt hlt) (by rw [size_push']; exact Nat.lt_succ_of_lt hlt)]
    exact Heap.get?_push_of_some _ h1
  obtain ⟨n, hn⟩ := sortedHeap_at (out := out.toArray) hoL
  have km := keys_map da
  have ad : ∀ u ∈ acc.toList, ∃ x ∈ xs, u = Value.ref x.2.1 ∧ keyOf (h'.push (seqObj "list" acc.toList.toArray 0)) u = x.1 := fun u hu => by
    obtain ⟨j, hj, ej⟩ := List.getElem_of_mem hu
    have hj' : j < ys.length := by omega
    obtain ⟨hi, ev⟩ := hacc.2 j u (by rw [← Array.getElem?_toList, List.getElem?_eq_getElem hj, ej])
    have en := entry_at (knd := nestedKind X.prog X.w) hes j
    rw [List.getElem?_eq_getElem hj', Option.map_some, Array.getElem?_eq_getElem hi] at en
    obtain ⟨x, hx, x1, x2⟩ := rel_get rel (List.getElem?_eq_getElem hj')
    refine ⟨x, hx, by rw [ev, Option.some.inj en, x2]; rfl, ?_⟩
    have := congrArg (fun l => l[j]?) km
    simp only [List.getElem?_map, List.getElem?_eq_getElem hj, List.getElem?_eq_getElem hj', Option.map_some] at this
    rw [x1, ← ej]
    exact Option.some.inj this
  obtain ⟨bl, rfl, eb, hbl⟩ := refs_in (keyOf (h'.push (seqObj "list" acc.toList.toArray 0))) k2 fun u hu => ad u (hp.mem_iff.mp hu)
  have k3' : ls = bl.map (·.1) := by rw [k3]; exact eb
  rw [k3'] at k1
  refine wpAny_pure ⟨_, rfl, ⟨.ref h'.objs.size, _, I1.laid (a := h'.objs.size) (o := .lst (bl.map fun q => V.ref q.2)) (t' := tk) sold (Nat.le_refl _) ⟨by rw [k2.length, hp.length_eq, hal, ← esz]; exact h16, out, n, k2, hn⟩, rfl, q bl _ ?_ ?_ k1 hbl (I1.hok.fresh (Nat.le_refl _))⟩⟩
  · rw [← k3', k3, ← map_kvX, keq, ← keys_map da]
    exact hp.map _
  · rw [← k3', k3]
    exact List.pairwise_map.mpr hs
end
end HH
namespace HH
open PySem PySem.Spec PyProof.Rows L2 PySem.SeqAt
/-! ### tables keyed by products -/
abbrev Gt := List (Tab × Int)
def gV (m : Gt) : List (NestedKey × V) := encV prodK m
theorem gV_len (m : Gt) : (gV m).length = m.length := List.length_map _
theorem gV_keys (m : Gt) : (gV m).map (·.1) = (m.map (·.1)).map prodK := by simp [gV, encV]
theorem valV_g (m : Gt) (z : Tab) : valV (gV m) (prodK z) = (tget m z).map V.int := valV_enc prodK (fun _ _ h => prodK_inj h) m z
theorem putK_g (m : Gt) (z : Tab) (n : Int) : putK (gV m) (prodK z) (V.int n) = gV (tput m z n) := putK_enc prodK (fun _ _ h => prodK_inj h) m z n
theorem getD_g (m : Gt) (z : Tab) : (valV (gV m) (prodK z)).getD (V.int 0) = V.int ((tget m z).getD 0) := by
  rw [valV_g]
  cases tget m z <;> rfl
def sumF {α : Type} (f : α → Int) : List (α × Int) → Int
  | [] => 0
  | q :: t => q.2 * f q.1 + sumF f t
theorem sumF_app {α : Type} (f : α → Int) (a b : List (α × Int)) : sumF f (a ++ b) = sumF f a + sumF f b := by
  induction a with
  | nil => simp [sumF]
  | cons q r ih => simp only [List.cons_append, sumF, ih]; omega
theorem sumF_acc {α : Type} [DecidableEq α] (f : α → Int) (z : α) (c : Int) : ∀ {t : List (α × Int)}, (t.map (·.1)).Nodup → sumF f (tput t z ((tget t z).getD 0 + c)) = sumF f t + c * f z := by
  intro t nd
  by_cases hz : z ∈ t.map (·.1)
  · unfold tput
    rw [if_pos hz]
    induction t with
    | nil => cases hz
    | cons q t ih =>
      obtain ⟨n1, n2⟩ := List.nodup_cons.mp nd
      rw [List.map_cons]
      by_cases e : q.1 = z
      · have id1 : ∀ {l : List (α × Int)} (n : Int), z ∉ l.map (·.1) → l.map (fun q => if q.1 = z then (q.1, n) else q) = l := fun {l} n hn => by
          refine (List.map_congr_left fun q hq => ?_).trans (List.map_id l)
          exact if_neg fun e => hn (by rw [← e]; exact List.mem_map_of_mem hq)
        rw [id1 _ (by rw [← e]; exact n1), if_pos e, tget_cons_pos e]
        show (q.2 + c) * f q.1 + sumF f t = q.2 * f q.1 + sumF f t + c * f z
        rw [e, Int.add_mul]
        omega
      · have hz' : z ∈ t.map (·.1) := by
          rcases List.mem_cons.mp hz with w | w
          · exact absurd w.symm e
          · exact w
        rw [if_neg e, tget_cons_neg e]
        show q.2 * f q.1 + sumF f _ = q.2 * f q.1 + sumF f t + c * f z
        rw [ih n2 hz']
        omega
  · unfold tput
    rw [if_neg hz, tget_none hz, sumF_app]
    simp [sumF]
theorem sumF_perm {α : Type} (f : α → Int) {a b : List (α × Int)} (p : a.Perm b) : sumF f a = sumF f b := by
  induction p with
  | nil => rfl
  | cons x _ ih => simp only [sumF, ih]
  | swap x y l => simp only [sumF]; omega
  | trans _ _ h1 h2 => exact h1.trans h2
/-- the sum that a table says -/
def smOf (t : Gt) : Sm := t.map fun q => (q.2, q.1)
theorem worth_smOf (m : Tab) (t : Gt) : worthS m (smOf t) = sumF (worthP m) t := by
  induction t with
  | nil => rfl
  | cons q r ih =>
    show q.2 * worthP m q.1 + worthS m (smOf r) = _
    rw [ih]; rfl
/-- how heavy a sum is -/
def wgt : Sm → Int
  | [] => 0
  | q :: r => q.1 + wgt r
theorem wgt_app (a b : Sm) : wgt (a ++ b) = wgt a + wgt b := by
  induction a with
  | nil => simp [wgt]
  | cons q r ih => simp only [List.cons_append, wgt, ih]; omega
theorem wgt_smOf (t : Gt) : wgt (smOf t) = sumF (fun _ => 1) t := by
  induction t with
  | nil => rfl
  | cons q r ih =>
    show q.2 + wgt (smOf r) = _
    rw [ih]; simp [sumF]
theorem wgt_nn {S : Sm} (h : ∀ q ∈ S, 1 ≤ q.1) : 0 ≤ wgt S := by
  induction S with
  | nil => exact Int.le_refl _
  | cons q r ih =>
    have := ih fun x hx => h x (List.mem_cons_of_mem _ hx)
    have := h q List.mem_cons_self
    simp only [wgt]; omega
/-- these terms, told in order, each product once -/
structure Gath (S G : Sm) : Prop where
  nd : (G.map (·.2)).Nodup
  so : (G.map fun q => prodK q.2).Pairwise fun a b => ltK b a = false
  mem : ∀ ps, ps ∈ G.map (·.2) ↔ ps ∈ S.map (·.2)
  co : (∀ q ∈ S, 1 ≤ q.1) → ∀ q ∈ G, 1 ≤ q.1
  wo : ∀ m, worthS m G = worthS m S
  wg : wgt G = wgt S
/-- while it is gathered -/
structure Gi (S : Sm) (t : Gt) : Prop where
  nd : (t.map (·.1)).Nodup
  mem : ∀ ps, ps ∈ t.map (·.1) ↔ ps ∈ S.map (·.2)
  co : (∀ q ∈ S, 1 ≤ q.1) → ∀ q ∈ t, 1 ≤ q.2
  su : ∀ f : Tab → Int, sumF f t = sumF f (S.map fun q => (q.2, q.1))
theorem Gi.nil : Gi [] [] := ⟨List.nodup_nil, by simp, by simp, fun _ => rfl⟩
theorem Gi.len {S : Sm} {t : Gt} (g : Gi S t) : t.length ≤ S.length := by
  have := List.Nodup.length_le_of_subset g.nd (fun y hy => (g.mem y).mp hy)
  rwa [List.length_map, List.length_map] at this
theorem Gi.step {S : Sm} {t : Gt} (g : Gi S t) (c : Int) (ps : Tab) : Gi (S ++ [(c, ps)]) (tput t ps ((tget t ps).getD 0 + c)) := by
  refine ⟨tput_nodup g.nd, fun z => ?_, fun h q hq => ?_, fun f => ?_⟩
  · rw [tput_keys, List.map_append, List.mem_append, List.map_cons, List.map_nil, List.mem_singleton, ← g.mem z]
    split
    · rename_i hm
      exact ⟨.inl, fun w => w.elim id fun e => by rw [e]; exact hm⟩
    · rw [List.mem_append, List.mem_singleton]
  · have h1 : ∀ q ∈ S, 1 ≤ q.1 := fun q hq => h q (List.mem_append_left _ hq)
    have h2 : (1 : Int) ≤ c := h (c, ps) (List.mem_append_right _ List.mem_cons_self)
    rcases mem_tput hq with e | e
    · exact g.co h1 q e
    · rw [e]
      show 1 ≤ (tget t ps).getD 0 + c
      cases ht : tget t ps with
      | none => simpa using h2
      | some n =>
        have := g.co h1 _ (tget_mem ht)
        show 1 ≤ n + c
        have : 1 ≤ n := this
        omega
  · rw [sumF_acc f ps c g.nd, g.su f, List.map_append, sumF_app]
    simp [sumF]
theorem worth_swap (m : Tab) (S : Sm) : worthS m S = sumF (worthP m) (S.map fun q => (q.2, q.1)) := by
  induction S with
  | nil => rfl
  | cons q r ih => simp only [worthS, List.map_cons, sumF, ih]
theorem wgt_swap (S : Sm) : wgt S = sumF (fun _ => 1) (S.map fun q => (q.2, q.1)) := by
  induction S with
  | nil => rfl
  | cons q r ih => simp only [wgt, List.map_cons, sumF, ih]; omega
theorem Gi.done {S : Sm} {t t' : Gt} (g : Gi S t) (p : t'.Perm t) (so : ((t'.map (·.1)).map prodK).Pairwise fun a b => ltK b a = false) : Gath S (smOf t') := by
  have e1 : (smOf t').map (·.2) = t'.map (·.1) := by unfold smOf; rw [List.map_map]; rfl
  refine ⟨by rw [e1]; exact (p.map _).nodup_iff.mpr g.nd, ?_, fun ps => ?_, fun h q hq => ?_, fun m => ?_, ?_⟩
  · have : ((smOf t').map fun q => prodK q.2) = (t'.map (·.1)).map prodK := by unfold smOf; rw [List.map_map, List.map_map]; rfl
    rw [this]; exact so
  · rw [e1, (p.map _).mem_iff]; exact g.mem ps
  · obtain ⟨x, hx, rfl⟩ := List.mem_map.mp hq
    exact g.co h x (p.mem_iff.mp hx)
  · rw [worth_smOf, sumF_perm _ p, g.su, worth_swap]
  · rw [wgt_smOf, sumF_perm _ p, g.su, wgt_swap]
/-! ### terms whose products' objects are known -/
def TermZ (K : PySem.W.Frag) (H : Hp) (q : Int × Tab) (v : V) : Prop := ∃ t p, v = .ref t ∧ SqT K H t [.int q.1, .ref p] ∧ IsZ K H q.2 p
def TermsZ (K : PySem.W.Frag) (H : Hp) : Sm → List V → Prop
  | [], vs => vs = []
  | q :: S, vs => ∃ v r, vs = v :: r ∧ TermZ K H q v ∧ TermsZ K H S r
theorem IsZ.keep {K : PySem.W.Frag} {H H' : Hp} {ps : Tab} {a : Addr} (z : IsZ K H ps a) (s : Same H H') : IsZ K H' ps a := by
  obtain ⟨as, h1, h2⟩ := z
  exact ⟨as, h1.keep s, IsKs.keep (same_tup s) _ _ h2⟩
theorem TermZ.keep {K : PySem.W.Frag} {H H' : Hp} {q : Int × Tab} {v : V} (z : TermZ K H q v) (s : Same H H') : TermZ K H' q v := by
  obtain ⟨t, p, e, h1, h2⟩ := z
  exact ⟨t, p, e, same_tup s _ _ h1, h2.keep s⟩
theorem TermsZ.keep {K : PySem.W.Frag} {H H' : Hp} (s : Same H H') : ∀ {S : Sm} {vs : List V}, TermsZ K H S vs → TermsZ K H' S vs
  | [], _, h => h
  | _ :: _, _, ⟨v, r, e, h1, h2⟩ => ⟨v, r, e, h1.keep s, TermsZ.keep s h2⟩
theorem TermsZ.len {K : PySem.W.Frag} {H : Hp} : ∀ {S : Sm} {vs : List V}, TermsZ K H S vs → vs.length = S.length
  | [], _, h => by rw [show _ = [] from h]; rfl
  | _ :: _, _, ⟨v, r, e, _, h2⟩ => by rw [e, List.length_cons, List.length_cons, TermsZ.len h2]
theorem TermsZ.get {K : PySem.W.Frag} {H : Hp} : ∀ {S : Sm} {vs : List V} {i : Nat} {v : V} (h : TermsZ K H S vs) (hi : i < S.length), vs[i]? = some v → TermZ K H S[i] v
  | _ :: _, _, 0, v, ⟨v', r, e, h1, _⟩, _, hv => by
    subst e
    obtain rfl : v' = v := by simpa using hv
    exact h1
  | _ :: _, _, i + 1, v, ⟨v', r, e, _, h2⟩, hi, hv => by
    subst e
    exact TermsZ.get h2 (by simpa using hi) (by simpa using hv)
theorem TermsZ.app {K : PySem.W.Frag} {H : Hp} {T : Sm} {us : List V} (h2 : TermsZ K H T us) : ∀ {S : Sm} {vs : List V}, TermsZ K H S vs → TermsZ K H (S ++ T) (vs ++ us)
  | [], _, h => by rw [show _ = [] from h]; exact h2
  | _ :: _, _, ⟨v, r, e, h1, h3⟩ => ⟨v, r ++ us, by rw [e]; rfl, h1, TermsZ.app h2 h3⟩
end HH
namespace HH
open PySem PySem.Spec PyProof.Rows L2 PySem.SeqAt
theorem NdX.put {P : Program} {w : World} {K : PySem.W.Frag} {H : Hp} {d : Addr} {xs : NX} (n : NdX P w K H d xs) {k : NestedKey} {b : Addr} (ik : IsK K H k (.ref b)) (dep : k.depth ≤ 8) (v : V) : NdX P w K (upd H d (NdO P w d (putX xs k b v))) d (putX xs k b v) := by
  refine ⟨upd_same, fun x hx => ?_⟩
  have t := nd_tup (K := K) (u := NdO P w d (putX xs k b v)) n.1
  rcases mem_putX hx with ⟨z, hz, e1, e2⟩ | ⟨e1, e2⟩
  · rw [e1, e2]
    exact ⟨(n.2 z hz).1.keep t, (n.2 z hz).2⟩
  · rw [e1, e2]
    exact ⟨ik.keep t, dep⟩
/-- tuples, and what is known of their objects, stay -/
def KZ (K : PySem.W.Frag) (H H' : Hp) : Prop := Tup K H H' ∧ ∀ a xs, ZT H a xs → ZT H' a xs
theorem KZ.same {K : PySem.W.Frag} {H H' : Hp} (s : Same H H') : KZ K H H' := ⟨same_tup s, fun _ _ z => z.keep s⟩
theorem KZ.trans {K : PySem.W.Frag} {H H1 H2 : Hp} (a : KZ K H H1) (b : KZ K H1 H2) : KZ K H H2 := ⟨a.1.trans b.1, fun x ys z => b.2 x ys (a.2 x ys z)⟩
theorem KZ.wr {K : PySem.W.Frag} {H : Hp} {l : Addr} {ys zs : List V} (h : H l = some (.lst ys)) : KZ K H (upd H l (.lst zs)) := ⟨tup_upd h (fun _ z => nomatch z) (fun _ _ z => nomatch z), fun _ _ z => z.wr h⟩
theorem IsZ.kz {K : PySem.W.Frag} {H H' : Hp} {ps : Tab} {a : Addr} (z : IsZ K H ps a) (s : KZ K H H') : IsZ K H' ps a := by
  obtain ⟨as, h1, h2⟩ := z
  exact ⟨as, s.2 _ _ h1, IsKs.keep s.1 _ _ h2⟩
theorem TermZ.kz {K : PySem.W.Frag} {H H' : Hp} {q : Int × Tab} {v : V} (z : TermZ K H q v) (s : KZ K H H') : TermZ K H' q v := by
  obtain ⟨t, p, e, h1, h2⟩ := z
  exact ⟨t, p, e, s.1 _ _ h1, h2.kz s⟩
theorem TermsZ.kz {K : PySem.W.Frag} {H H' : Hp} (s : KZ K H H') : ∀ {S : Sm} {vs : List V}, TermsZ K H S vs → TermsZ K H' S vs
  | [], _, h => h
  | _ :: _, _, ⟨v, r, e, h1, h2⟩ => ⟨v, r, e, h1.kz s, TermsZ.kz s h2⟩
theorem perm_self {t : Gt} (nd : (t.map (·.1)).Nodup) : ((t.map (·.1)).map fun z => (z, (tget t z).getD 0)) = t := by
  rw [List.map_map]
  refine (List.map_congr_left fun q hq => ?_).trans (List.map_id t)
  have := mem_tget nd (show (q.1, q.2) ∈ t from hq)
  show (q.1, (tget t q.1).getD 0) = q
  rw [this]; rfl
end HH
namespace HH
open PySem PySem.Spec PyProof.Rows L2 PySem.SeqAt
theorem pa_starK {X : Cx} {K : PySem.W.Frag} {e : Expr} {es : List Expr} {te : TE} {t : TA} {p : Pos} (he : PE X e te) (hr : PA X es t) (hX : X.K = K := by rfl) (hs : starEach (.Starred e p :: es) X.env = (true, eval e X.env) :: starEach es X.env := by rfl) : PA X (.Starred e p :: es) (StX.tStar K te t) := by subst hX; exact StX.pa_star he hr hs
theorem rd_star {K : PySem.W.Frag} {te : TE} {t : TA} {σ : L2.St} {H : Hp} {Q : List V → Hp → Prop} (h : te σ H fun x H1 => ∃ a xs, x = .ref a ∧ (SqT K H1 a xs ∨ SqL K H1 a xs) ∧ t σ H1 fun vs H2 => Q (xs ++ vs) H2) : StX.tStar K te t σ H Q := h
end HH
namespace HH
open PySem PySem.Spec PyProof.Rows L2 PySem.SeqAt
theorem KZ.fr {K : PySem.W.Frag} {p : Addr} {H H' : Hp} {xs : List V} (f : Fr p H H') (hp : H p = some (.lst xs)) : KZ K H H' := ⟨f.tup hp, fun a ys z => by
  obtain ⟨o, c, e⟩ := z
  exact ⟨o, c, f _ _ (fun w => by rw [w, hp] at e; cases e) e⟩⟩
/-- another thing than a tuple is written -/
theorem KZ.nd {P : Program} {w : World} {K : PySem.W.Frag} {H : Hp} {d : Addr} {xs : NX} {o : HO} (h : H d = some (NdO P w d xs)) : KZ K H (upd H d o) := ⟨nd_tup h, fun a ys z => by
  obtain ⟨ob, c, e⟩ := z
  exact ⟨ob, c, by rw [upd_ne (fun w => by rw [w, h] at e; cases e)]; exact e⟩⟩
/-- a table with products for keys, whose objects are known -/
def GtAt (P : Program) (w : World) (K : PySem.W.Frag) (H : Hp) (d : Addr) (m : Pt) : Prop := ∃ xs, NdX P w K H d xs ∧ kvX xs = ptV m ∧ ∀ x ∈ xs, ∃ ps, x.1 = prodK ps ∧ IsZ K H ps x.2.1
theorem GtAt.keep {P : Program} {w : World} {K : PySem.W.Frag} {H H' : Hp} {d : Addr} {m : Pt} (g : GtAt P w K H d m) (s : ∀ o, H d = some o → H' d = some o) (k : KZ K H H') : GtAt P w K H' d m := by
  obtain ⟨xs, n, e, z⟩ := g
  exact ⟨xs, n.keep s k.1, e, fun x hx => let ⟨ps, e1, e2⟩ := z x hx; ⟨ps, e1, e2.kz k⟩⟩
theorem GtAt.len {P : Program} {w : World} {K : PySem.W.Frag} {H : Hp} {d : Addr} {m : Pt} {xs : NX} (e : kvX xs = ptV m) : xs.length = m.length := by
  have := congrArg List.length e
  rw [ptV_len] at this
  rw [← this]; unfold kvX; rw [List.length_map]
theorem prod_dep (ps : Tab) : (prodK ps).depth ≤ 8 := Nat.le_trans (prodK_depth ps) (by decide)
end HH
namespace HH
open PySem PySem.Spec PyProof.Rows L2 PySem.SeqAt
/-! ### worth, by the power of each letter -/
def wz (g : Str → Int) : List Str → (Str → Int) → Int
  | [], _ => 1
  | z :: zs, f => g z ^ (f z).toNat * wz g zs f
theorem wz_congr {g : Str → Int} : ∀ {zs : List Str} {f h : Str → Int}, (∀ z ∈ zs, f z = h z) → wz g zs f = wz g zs h
  | [], _, _, _ => rfl
  | z :: zs, f, h, e => by
    unfold wz
    rw [e z List.mem_cons_self, wz_congr (zs := zs) fun y hy => e y (List.mem_cons_of_mem _ hy)]
theorem wz_zero {g : Str → Int} : ∀ {zs : List Str} {f : Str → Int}, (∀ z ∈ zs, f z = 0) → wz g zs f = 1
  | [], _, _ => rfl
  | z :: zs, f, e => by
    unfold wz
    rw [e z List.mem_cons_self, wz_zero (zs := zs) fun y hy => e y (List.mem_cons_of_mem _ hy)]
    simp
theorem wz_add {g : Str → Int} : ∀ {zs : List Str} {f h k : Str → Int}, (∀ z ∈ zs, 0 ≤ f z ∧ 0 ≤ h z ∧ k z = f z + h z) → wz g zs k = wz g zs f * wz g zs h
  | [], _, _, _, _ => rfl
  | z :: zs, f, h, k, e => by
    obtain ⟨e1, e2, e3⟩ := e z List.mem_cons_self
    have ih := wz_add (g := g) (zs := zs) (f := f) (h := h) (k := k) fun y hy => e y (List.mem_cons_of_mem _ hy)
    unfold wz
    rw [ih, e3, show (f z + h z).toNat = (f z).toNat + (h z).toNat by omega, Int.pow_add]
    simp only [Int.mul_assoc]
    congr 1
    rw [← Int.mul_assoc, ← Int.mul_assoc, Int.mul_comm (g z ^ (h z).toNat)]
/-- one letter more -/
theorem wz_one {g : Str → Int} {x : Str} {n : Int} : ∀ {zs : List Str} {f k : Str → Int}, zs.Nodup → x ∈ zs → f x = 0 → k x = n → (∀ y, y ≠ x → k y = f y) → wz g zs k = g x ^ n.toNat * wz g zs f
  | z :: zs, f, k, nd, hx, h0, hk, hy => by
    obtain ⟨n1, n2⟩ := List.nodup_cons.mp nd
    unfold wz
    by_cases e : z = x
    · subst e
      rw [h0, hk, wz_congr (f := k) (h := f) fun y hy' => hy y fun w => n1 (by rw [← w]; exact hy')]
      simp
    · have hx' : x ∈ zs := by
        rcases List.mem_cons.mp hx with w | w
        · exact absurd w.symm e
        · exact w
      rw [wz_one (zs := zs) n2 hx' h0 hk hy, hy z e, ← Int.mul_assoc, ← Int.mul_assoc, Int.mul_comm (g x ^ n.toNat)]
theorem sw_ge {ps : Tab} (h : ∀ q ∈ ps, 0 ≤ q.2) (y : Str) : 0 ≤ sw ps y := by
  induction ps with
  | nil => exact Int.le_refl _
  | cons q r ih =>
    have := ih fun x hx => h x (List.mem_cons_of_mem _ hx)
    have hq := h q List.mem_cons_self
    rw [sw_cons]
    split <;> omega
theorem worthP_wz {m : Tab} {zs : List Str} (nz : zs.Nodup) : ∀ {ps : Tab}, (ps.map (·.1)).Nodup → (∀ q ∈ ps, q.1 ∈ zs) → worthP m ps = wz (fun z => (tget m z).getD 0) zs (sw ps)
  | [], _, _ => (wz_zero fun z _ => sw_nil z).symm
  | q :: ps, nd, hz => by
    obtain ⟨n1, n2⟩ := List.nodup_cons.mp nd
    have ih := worthP_wz (m := m) nz n2 fun x hx => hz x (List.mem_cons_of_mem _ hx)
    rw [wz_one (x := q.1) (n := q.2) (f := sw ps) nz (hz q List.mem_cons_self) (sw_out n1) (by rw [sw_cons, if_pos rfl, sw_out n1]; omega) fun y hy => by rw [sw_cons, if_neg fun e => hy e.symm]; omega, ← ih]
    rfl
theorem PT.worth {m : Tab} {zs : List Str} {ps : Tab} (nz : zs.Nodup) (h : PT zs ps) : worthP m ps = wz (fun z => (tget m z).getD 0) zs (sw ps) := worthP_wz nz h.nd fun q hq => (h.ge q hq).1
theorem PT.sw_nn {zs : List Str} {ps : Tab} (h : PT zs ps) (y : Str) : 0 ≤ sw ps y := sw_ge (fun q hq => by have := (h.ge q hq).2; omega) y
/-- a product of two has the worth of both -/
theorem PT.worth_mul {m : Tab} {zs : List Str} {ps qs rs : Tab} (nz : zs.Nodup) (hp : PT zs ps) (hq : PT zs qs) (hr : PT zs rs) (e : ∀ y, sw rs y = sw ps y + sw qs y) : worthP m rs = worthP m ps * worthP m qs := by
  rw [hp.worth nz, hq.worth nz, hr.worth nz]
  exact wz_add fun z _ => ⟨hp.sw_nn z, hq.sw_nn z, e z⟩
end HH
namespace HH
open PySem PySem.Spec PyProof.Rows L2 PySem.SeqAt
/-! ### products as data: in, ==, != of lists of products -/
def encQ (q : Str × Int) : PyData := .tuple [.str q.1, .int q.2]
def encPr (ps : Tab) : PyData := .tuple (ps.map encQ)
/-- letters, or the sign for rounds -/
def LowH (z : Str) : Prop := ∀ c ∈ cds z, c < 128
theorem Low.lowH {z : Str} (h : Low z) : LowH z := fun c hc => by have := h c hc; omega
theorem lowH_ok {z : Str} (h : LowH z) : PyData.strOk z = true := by
  unfold PyData.strOk
  rw [Array.all_eq_true_iff_forall_mem]
  intro c hc
  have := h c (by simpa using hc)
  exact decide_eq_true (by omega)
def LowP (ps : Tab) : Prop := ∀ q ∈ ps, LowH q.1
theorem dp_pairs {K : PySem.W.Frag} {H : Hp} : ∀ {ps : Tab} {vs : List V}, IsKs K H (ps.map fun q => .tup [.text q.1, .num q.2]) vs → DpAll K H vs (ps.map encQ)
  | [], vs, h => by
    have : vs = [] := h
    rw [this]; exact .nil
  | q :: ps, vs, h => by
    obtain ⟨v, r, e, h1, h2⟩ := h
    rw [e]
    obtain ⟨a, rfl, sa⟩ := pair_at h1
    exact .cons (.tup sa (.cons (.str q.1) (.cons (.int q.2) .nil))) (dp_pairs h2)
theorem dp_prod {K : PySem.W.Frag} {H : Hp} {ps : Tab} {v : V} (h : IsK K H (prodK ps) v) : Dp K H v (encPr ps) := by
  obtain ⟨a, vs, rfl, sa, kv, _⟩ := prod_at h
  exact .tup sa (dp_pairs kv)
theorem dp_prods {K : PySem.W.Frag} {H : Hp} : ∀ {L : List Tab} {vs : List V}, IsKs K H (L.map prodK) vs → DpAll K H vs (L.map encPr)
  | [], vs, h => by
    have : vs = [] := h
    rw [this]; exact .nil
  | q :: L, vs, h => by
    obtain ⟨v, r, e, h1, h2⟩ := h
    rw [e]
    exact .cons (dp_prod h1) (dp_prods h2)
theorem lay_pairs : ∀ {ps : Tab}, LowP ps → PyData.canLayAll0 (ps.map encQ) = true
  | [], _ => by simp [PyData.canLayAll0]
  | q :: ps, h => by
    rw [List.map_cons, PyData.canLayAll0, lay_pairs fun y hy => h y (List.mem_cons_of_mem _ hy)]
    simp [encQ, PyData.canLay0, PyData.canLayAll0, lowH_ok (h q List.mem_cons_self)]
theorem lay_prod {ps : Tab} (h : LowP ps) : PyData.canLay0 (encPr ps) = true := by
  simp only [encPr, PyData.canLay0, lay_pairs h]
theorem lay_prods : ∀ {L : List Tab}, (∀ p ∈ L, LowP p) → PyData.canLayAll0 (L.map encPr) = true
  | [], _ => by simp [PyData.canLayAll0]
  | p :: ps, h => by
    rw [List.map_cons, PyData.canLayAll0, lay_prods fun y hy => h y (List.mem_cons_of_mem _ hy), lay_prod (h p List.mem_cons_self)]
    rfl
theorem dep_pairs : ∀ (ps : Tab), PyData.depthAll (ps.map encQ) ≤ 2
  | [] => by simp [PyData.depthAll]
  | q :: ps => by
    have := dep_pairs ps
    simp only [List.map_cons, PyData.depthAll, PyData.depth, encQ]
    omega
theorem dep_prod (ps : Tab) : (encPr ps).depth ≤ 3 := by
  have := dep_pairs ps
  simp only [encPr, PyData.depth]
  omega
theorem dep_prods : ∀ (L : List Tab), PyData.depthAll (L.map encPr) ≤ 3
  | [] => by simp [PyData.depthAll]
  | p :: ps => by
    have h1 := dep_prod p
    have h2 := dep_prods ps
    simp only [List.map_cons, PyData.depthAll]
    omega
theorem eqv_pairs : ∀ (p q : Tab), PyData.eqvAll (p.map encQ) (q.map encQ) = decide (p = q)
  | [], [] => by simp [PyData.eqvAll]
  | [], _ :: _ => by simp [PyData.eqvAll]
  | _ :: _, [] => by simp [PyData.eqvAll]
  | a :: p, b :: q => by
    rw [List.map_cons, List.map_cons, PyData.eqvAll, eqv_pairs p q]
    have e : PyData.eqv (encQ a) (encQ b) = decide (a = b) := by
      obtain ⟨a1, a2⟩ := a
      obtain ⟨b1, b2⟩ := b
      by_cases h1 : a1 = b1
      · by_cases h2 : a2 = b2
        · subst h1; subst h2; simp [encQ, PyData.eqv, PyData.eqvAll]
        · simp [encQ, PyData.eqv, PyData.eqvAll, h2]
      · simp [encQ, PyData.eqv, PyData.eqvAll, h1]
    rw [e]
    by_cases h : a = b
    · subst h; simp
    · simp [h]
theorem eqv_prod (p q : Tab) : PyData.eqv (encPr p) (encPr q) = decide (p = q) := by
  simp only [encPr, PyData.eqv, eqv_pairs]
theorem eqv_prods : ∀ (p q : List Tab), PyData.eqvAll (p.map encPr) (q.map encPr) = decide (p = q)
  | [], [] => by simp [PyData.eqvAll]
  | [], _ :: _ => by simp [PyData.eqvAll]
  | _ :: _, [] => by simp [PyData.eqvAll]
  | a :: p, b :: q => by
    rw [List.map_cons, List.map_cons, PyData.eqvAll, eqv_prods p q, eqv_prod]
    by_cases h : a = b
    · subst h; simp
    · simp [h]
theorem any_prod {p : Tab} : ∀ {ps : List Tab}, ((ps.map encPr).any fun z => PyData.eqv z (encPr p)) = decide (p ∈ ps)
  | [] => by simp
  | q :: ps => by
    rw [List.map_cons, List.any_cons, any_prod, eqv_prod]
    by_cases h : q = p
    · simp [h]
    · have h2 : ¬ p = q := fun e => h e.symm
      simp [h, h2]
section
variable {X : Cx} {K : PySem.W.Frag} {H : Hp} {Q : VK}
theorem shape_prod {p : Tab} (h : LowP p) : PySem.SeqAt.shaped (encPr p) = true := by
  unfold PySem.SeqAt.shaped
  rw [Bool.and_eq_true]
  exact ⟨lay_prod h, decide_eq_true (by have := dep_prod p; omega)⟩
theorem shape_prods {ps : List Tab} (h : ∀ p ∈ ps, LowP p) : PySem.SeqAt.shaped (.list (ps.map encPr)) = true := by
  unfold PySem.SeqAt.shaped
  rw [Bool.and_eq_true]
  refine ⟨by simp only [PyData.canLay0, lay_prods h], decide_eq_true ?_⟩
  have := dep_prods ps
  simp only [PyData.depth]
  omega
/-- a product not in a list of products -/
theorem rd_ninPr {a : V} {l : Addr} {p : Tab} {L : List Tab} {vs : List V} (ha : IsK K H (prodK p) a) (lp : LowP p) (hl : SqL K H l vs) (hL : IsKs K H (L.map prodK) vs) (lL : ∀ q ∈ L, LowP q) (h : Q (.bl (!decide (p ∈ L))) H) : rNotInD K a (.ref l) H Q :=
  ⟨encPr p, L.map encPr, dp_prod ha, .lst hl (dp_prods hL), shape_prod lp, shape_prods lL, by rw [any_prod]; exact h⟩
/-- two lists of products -/
theorem rd_nePrs {k l : Addr} {M L : List Tab} {us vs : List V} (hk : SqL K H k us) (hM : IsKs K H (M.map prodK) us) (hl : SqL K H l vs) (hL : IsKs K H (L.map prodK) vs) (lM : ∀ q ∈ M, LowP q) (lL : ∀ q ∈ L, LowP q) (h : Q (.bl (!decide (M = L))) H) : rNeD K (.ref k) (.ref l) H Q :=
  ⟨.list (M.map encPr), .list (L.map encPr), .lst hk (dp_prods hM), .lst hl (dp_prods hL), shape_prods lM, shape_prods lL, by simp only [PyData.eqv, eqv_prods]; exact h⟩
end
/-- sorted, each once: the same products, the same list -/
theorem prods_uniq : ∀ {L M : List Tab}, (L.map prodK).Pairwise (fun a b => ltK b a = false) → (M.map prodK).Pairwise (fun a b => ltK b a = false) → L.Nodup → M.Nodup → (∀ p, p ∈ L ↔ p ∈ M) → L = M
  | [], [], _, _, _, _, _ => rfl
  | [], b :: m, _, _, _, _, h => absurd ((h b).mpr List.mem_cons_self) (by simp)
  | a :: l, [], _, _, _, _, h => absurd ((h a).mp List.mem_cons_self) (by simp)
  | a :: l, b :: m, p, q, n1, n2, h => by
    obtain ⟨p1, p2⟩ := List.pairwise_cons.mp p
    obtain ⟨q1, q2⟩ := List.pairwise_cons.mp q
    obtain ⟨m1, m2⟩ := List.nodup_cons.mp n1
    obtain ⟨k1, k2⟩ := List.nodup_cons.mp n2
    have e : a = b := by
      rcases List.mem_cons.mp ((h a).mp List.mem_cons_self) with r | r
      · exact r
      · rcases List.mem_cons.mp ((h b).mpr List.mem_cons_self) with s | s
        · exact s.symm
        · have h1 := q1 _ (List.mem_map_of_mem r)
          have h2 := p1 _ (List.mem_map_of_mem s)
          rcases ltK_tri (prodK a) (prodK b) with t | t | t
          · rw [h1] at t; cases t
          · exact prodK_inj t
          · rw [h2] at t; cases t
    subst e
    rw [prods_uniq p2 q2 m2 k2 fun z => ⟨fun hz => ?_, fun hz => ?_⟩]
    · rcases List.mem_cons.mp ((h z).mp (List.mem_cons_of_mem _ hz)) with r | r
      · rw [r] at hz; exact absurd hz m1
      · exact r
    · rcases List.mem_cons.mp ((h z).mpr (List.mem_cons_of_mem _ hz)) with r | r
      · rw [r] at hz; exact absurd hz k1
      · exact r
end HH
namespace HH
open PySem PySem.Spec PyProof.Rows L2 PySem.SeqAt TL
/-! ### texts as rows of signs -/
abbrev mkS (l : List Nat) : Str := ⟨l.toArray⟩
theorem cds_mk (l : List Nat) : cds (mkS l) = l := rfl
theorem mk_cds (z : Str) : mkS (cds z) = z := mk_tl z
/-- cut at each s -/
def sp1 (s : Nat) : List Nat → List (List Nat)
  | [] => [[]]
  | c :: r => if c = s then [] :: sp1 s r else match sp1 s r with
    | [] => [[c]]
    | p :: ps => (c :: p) :: ps
theorem sp1_ne (s : Nat) : ∀ l, ∃ p ps, sp1 s l = p :: ps
  | [] => ⟨[], [], rfl⟩
  | c :: r => by
    obtain ⟨p, ps, e⟩ := sp1_ne s r
    unfold sp1
    by_cases h : c = s
    · rw [if_pos h]; exact ⟨_, _, rfl⟩
    · rw [if_neg h, e]; exact ⟨_, _, rfl⟩
theorem pre_one {s c : Nat} {r : List Nat} : pre [s] (c :: r) = decide (c = s) := by
  by_cases h : c = s
  · subst h
    rw [decide_eq_true rfl]
    exact pre_self [c] r
  · rw [decide_eq_false h]
    exact pre_of_head [] r h
theorem spl_sp1 (s : Nat) : ∀ (l acc : List Nat), ∃ p ps, sp1 s l = p :: ps ∧ spl [s] 0 acc l = (acc ++ p) :: ps
  | [], acc => ⟨[], [], rfl, by rw [spl_nil, List.append_nil]⟩
  | c :: r, acc => by
    unfold sp1
    by_cases h : c = s
    · rw [if_pos h]
      obtain ⟨p, ps, e1, e2⟩ := spl_sp1 s r []
      refine ⟨[], sp1 s r, rfl, ?_⟩
      rw [spl_hit (by rw [pre_one, decide_eq_true h])]
      show acc :: spl [s] 0 [] r = _
      rw [e2, e1, List.nil_append, List.append_nil]
    · rw [if_neg h]
      obtain ⟨p, ps, e1, e2⟩ := spl_sp1 s r (acc ++ [c])
      rw [e1]
      refine ⟨c :: p, ps, rfl, ?_⟩
      rw [spl_miss (by rw [pre_one, decide_eq_false h]), e2, List.append_assoc]
      rfl
theorem spl_eq (s : Nat) (l : List Nat) : spl [s] 0 [] l = sp1 s l := by
  obtain ⟨p, ps, e1, e2⟩ := spl_sp1 s l []
  rw [e1, e2, List.nil_append]
theorem split_sp1 (x y : Str) (s : Nat) (h : cds y = [s]) (hs : s < 256) : (Txt.split x y).map cds = sp1 s (cds x) := by
  have hk : y.cps.all (· < 256) = true := by
    rw [← Array.all_toList]
    show (cds y).all _ = true
    rw [h]
    simp [hs]
  have := split_spl x y (by show cds y ≠ []; rw [h]; simp) (kind_ok hk)
  rw [show tl y = [s] from h] at this
  rw [← spl_eq]
  exact this
theorem sp1_free (s : Nat) : ∀ l, ∀ p ∈ sp1 s l, s ∉ p
  | [], p, hp => by rw [List.mem_singleton.mp hp]; simp
  | c :: r, p, hp => by
    have ih := sp1_free s r
    unfold sp1 at hp
    by_cases h : c = s
    · rw [if_pos h] at hp
      rcases List.mem_cons.mp hp with e | e
      · rw [e]; simp
      · exact ih p e
    · rw [if_neg h] at hp
      obtain ⟨q, qs, e⟩ := sp1_ne s r
      rw [e] at hp ih
      rcases List.mem_cons.mp hp with e2 | e2
      · rw [e2, List.mem_cons, not_or]
        exact ⟨fun w => h w.symm, ih q List.mem_cons_self⟩
      · exact ih p (List.mem_cons_of_mem _ e2)
theorem sp1_join (s : Nat) : ∀ l, joinL [s] (sp1 s l) = l
  | [] => rfl
  | c :: r => by
    have ih := sp1_join s r
    obtain ⟨q, qs, e⟩ := sp1_ne s r
    unfold sp1
    rw [e] at ih
    by_cases h : c = s
    · rw [if_pos h, e, h]
      show [] ++ ([s] ++ joinL [s] (q :: qs)) = _
      rw [ih]; rfl
    · rw [if_neg h, e]
      show joinL [s] ((c :: q) :: qs) = _
      cases qs with
      | nil =>
        have : q = r := ih
        rw [← this]; rfl
      | cons q2 qs =>
        have : q ++ ([s] ++ joinL [s] (q2 :: qs)) = r := ih
        show (c :: q) ++ ([s] ++ joinL [s] (q2 :: qs)) = _
        rw [List.cons_append, this]
theorem sp1_of_join {s : Nat} {parts : List (List Nat)} (h : parts ≠ []) (hp : ∀ p ∈ parts, s ∉ p) : sp1 s (joinL [s] parts) = parts := by
  rw [← spl_eq]; exact spl_join h hp
theorem sp1_len (s : Nat) : ∀ l, (sp1 s l).length ≤ l.length + 1
  | [] => Nat.le_refl _
  | c :: r => by
    have ih := sp1_len s r
    unfold sp1
    by_cases h : c = s
    · rw [if_pos h]; simp only [List.length_cons]; omega
    · rw [if_neg h]
      obtain ⟨q, qs, e⟩ := sp1_ne s r
      rw [e] at ih ⊢
      simp only [List.length_cons] at ih ⊢
      omega
theorem sp1_mem_len (s : Nat) : ∀ l, ∀ p ∈ sp1 s l, p.length ≤ l.length
  | [], p, hp => by rw [List.mem_singleton.mp hp]; simp
  | c :: r, p, hp => by
    have ih := sp1_mem_len s r
    unfold sp1 at hp
    by_cases h : c = s
    · rw [if_pos h] at hp
      rcases List.mem_cons.mp hp with e | e
      · rw [e]; simp
      · have := ih p e; simp only [List.length_cons]; omega
    · rw [if_neg h] at hp
      obtain ⟨q, qs, e⟩ := sp1_ne s r
      rw [e] at hp ih
      rcases List.mem_cons.mp hp with e2 | e2
      · rw [e2]
        have := ih q List.mem_cons_self
        simp only [List.length_cons]; omega
      · have := ih p (List.mem_cons_of_mem _ e2)
        simp only [List.length_cons]; omega
/-- cut at the first s -/
def cut1 (s : Nat) : List Nat → Option (List Nat × List Nat)
  | [] => none
  | c :: r => if c = s then some ([], r) else (cut1 s r).map fun q => (c :: q.1, q.2)
theorem par_cut1 (s : Nat) : ∀ (l acc : List Nat), par [s] acc l = (cut1 s l).map fun q => (acc ++ q.1, q.2)
  | [], acc => rfl
  | c :: r, acc => by
    unfold cut1
    by_cases h : c = s
    · rw [if_pos h, par_hit (by rw [pre_one, decide_eq_true h])]
      show some (acc, r) = some (acc ++ [], r)
      rw [List.append_nil]
    · rw [if_neg h, par_miss (by rw [pre_one, decide_eq_false h]), par_cut1 s r (acc ++ [c]), Option.map_map]
      congr 1
      funext q
      show (acc ++ [c] ++ q.1, q.2) = (acc ++ c :: q.1, q.2)
      rw [List.append_assoc]; rfl
theorem partition_cut1 (x y : Str) (s : Nat) (h : cds y = [s]) : Txt.partition x y = match cut1 s (cds x) with | some q => (mkS q.1, y, mkS q.2) | none => (x, Str.empty, Str.empty) := by
  rw [partition_par x y (by show cds y ≠ []; rw [h]; simp), show tl y = [s] from h, par_cut1]
  cases e : cut1 s (cds x) with
  | none => rfl
  | some q => rfl
theorem cut1_some {s : Nat} : ∀ {l : List Nat} {a b : List Nat}, cut1 s l = some (a, b) → l = a ++ s :: b ∧ s ∉ a
  | c :: r, a, b, h => by
    unfold cut1 at h
    by_cases e : c = s
    · rw [if_pos e] at h
      cases h
      exact ⟨by rw [e]; rfl, by simp⟩
    · rw [if_neg e] at h
      obtain ⟨q, hq, e2⟩ := Option.map_eq_some_iff.mp h
      cases e2
      obtain ⟨h1, h2⟩ := cut1_some (a := q.1) (b := q.2) hq
      refine ⟨by rw [List.cons_append, ← h1], ?_⟩
      rw [List.mem_cons, not_or]
      exact ⟨fun w => e w.symm, h2⟩
theorem cut1_none {s : Nat} : ∀ {l : List Nat}, cut1 s l = none → s ∉ l
  | [], _ => by simp
  | c :: r, h => by
    unfold cut1 at h
    by_cases e : c = s
    · rw [if_pos e] at h; cases h
    · rw [if_neg e] at h
      have := cut1_none (Option.map_eq_none_iff.mp h)
      rw [List.mem_cons, not_or]
      exact ⟨fun w => e w.symm, this⟩
theorem cut1_out {s : Nat} : ∀ {l : List Nat}, s ∉ l → cut1 s l = none
  | [], _ => rfl
  | c :: r, h => by
    rw [List.mem_cons, not_or] at h
    unfold cut1
    rw [if_neg (fun w => h.1 w.symm), cut1_out h.2]; rfl
theorem cut1_app {s : Nat} : ∀ {a b : List Nat}, s ∉ a → cut1 s (a ++ s :: b) = some (a, b)
  | [], b, _ => by show (if s = s then _ else _) = _; rw [if_pos rfl]
  | c :: r, b, h => by
    rw [List.mem_cons, not_or] at h
    rw [List.cons_append]
    unfold cut1
    rw [if_neg (fun w => h.1 w.symm), cut1_app h.2]; rfl
theorem sp1_cut (s : Nat) (l : List Nat) : sp1 s l = match cut1 s l with | none => [l] | some q => q.1 :: sp1 s q.2 := by
  cases h : cut1 s l with
  | none =>
    have := cut1_none h
    exact sp1_of_join (parts := [l]) (by simp) (by simpa using this)
  | some q =>
    obtain ⟨e, f⟩ := cut1_some (a := q.1) (b := q.2) h
    have h2 := sp1_of_join (s := s) (parts := q.1 :: sp1 s q.2) (by simp) (fun p hp => by
      rcases List.mem_cons.mp hp with w | w
      · rw [w]; exact f
      · exact sp1_free s _ p w)
    obtain ⟨p, ps, e3⟩ := sp1_ne s q.2
    have e4 : joinL [s] (q.1 :: sp1 s q.2) = l := by
      have := sp1_join s q.2
      rw [e3] at this ⊢
      show q.1 ++ ([s] ++ joinL [s] (p :: ps)) = l
      rw [this]
      exact e.symm
    rw [e4] at h2
    exact h2
/-! ### names, numbers, products in texts -/
def isNmL (p : List Nat) : Bool := decide (1 ≤ p.length) && decide (p.length ≤ 8) && p.all fun c => decide (97 ≤ c) && decide (c ≤ 122)
def digL (d : List Nat) : Bool := d.all fun c => decide (48 ≤ c) && decide (c ≤ 57)
def numO (d : List Nat) : Option Nat := if decide (1 ≤ d.length) && decide (d.length ≤ 9) && digL d && !(decide (d.head? = some 48) && !decide (d = [48])) then some (NumText.digitsVal d) else none
def pairS (p : List Nat) : Option (Str × Int) := match cut1 94 p with
  | none => if isNmL p = true then some (mkS p, 1) else none
  | some q => if isNmL q.1 = true then (match numO q.2 with | some n => if n < 2 then none else some (mkS q.1, (n : Int)) | none => none) else none
def pairsS (ps : List (List Nat)) : Option Tab := match ps.mapM pairS with
  | none => none
  | some qs => if decide ((qs.map fun q => cds q.1).Pairwise (· < ·)) = true then some qs else none
def prodS (t : List Nat) : Option Tab := if t = [49] then some [] else pairsS (sp1 42 t)
def pairT (q : Str × Int) : List Nat := if q.2 = 1 then cds q.1 else cds q.1 ++ 94 :: numL q.2.toNat
def textP (ps : Tab) : List Nat := if ps = [] then [49] else joinL [42] (ps.map pairT)
theorem isNmL_iff {p : List Nat} : isNmL p = true ↔ 1 ≤ p.length ∧ p.length ≤ 8 ∧ ∀ c ∈ p, 97 ≤ c ∧ c ≤ 122 := by
  unfold isNmL
  simp only [Bool.and_eq_true, decide_eq_true_eq, List.all_eq_true]
  exact ⟨fun ⟨⟨a, b⟩, c⟩ => ⟨a, b, c⟩, fun ⟨a, b, c⟩ => ⟨⟨a, b⟩, c⟩⟩
theorem digL_iff {d : List Nat} : digL d = true ↔ NumText.AllDigits d := by
  unfold digL NumText.AllDigits
  simp only [List.all_eq_true, Bool.and_eq_true, decide_eq_true_eq]
theorem dv_snoc (c : List Nat) (d : Nat) : NumText.digitsVal (c ++ [d]) = NumText.digitsVal c * 10 + (d - 48) := by
  unfold NumText.digitsVal
  rw [List.foldl_append]; rfl
theorem snoc_indL {α : Type} {M : List α → Prop} (h0 : M []) (h1 : ∀ r q, M r → M (r ++ [q])) (l : List α) : M l := by
  have : ∀ l : List α, M l.reverse := fun l => by
    induction l with
    | nil => exact h0
    | cons q r ih => rw [List.reverse_cons]; exact h1 _ _ ih
  have := this l.reverse
  rwa [List.reverse_reverse] at this
theorem numL_back (b : List Nat) : b ≠ [] → NumText.AllDigits b → b.head? ≠ some 48 → numL (NumText.digitsVal b) = b ∧ 1 ≤ NumText.digitsVal b := by
  refine snoc_indL (M := fun b => b ≠ [] → NumText.AllDigits b → b.head? ≠ some 48 → numL (NumText.digitsVal b) = b ∧ 1 ≤ NumText.digitsVal b) (fun h => absurd rfl h) ?_ b
  intro c d ih _ hd hh
  have hdd := hd d (List.mem_append_right _ List.mem_cons_self)
  rw [dv_snoc]
  by_cases hc : c = []
  · subst hc
    have : NumText.digitsVal [] = 0 := rfl
    have h48 : d ≠ 48 := fun e => hh (by rw [e]; rfl)
    rw [this, Nat.zero_mul, Nat.zero_add, numL_lt (by omega)]
    refine ⟨?_, by omega⟩
    show [48 + (d - 48)] = [d]
    rw [show 48 + (d - 48) = d by omega]
  · have hh2 : c.head? ≠ some 48 := by
      cases c with
      | nil => exact absurd rfl hc
      | cons x r => exact hh
    obtain ⟨e, g⟩ := ih hc (fun x hx => hd x (List.mem_append_left _ hx)) hh2
    rw [numL_step (by omega), show (NumText.digitsVal c * 10 + (d - 48)) / 10 = NumText.digitsVal c by omega, e, show 48 + (NumText.digitsVal c * 10 + (d - 48)) % 10 = d by omega]
    exact ⟨rfl, by omega⟩
theorem numO_some {d : List Nat} {n : Nat} (h : numO d = some n) : 1 ≤ d.length ∧ d.length ≤ 9 ∧ NumText.AllDigits d ∧ n = NumText.digitsVal d ∧ numL n = d := by
  unfold numO at h
  split at h
  · rename_i c
    simp only [Bool.and_eq_true, decide_eq_true_eq, digL_iff, Bool.not_eq_true', Bool.and_eq_false_iff, decide_eq_false_iff_not, Bool.not_eq_false'] at c
    obtain ⟨⟨⟨c1, c2⟩, c3⟩, c4⟩ := c
    have e := (Option.some.inj h).symm
    refine ⟨c1, c2, c3, e, ?_⟩
    rcases c4 with c4 | c4
    · rw [e]
      exact (numL_back d (by intro w; rw [w] at c1; simp at c1) c3 c4).1
    · rw [e, c4]; decide +kernel
  · cases h
theorem numO_num {n : Nat} (h : n < 10 ^ 9) : numO (numL n) = some n := by
  have hl : (numL n).length ≤ 9 := numL_len (by decide) h
  have h1 : 1 ≤ (numL n).length := List.length_pos_iff.mpr (numL_ne n)
  have hz : ¬ ((numL n).head? = some 48 ∧ ¬ numL n = [48]) := by
    rintro ⟨g1, g2⟩
    have key : ∀ n : Nat, (numL n).head? = some 48 → n = 0 := fun n => by
      induction n using Nat.strongRecOn with
      | _ n ih =>
        intro g
        by_cases c : n < 10
        · rw [numL_lt c] at g
          have : 48 + n = 48 := Option.some.inj g
          omega
        · rw [numL_step (by omega)] at g
          have hne := numL_ne (n / 10)
          cases e : numL (n / 10) with
          | nil => exact absurd e hne
          | cons x r =>
            rw [e] at g
            have := ih (n / 10) (by omega) (by rw [e]; exact g)
            omega
    have := key n g1
    rw [this] at g2
    exact g2 (numL_lt (by decide))
  unfold numO
  rw [if_pos, numL_val]
  simp only [Bool.and_eq_true, decide_eq_true_eq, digL_iff, Bool.not_eq_true', Bool.and_eq_false_iff, decide_eq_false_iff_not, Bool.not_eq_false']
  refine ⟨⟨⟨h1, hl⟩, numL_digits n⟩, ?_⟩
  by_cases g : (numL n).head? = some 48
  · exact .inr (Classical.byContradiction fun w => hz ⟨g, w⟩)
  · exact .inl g
theorem numL_long {n : Nat} (h : 10 ^ 9 ≤ n) : 10 ≤ (numL n).length := by
  have key : ∀ k n : Nat, 10 ^ k ≤ n → k + 1 ≤ (numL n).length := fun k => by
    induction k with
    | zero => intro n _; exact List.length_pos_iff.mpr (numL_ne n)
    | succ k ih =>
      intro n hn
      have h10 : 10 ≤ n := Nat.le_trans (by rw [Nat.pow_succ]; have := Nat.pow_pos (n := k) (show 0 < 10 by decide); omega) hn
      rw [numL_step h10, List.length_append]
      have : 10 ^ k ≤ n / 10 := by rw [Nat.pow_succ] at hn; omega
      have := ih _ this
      simp only [List.length_cons, List.length_nil]; omega
  exact key 9 n h
theorem numO_long {n : Nat} (h : 10 ^ 9 ≤ n) : numO (numL n) = none := by
  have := numL_long h
  unfold numO
  rw [if_neg]
  simp only [Bool.and_eq_true, decide_eq_true_eq]
  omega
end HH
namespace HH
open PySem PySem.Spec PyProof.Rows L2 PySem.SeqAt TL
theorem nm_free {p : List Nat} (h : isNmL p = true) {s : Nat} (hs : s < 97) : s ∉ p := fun w => by
  have := (isNmL_iff.mp h).2.2 s w
  omega
theorem pairS_none {p : List Nat} (h : cut1 94 p = none) : pairS p = if isNmL p = true then some (mkS p, 1) else none := by unfold pairS; rw [h]
theorem pairS_some {p : List Nat} {q : List Nat × List Nat} (h : cut1 94 p = some q) : pairS p = if isNmL q.1 = true then (match numO q.2 with | some n => if n < 2 then none else some (mkS q.1, (n : Int)) | none => none) else none := by unfold pairS; rw [h]
/-- what a pair's text says -/
theorem pairS_inv {p : List Nat} {q : Str × Int} (h : pairS p = some q) : isNmL (cds q.1) = true ∧ 1 ≤ q.2 ∧ q.2 < 10 ^ 9 ∧ pairT q = p := by
  cases e : cut1 94 p with
  | none =>
    rw [pairS_none e] at h
    split at h
    · rename_i c
      cases h
      exact ⟨c, Int.le_refl 1, (by show (1 : Int) < 10 ^ 9; decide), by unfold pairT; rw [if_pos rfl]⟩
    · cases h
  | some ab =>
    rw [pairS_some e] at h
    split at h
    · rename_i c
      cases en : numO ab.2 with
      | none => rw [en] at h; cases h
      | some n =>
        rw [en] at h
        simp only at h
        split at h
        · cases h
        · rename_i c2
          cases h
          obtain ⟨_, l9, ad, ev, eb⟩ := numO_some en
          have hlt : n < 10 ^ 9 := by
            refine Nat.lt_of_not_le fun g => ?_
            have := numL_long g
            rw [eb] at this
            omega
          refine ⟨c, by show (1 : Int) ≤ (n : Int); omega, by show (n : Int) < 10 ^ 9; omega, ?_⟩
          unfold pairT
          rw [if_neg (by show ¬ (n : Int) = 1; omega)]
          show ab.1 ++ 94 :: numL (n : Int).toNat = p
          rw [Int.toNat_natCast, eb]
          exact (cut1_some (a := ab.1) (b := ab.2) e).1.symm
    · cases h
theorem pairS_T {q : Str × Int} (h1 : isNmL (cds q.1) = true) (h2 : 1 ≤ q.2) : pairS (pairT q) = if q.2 < 10 ^ 9 then some q else none := by
  unfold pairT
  by_cases c : q.2 = 1
  · rw [if_pos c, pairS_none (cut1_out (nm_free h1 (by decide))), if_pos h1, if_pos (by omega)]
    show some (mkS (cds q.1), (1 : Int)) = some q
    rw [mk_cds, ← c]
  · rw [if_neg c, pairS_some (cut1_app (nm_free h1 (by decide)))]
    show (if isNmL (cds q.1) = true then _ else _) = _
    rw [if_pos h1]
    show (match numO (numL q.2.toNat) with | some n => _ | none => none) = _
    by_cases d : q.2 < 10 ^ 9
    · rw [numO_num (by omega), if_pos d]
      show (if q.2.toNat < 2 then none else some (mkS (cds q.1), ((q.2.toNat : Nat) : Int))) = some q
      rw [if_neg (by omega), mk_cds, show ((q.2.toNat : Nat) : Int) = q.2 by omega]
    · rw [numO_long (by omega), if_neg d]
theorem pairT_free {q : Str × Int} (h1 : isNmL (cds q.1) = true) : 42 ∉ pairT q := by
  unfold pairT
  have h := nm_free h1 (s := 42) (by decide)
  split
  · exact h
  · rw [List.mem_append, List.mem_cons, not_or, not_or]
    exact ⟨h, by decide, numL_free (by decide)⟩
theorem mapM_some {α β : Type} {f : α → Option β} : ∀ {l : List α} {m : List β}, l.mapM f = some m ↔ l.map f = m.map some
  | [], m => by
    rw [List.mapM_nil]
    constructor
    · intro h; cases h; rfl
    · intro h
      cases m with
      | nil => rfl
      | cons b m => cases h
  | a :: l, m => by
    rw [List.mapM_cons]
    cases e : f a with
    | none =>
      constructor
      · intro h; cases h
      · intro h
        rw [List.map_cons, e] at h
        cases m with
        | nil => cases h
        | cons b m => rw [List.map_cons] at h; cases (List.cons.inj h).1
    | some b =>
      cases e2 : l.mapM f with
      | none =>
        constructor
        · intro h; cases h
        · intro h
          rw [List.map_cons, e] at h
          cases m with
          | nil => cases h
          | cons c m =>
            rw [List.map_cons] at h
            have := (mapM_some (l := l) (m := m)).mpr (List.cons.inj h).2
            rw [e2] at this; cases this
      | some m' =>
        have ih := mapM_some (f := f) (l := l) (m := m')
        constructor
        · intro h
          cases h
          rw [List.map_cons, List.map_cons, e, ih.mp e2]
        · intro h
          rw [List.map_cons, e, ih.mp e2] at h
          have : some (b :: m') = some m := by
            congr 1
            have : (b :: m').map some = m.map some := h
            exact List.map_inj_right (fun _ _ w => Option.some.inj w) |>.mp this
          exact this
theorem mapM_none {α β : Type} {f : α → Option β} {l : List α} {a : α} (ha : a ∈ l) (h : f a = none) : l.mapM f = none := by
  cases e : l.mapM f with
  | none => rfl
  | some m =>
    have := mapM_some.mp e
    have h2 : f a ∈ l.map f := List.mem_map_of_mem ha
    rw [this, h] at h2
    obtain ⟨_, _, w⟩ := List.mem_map.mp h2
    cases w
/-- Texts of products are read back. -/
theorem pairsS_inv {ps : List (List Nat)} {qs : Tab} (h : pairsS ps = some qs) : ps = qs.map pairT ∧ (∀ q ∈ qs, isNmL (cds q.1) = true ∧ 1 ≤ q.2 ∧ q.2 < 10 ^ 9) ∧ (qs.map fun q => cds q.1).Pairwise (· < ·) := by
  unfold pairsS at h
  cases e : ps.mapM pairS with
  | none => rw [e] at h; cases h
  | some m =>
    rw [e] at h
    simp only at h
    split at h
    · rename_i c
      cases h
      have e2 := mapM_some.mp e
      refine ⟨?_, fun q hq => ?_, of_decide_eq_true c⟩
      · have : ∀ {ps : List (List Nat)} {qs : Tab}, ps.map pairS = qs.map some → ps = qs.map pairT := by
          intro ps
          induction ps with
          | nil =>
            intro qs h
            cases qs with
            | nil => rfl
            | cons _ _ => cases h
          | cons p ps ih =>
            intro qs h
            cases qs with
            | nil => cases h
            | cons q qs =>
              rw [List.map_cons, List.map_cons] at h
              obtain ⟨h1, h2⟩ := List.cons.inj h
              rw [List.map_cons, ← ih h2, (pairS_inv h1).2.2.2]
        exact this e2
      · have h2 : some q ∈ ps.map pairS := by rw [e2]; exact List.mem_map_of_mem hq
        obtain ⟨p, _, hp⟩ := List.mem_map.mp h2
        obtain ⟨a, b, c, _⟩ := pairS_inv hp
        exact ⟨a, b, c⟩
    · cases h
theorem prodS_inv {t : List Nat} {ps : Tab} (h : prodS t = some ps) : textP ps = t ∧ (∀ q ∈ ps, isNmL (cds q.1) = true ∧ 1 ≤ q.2 ∧ q.2 < 10 ^ 9) ∧ (ps.map fun q => cds q.1).Pairwise (· < ·) := by
  unfold prodS at h
  split at h
  · rename_i c
    cases h
    exact ⟨by rw [c]; rfl, by simp, by simp⟩
  · obtain ⟨a, b, c⟩ := pairsS_inv h
    refine ⟨?_, b, c⟩
    have hne : ps ≠ [] := by
      intro w
      obtain ⟨p, r, e⟩ := sp1_ne 42 t
      rw [w, e] at a
      cases a
    unfold textP
    rw [if_neg hne, ← a, sp1_join]
theorem textP_ne {ps : Tab} (hne : ps ≠ []) (hn : ∀ q ∈ ps, isNmL (cds q.1) = true) : textP ps ≠ [49] := by
  unfold textP
  rw [if_neg hne]
  cases ps with
  | nil => exact absurd rfl hne
  | cons q r =>
    have h := isNmL_iff.mp (hn q List.mem_cons_self)
    have h1 : ∃ c y, pairT q = c :: y ∧ 97 ≤ c := by
      unfold pairT
      cases e : cds q.1 with
      | nil => rw [e] at h; simp at h
      | cons c y =>
        have := h.2.2 c (by rw [e]; exact List.mem_cons_self)
        split
        · exact ⟨c, y, rfl, this.1⟩
        · exact ⟨c, _, rfl, this.1⟩
    obtain ⟨c, y, e, hc⟩ := h1
    intro w
    have h2 : ∃ x, joinL [42] ((q :: r).map pairT) = c :: x := by
      rw [List.map_cons, e]
      cases r.map pairT with
      | nil => exact ⟨y, rfl⟩
      | cons a b => exact ⟨y ++ ([42] ++ joinL [42] (a :: b)), rfl⟩
    obtain ⟨x, e2⟩ := h2
    rw [e2] at w
    have := (List.cons.inj w).1
    omega
theorem prodS_T {ps : Tab} (hn : ∀ q ∈ ps, isNmL (cds q.1) = true ∧ 1 ≤ q.2) (ha : (ps.map fun q => cds q.1).Pairwise (· < ·)) : prodS (textP ps) = if ps.all (fun q => decide (q.2 < 10 ^ 9)) = true then some ps else none := by
  by_cases hne : ps = []
  · subst hne; rfl
  · have h49 := textP_ne hne fun q hq => (hn q hq).1
    unfold prodS
    rw [if_neg h49]
    unfold textP
    rw [if_neg hne, sp1_of_join (by intro w; exact hne (List.map_eq_nil_iff.mp w)) fun p hp => by
      obtain ⟨q, hq, rfl⟩ := List.mem_map.mp hp
      exact pairT_free (hn q hq).1]
    unfold pairsS
    by_cases c : ps.all (fun q => decide (q.2 < 10 ^ 9)) = true
    · rw [if_pos c]
      have : (ps.map pairT).mapM pairS = some ps := mapM_some.mpr (by
        rw [List.map_map]
        refine List.map_congr_left fun q hq => ?_
        have := List.all_eq_true.mp c q hq
        show pairS (pairT q) = some q
        rw [pairS_T (hn q hq).1 (hn q hq).2, if_pos (of_decide_eq_true this)])
      rw [this]
      simp only
      rw [if_pos (decide_eq_true ha)]
    · rw [if_neg c]
      obtain ⟨q, hq, h9⟩ : ∃ q ∈ ps, ¬ q.2 < 10 ^ 9 := by
        refine Classical.byContradiction fun w => c (List.all_eq_true.mpr fun q hq => decide_eq_true ?_)
        exact Classical.byContradiction fun w2 => w ⟨q, hq, w2⟩
      rw [mapM_none (List.mem_map_of_mem (f := pairT) hq) (by rw [pairS_T (hn q hq).1 (hn q hq).2, if_neg h9])]
/-- a term in a text: how the law reads it -/
def leadS (d : List Nat) : Int := match numO d with | some n => if (n : Int) < 1 then -1 else n | none => -1
def termS (t : List Nat) : Option (Int × Tab) := match sp1 42 t with
  | [] => none
  | p :: r => if 0 < leadS p ∧ r = [] then some (leadS p, []) else if leadS p = 1 then none else if 0 < leadS p then (pairsS r).map fun q => (leadS p, q) else (pairsS (p :: r)).map fun q => (1, q)
theorem leadS_pos {d : List Nat} (h : 0 < leadS d) : ∃ n, numO d = some n ∧ leadS d = n ∧ 1 ≤ n := by
  unfold leadS at h ⊢
  cases e : numO d with
  | none => rw [e] at h; simp at h
  | some n =>
    rw [e] at h
    simp only at h ⊢
    by_cases c : (n : Int) < 1
    · rw [if_pos c] at h; simp at h
    · rw [if_neg c]; exact ⟨n, rfl, rfl, by omega⟩
theorem leadS_one {d : List Nat} (h : leadS d = 1) : d = [49] := by
  obtain ⟨n, e, h2, _⟩ := leadS_pos (d := d) (by rw [h]; decide)
  have h1 : n = 1 := by rw [h] at h2; omega
  have := (numO_some e).2.2.2.2
  rw [← this, h1]
  exact numL_lt (by decide)
theorem pairS_dig {d : List Nat} (h : 0 < leadS d) : pairS d = none := by
  obtain ⟨n, e, _, _⟩ := leadS_pos h
  obtain ⟨l1, _, ad, _, _⟩ := numO_some e
  have f94 : 94 ∉ d := fun w => by have := ad 94 w; omega
  rw [pairS_none (cut1_out f94), if_neg]
  intro w
  have hh := isNmL_iff.mp w
  cases d with
  | nil => simp at l1
  | cons c r =>
    have h1 := ad c List.mem_cons_self
    have h2 := hh.2.2 c List.mem_cons_self
    omega
theorem pairsS_dig {d : List Nat} {r : List (List Nat)} (h : 0 < leadS d) : pairsS (d :: r) = none := by
  unfold pairsS
  rw [mapM_none List.mem_cons_self (pairS_dig h)]
/-- the program and the law read the same products -/
theorem prodS_term (t : List Nat) : prodS t = match termS t with | some (c, ps) => if c = 1 then some ps else none | none => none := by
  obtain ⟨p, r, e⟩ := sp1_ne 42 t
  have hj := sp1_join 42 t
  unfold termS prodS
  rw [e]
  simp only
  by_cases c1 : 0 < leadS p ∧ r = []
  · rw [if_pos c1]
    obtain ⟨h0, rfl⟩ := c1
    rw [e] at hj
    have hp : p = t := hj
    subst hp
    by_cases c : leadS p = 1
    · rw [if_pos (leadS_one c)]
      simp only [c, if_true]
    · have : p ≠ [49] := fun w => c (by rw [w]; decide +kernel)
      rw [if_neg this, pairsS_dig h0]
      simp only [c, if_false]
  · rw [if_neg c1]
    have ht : t ≠ [49] := by
      rintro rfl
      have e2 : sp1 42 [49] = [[49]] := rfl
      rw [e2] at e
      cases e
      exact c1 ⟨by decide +kernel, rfl⟩
    rw [if_neg ht]
    by_cases c : leadS p = 1
    · rw [if_pos c, pairsS_dig (by rw [c]; decide)]
    · rw [if_neg c]
      by_cases c2 : 0 < leadS p
      · rw [if_pos c2, pairsS_dig c2]
        cases pairsS r with
        | none => rfl
        | some q => simp only [Option.map_some, c, if_false]
      · rw [if_neg c2]
        cases pairsS (p :: r) with
        | none => rfl
        | some q => rfl
end HH
namespace HH
open PySem PySem.Spec PyProof.Rows L2 PySem.SeqAt TL
section
variable {X : Cx} {K : PySem.W.Frag} {σ : L2.St} {H : Hp} {Q : VK}
theorem rd_m1 {r : V → List V → Hp → VK → Prop} {to te : TE} (h : to σ H fun x H1 => (∃ a, x = .str a) ∧ te σ H1 fun y H2 => r x [y] H2 Q) : tM1 r to te σ H Q := h
theorem rd_isS {z : Str} {R : Prop} (h : R) : (∃ a, V.str z = .str a) ∧ R := ⟨⟨z, rfl⟩, h⟩
/-- z * k, a text some times over -/
def rMulS : R2 := fun x y H Q => ∃ (z : Str) (k : Nat), x = .str z ∧ y = .int k ∧ z.length = 1 ∧ 2 ≤ k ∧ k ≤ 100000 ∧ ∀ u : Str, u.length = k → Q (.str u) H
theorem rep_len (c : Array Nat) (h : c.size = 1) : ∀ (k : Nat) (a : Array Nat), ((List.replicate k c).foldl (· ++ ·) a).size = a.size + k
  | 0, a => rfl
  | k + 1, a => by
    rw [List.replicate_succ, List.foldl_cons, rep_len c h k, Array.size_append, h]; omega
theorem op_mulStr : OpR X (binaryOp .Mult) rMulS := by
  intro pins s σ H x y v u Q I rx ry h
  obtain ⟨z, k, rfl, rfl, hz, k2, k9, q⟩ := h
  obtain ⟨t, rfl⟩ := rx
  obtain ⟨t', rfl⟩ := ry
  have e1 : ((k : Int) == 1 || z.length == 0) = false := by
    rw [hz]
    simp only [Bool.or_eq_false_iff, beq_eq_false_iff_ne]
    exact ⟨by omega, by decide⟩
  refine PySem.P.mul_str (by simp only [Bool.or_eq_false_iff, decide_eq_false_iff_not]; omega) (fun _ _ => ?_) (fun _ _ => ?_) ?_
  · rw [hz]
    intro w
    have : (1 : Int) ≤ (2 ^ 63 - 1) / k := Int.le_ediv_of_mul_le (by omega) (by omega)
    omega
  · rw [hz, Int.toNat_natCast, Nat.one_mul]
    unfold Builtin.Str.tooLong
    exact decide_eq_false (by rw [sizeLine_eq]; omega)
  · rw [if_neg (by omega), if_neg (by rw [e1]; decide)]
    have hl : (⟨(List.replicate (k : Int).toNat z.cps).foldl (· ++ ·) #[]⟩ : Str).length = k := by
      show ((List.replicate (k : Int).toNat z.cps).foldl (· ++ ·) #[]).size = k
      rw [rep_len z.cps hz, Int.toNat_natCast]
      simp
    exact ⟨by rw [hl]; exact sz_le (by omega), ⟨.str _, H, I.tok _, ⟨_, rfl⟩, q _ hl⟩⟩
end
end HH
namespace HH
open PySem PySem.Spec PyProof.Rows L2 PySem.SeqAt TL
section
variable {X : Cx} {K : PySem.W.Frag} {σ : L2.St} {H : Hp} {Q : VK} {o e : Expr} {to te : TE}
def rJoinK (K : PySem.W.Frag) : V → List V → Hp → VK → Prop := fun x xs H Q => ∃ a p, ∃ ys : List Str, x = .str a ∧ xs = [.ref p] ∧ (SqL K H p (ys.map V.str) ∨ SqT K H p (ys.map V.str)) ∧ (ys.map (·.length)).sum + ys.length * a.length ≤ 16777216 ∧ Q (.str (Txt.join a ys)) H
theorem pe_joinK {K : PySem.W.Frag} {apos pos : Pos} (ho : PE X o to) (he : PE X e te) (hs : starEach [e] X.env = [(false, eval e X.env)] := by rfl) (hbase : attributeBase o "join" X.env (eval o X.env) = eval o X.env := by rfl) (hline : (apos.endLine == pos.line) = true := by rfl) (hX : X.K = K := by rfl) :
    PE X (.Call (.Attribute o "join" apos) [e] [] pos) (tM1 (rJoinK K) to te) := by subst hX; exact pe_join ho he hs hbase hline
theorem rd_joinL {a : Str} {p : Addr} {ys : List Str} (h1 : H p = some (.lst (ys.map V.str))) (h2 : (ys.map (·.length)).sum + ys.length * a.length ≤ 16777216) (h : Q (.str (Txt.join a ys)) H) : rJoinK K (.str a) [.ref p] H Q := ⟨a, p, ys, rfl, rfl, .inl (sql h1), h2, h⟩
theorem cds_join {a : Str} {ys : List Str} {s : Nat} (ha : cds a = [s]) : cds (Txt.join a ys) = joinL [s] (ys.map cds) := by
  have := tl_join a ys
  rw [join_eq]
  show tl (Str.join a ys) = _
  rw [this, show tl a = [s] from ha]
/-- C(c): a constant handed in -/
theorem rd_mkOc {C : Addr} {n : Str} {v : V} {Q : XK} (h : ∀ d, H d = none → Q (.ref C) (some d) (upd H d (.xd [(n, v)]))) : tMkO C (spInit n C) [] (tCons (tC v) tNil) σ H Q :=
  rd_mkO (te := tC v) h (fun R R' m r => m _ _ r)
theorem rd_fmtS {z : Str} {te : TE} (h : te σ H fun x H1 => (∃ y : Str, x = .str y ∧ y.length ≤ sizeLine ∧ Q (.str y) H1) ∨ ∃ i : Int, x = .int i ∧ i.natAbs.log2 < 1920 ∧ Q (.str (toString i)) H1) : tFmt te σ H Q := h
end
theorem tos_nat (n : Nat) : (Str.ofString (toString (n : Int))) = mkS (numL n) := ext_tl (tl_num n)
end HH
namespace HH
open PySem PySem.Spec PyProof.Rows L2 PySem.SeqAt TL
/-- a list comprehension over the signs of a text -/
theorem lc_strW {z : Str} {g : TG} {tt : TT} {te : TE} {vs : List Nat} {σ : L2.St} {H1 : Hp} {D : Addr} {Qd : Hp → Prop} (σ' : L2.St) (hw : wipe σ vs = σ') (Pv : Nat → Hp → Prop) (h0 : Pv 0 (upd H1 D (.lst [])))
    (hs : ∀ i c H, (cds z)[i]? = some c → Pv i H → g (.str ⟨#[c]⟩) σ' H fun σ2 H2 => wipe σ2 vs = σ' ∧ tt σ2 H2 fun b H3 =>
      if b = true then te σ2 H3 fun y H4 => ∃ acc, H4 D = some (.lst acc) ∧ acc.length < sizeLine ∧ Pv (i + 1) (upd H4 D (.lst (acc ++ [y]))) else Pv (i + 1) H3) (hd : ∀ H, Pv (cds z).length H → Qd H) :
    ∃ W : Nat → Nat → Hp → Prop, (∃ m, W 0 m (upd H1 D (.lst []))) ∧ ∀ i m H, W i m H →
      ((Its z).stop i H ∧ Qd H) ∨ ((Its z).go i H ∧ ∃ Nx : Hp → Prop, (∀ H', Nx H' → ∃ m', m' < m ∧ W (i + 1) m' H') ∧ ∀ x H', (Its z).yld i H x H' → g x (wipe σ vs) H' fun σ2 H2 => wipe σ2 vs = wipe σ vs ∧ tt σ2 H2 fun b H3 =>
        if b = true then te σ2 H3 fun y H4 => ∃ acc, H4 D = some (.lst acc) ∧ acc.length < sizeLine ∧ Nx (upd H4 D (.lst (acc ++ [y]))) else Nx H3) := by
  subst hw
  refine lc_it walk_str Pv h0 (fun _ _ _ _ => True.intro) (fun i x H H' hi p y => ?_) fun H p => hd H (by rw [show (cds z).length = z.cps.size from Array.length_toList]; exact p)
  obtain ⟨rfl, c, hc, rfl⟩ := y
  exact hs i c _ (by rw [← hc]; exact Array.getElem?_toList) p
end HH
namespace HH
open PySem PySem.Spec PyProof.Rows L2 PySem.SeqAt TL
theorem le1 (a c : Nat) : (!decide (([c] : List Nat) < [a])) = decide (a ≤ c) := by
  by_cases h : a ≤ c
  · rw [decide_eq_true h, decide_eq_false]; rfl
    intro w
    rw [List.cons_lt_cons_iff] at w
    rcases w with w | ⟨_, w⟩
    · omega
    · exact absurd w (List.lt_irrefl _)
  · rw [decide_eq_false h, decide_eq_true]; rfl
    rw [List.cons_lt_cons_iff]
    exact .inl (by omega)
theorem rd_all {K : PySem.W.Frag} {H : Hp} {Q : VK} {p : Addr} {bs : List Bool} (h1 : H p = some (.lst (bs.map V.bl))) (h : Q (.bl (bs.all id)) H) : rAll K [.ref p] H Q := ⟨p, bs, rfl, sql h1, h⟩
theorem op_inDK {X : Cx} {K : PySem.W.Frag} (hu : X.A.units + 65 < cLine) (hX : X.K = K := by rfl) : OpR X (compareOp .In) (rInD K) := by subst hX; exact op_inD hu
/-- pairs, or none -/
def encO : Option (Str × Int) → PyData
  | none => .none
  | some q => encQ q
def IsO (K : PySem.W.Frag) (H : Hp) : Option (Str × Int) → V → Prop
  | none, v => v = .non
  | some q, v => ∃ u, v = .ref u ∧ SqT K H u [.str q.1, .int q.2]
def IsOs (K : PySem.W.Frag) (H : Hp) : List (Option (Str × Int)) → List V → Prop
  | [], vs => vs = []
  | o :: os, vs => ∃ v r, vs = v :: r ∧ IsO K H o v ∧ IsOs K H os r
theorem IsO.keep {K : PySem.W.Frag} {H H' : Hp} (t : Tup K H H') : ∀ {o : Option (Str × Int)} {v : V}, IsO K H o v → IsO K H' o v
  | none, _, h => h
  | some _, _, ⟨u, e, h⟩ => ⟨u, e, t _ _ h⟩
theorem IsOs.keep {K : PySem.W.Frag} {H H' : Hp} (t : Tup K H H') : ∀ {os : List (Option (Str × Int))} {vs : List V}, IsOs K H os vs → IsOs K H' os vs
  | [], _, h => h
  | _ :: _, _, ⟨v, r, e, h1, h2⟩ => ⟨v, r, e, h1.keep t, IsOs.keep t h2⟩
theorem IsOs.app {K : PySem.W.Frag} {H : Hp} {ps : List (Option (Str × Int))} {us : List V} (h2 : IsOs K H ps us) : ∀ {os : List (Option (Str × Int))} {vs : List V}, IsOs K H os vs → IsOs K H (os ++ ps) (vs ++ us)
  | [], _, h => by rw [show _ = [] from h]; exact h2
  | _ :: _, _, ⟨v, r, e, h1, h3⟩ => ⟨v, r ++ us, by rw [e]; rfl, h1, IsOs.app h2 h3⟩
theorem dp_os {K : PySem.W.Frag} {H : Hp} : ∀ {os : List (Option (Str × Int))} {vs : List V}, IsOs K H os vs → DpAll K H vs (os.map encO)
  | [], vs, h => by rw [show vs = [] from h]; exact .nil
  | none :: os, vs, ⟨v, r, e, h1, h2⟩ => by
    rw [e, show v = .non from h1]
    exact .cons .non (dp_os h2)
  | some q :: os, vs, ⟨v, r, e, ⟨u, e2, h1⟩, h2⟩ => by
    rw [e, e2]
    exact .cons (.tup h1 (.cons (.str q.1) (.cons (.int q.2) .nil))) (dp_os h2)
theorem lay_os : ∀ {os : List (Option (Str × Int))}, (∀ q, some q ∈ os → LowH q.1) → PyData.canLayAll0 (os.map encO) = true
  | [], _ => by simp [PyData.canLayAll0]
  | none :: os, h => by
    rw [List.map_cons, PyData.canLayAll0, lay_os fun q hq => h q (List.mem_cons_of_mem _ hq)]
    simp [encO, PyData.canLay0]
  | some q :: os, h => by
    rw [List.map_cons, PyData.canLayAll0, lay_os fun q hq => h q (List.mem_cons_of_mem _ hq)]
    simp [encO, encQ, PyData.canLay0, PyData.canLayAll0, lowH_ok (h q List.mem_cons_self)]
theorem dep_os : ∀ (os : List (Option (Str × Int))), PyData.depthAll (os.map encO) ≤ 2
  | [] => by simp [PyData.depthAll]
  | none :: os => by
    have := dep_os os
    simp only [List.map_cons, PyData.depthAll, PyData.depth, encO]
    omega
  | some q :: os => by
    have := dep_os os
    simp only [List.map_cons, PyData.depthAll, PyData.depth, encO, encQ]
    omega
theorem any_os : ∀ {os : List (Option (Str × Int))}, ((os.map encO).any fun z => PyData.eqv z .none) = decide (none ∈ os)
  | [] => by simp
  | none :: os => by simp [encO, PyData.eqv]
  | some q :: os => by
    rw [List.map_cons, List.any_cons, any_os]
    simp [encO, encQ, PyData.eqv]
theorem rd_noneIn {K : PySem.W.Frag} {H : Hp} {Q : VK} {l : Addr} {os : List (Option (Str × Int))} {vs : List V} (hl : H l = some (.lst vs)) (ho : IsOs K H os vs) (lo : ∀ q, some q ∈ os → LowH q.1) (h : Q (.bl (decide (none ∈ os))) H) : rInD K .non (.ref l) H Q := by
  refine ⟨.none, os.map encO, .non, .lst (sql hl) (dp_os ho), ?_, ?_, by rw [any_os]; exact h⟩
  · unfold PySem.SeqAt.shaped
    simp [PyData.canLay0, PyData.depth]
  · unfold PySem.SeqAt.shaped
    rw [Bool.and_eq_true]
    refine ⟨by simp only [PyData.canLay0, lay_os lo], decide_eq_true ?_⟩
    have := dep_os os
    simp only [PyData.depth]
    omega
end HH
namespace HH
open PySem PySem.Spec PyProof.Rows L2 PySem.SeqAt TL
theorem rd_isNi {H : Hp} {Q : VK} {i : Int} (h : Q (.bl false) H) : rIsN (V.int i) V.non H Q := ⟨rfl, by rw [decide_eq_false (by intro w; cases w)]; exact h⟩
theorem rd_isNr {H : Hp} {Q : VK} {a : Addr} (h : Q (.bl false) H) : rIsN (V.ref a) V.non H Q := ⟨rfl, by rw [decide_eq_false (by intro w; cases w)]; exact h⟩
theorem rd_isNt {H : Hp} {Q : VK} (h : Q (.bl true) H) : rIsN V.non V.non H Q := ⟨rfl, by rw [decide_eq_true rfl]; exact h⟩
end HH
namespace HH
/-- neighbours in order: all in order -/
theorem pw_adj : ∀ {l : List (List Nat)}, (∀ j (hj : j + 1 < l.length), l[j]'(by omega) < l[j + 1]) → l.Pairwise (· < ·)
  | [], _ => .nil
  | [a], _ => by simp
  | a :: b :: r, h => by
    have ih := pw_adj (l := b :: r) fun j hj => h (j + 1) (by simp only [List.length_cons] at hj ⊢; omega)
    refine List.pairwise_cons.mpr ⟨fun c hc => ?_, ih⟩
    have h0 : a < b := h 0 (by simp)
    rcases List.mem_cons.mp hc with e | e
    · rw [e]; exact h0
    · exact List.lt_trans h0 ((List.pairwise_cons.mp ih).1 c e)
end HH
namespace HH
open PySem PySem.Spec PyProof.Rows L2 PySem.SeqAt TL
theorem isOs_ks {K : PySem.W.Frag} {H : Hp} : ∀ {qs : Tab} {vs : List V}, IsOs K H (qs.map some) vs → IsKs K H (qs.map fun q => .tup [.text q.1, .num q.2]) vs
  | [], _, h => h
  | q :: qs, _, ⟨v, r, e, ⟨u, e2, h1⟩, h2⟩ => ⟨v, r, e, by rw [e2]; exact ⟨u, _, rfl, h1, ⟨_, _, rfl, rfl, _, _, rfl, rfl, rfl⟩⟩, isOs_ks h2⟩
theorem IsOs.len {K : PySem.W.Frag} {H : Hp} : ∀ {os : List (Option (Str × Int))} {vs : List V}, IsOs K H os vs → vs.length = os.length
  | [], _, h => by rw [show _ = [] from h]; rfl
  | _ :: _, _, ⟨v, r, e, _, h2⟩ => by rw [e, List.length_cons, List.length_cons, IsOs.len h2]
theorem IsOs.get {K : PySem.W.Frag} {H : Hp} : ∀ {os : List (Option (Str × Int))} {vs : List V} {i : Nat} {o : Option (Str × Int)} {v : V}, IsOs K H os vs → os[i]? = some o → vs[i]? = some v → IsO K H o v
  | _ :: _, _, 0, o, v, ⟨v', r, e, h1, _⟩, ho, hv => by
    subst e
    obtain rfl := Option.some.inj hv
    obtain rfl := Option.some.inj ho
    exact h1
  | _ :: _, _, i + 1, o, v, ⟨v', r, e, _, h2⟩, ho, hv => by
    subst e
    exact IsOs.get h2 (by simpa using ho) (by simpa using hv)
theorem all_some {α : Type} : ∀ {os : List (Option α)}, none ∉ os → ∃ qs : List α, os = qs.map some
  | [], _ => ⟨[], rfl⟩
  | none :: _, h => absurd List.mem_cons_self h
  | some q :: os, h => by
    obtain ⟨qs, e⟩ := all_some (os := os) fun w => h (List.mem_cons_of_mem _ w)
    exact ⟨q :: qs, by rw [e]; rfl⟩
theorem nm_low {z : Str} (h : isNmL (cds z) = true) : LowH z := fun c hc => by have := (isNmL_iff.mp h).2.2 c hc; omega
end HH
namespace HH
open PySem PySem.Spec PyProof.Rows L2 PySem.SeqAt TL
theorem cds_tos {n : Int} (h : 0 ≤ n) : cds (Str.ofString (toString n)) = numL n.toNat := by
  obtain ⟨k, rfl⟩ := Int.eq_ofNat_of_zero_le h
  rw [Int.toNat_natCast]
  exact tl_num k
theorem log_30 {n : Int} (h0 : 0 ≤ n) (h : n ≤ 10 ^ 30) : n.natAbs.log2 < 1920 := by
  by_cases c : n.natAbs = 0
  · rw [c]; decide
  · exact (Nat.log2_lt c).mpr (Nat.lt_of_le_of_lt (m := 10 ^ 30) (by omega) (by decide +kernel))
theorem num_31 {n : Int} (h0 : 0 ≤ n) (h : n ≤ 10 ^ 30) : (numL n.toNat).length ≤ 31 := numL_len (by decide) (Nat.lt_of_le_of_lt (m := 10 ^ 30) (by omega) (by decide))
theorem pairT_len {q : Str × Int} (h1 : q.1.length ≤ 8) (h2 : 1 ≤ q.2) (h3 : q.2 ≤ 10 ^ 30) : (pairT q).length ≤ 40 := by
  rw [len_cds] at h1
  unfold pairT
  split
  · omega
  · have := num_31 (n := q.2) (by omega) h3
    rw [List.length_append, List.length_cons]; omega
theorem sum_40 : ∀ {ps : Tab}, (∀ q ∈ ps, q.1.length ≤ 8 ∧ 1 ≤ q.2 ∧ q.2 ≤ 10 ^ 30) → ((ps.map fun q => mkS (pairT q)).map (·.length)).sum ≤ 40 * ps.length
  | [], _ => by simp
  | q :: ps, h => by
    have ih := sum_40 fun x hx => h x (List.mem_cons_of_mem _ hx)
    obtain ⟨a, b, c⟩ := h q List.mem_cons_self
    have := pairT_len a b c
    simp only [List.map_cons, List.sum_cons, List.length_cons]
    rw [len_cds, cds_mk]
    omega
section
variable {σ : L2.St} {H : Hp} {Q : VK}
theorem rd_js3 {i j : Nat} {z m : Str} {n : Int} {R : Str → Hp → Prop} (e1 : σ[i]? = some (some (.str z))) (e2 : σ[j]? = some (some (.int n))) (hz : z.length ≤ 1000) (hm : m.length ≤ 1000) (h0 : 0 ≤ n) (hn : n ≤ 10 ^ 30)
    (h : ∀ u : Str, cds u = cds z ++ (cds m ++ numL n.toNat) → R u H) : tJs [tFmt (tVar i), tC (.str m), tFmt (tVar j)] Str.empty σ H R := by
  have l31 := num_31 h0 hn
  have ec := cds_tos h0
  refine ⟨_, e1, .inl ⟨z, rfl, sz_le (by omega), z, rfl, ?_, m, rfl, ?_, _, e2, .inr ⟨n, rfl, log_30 h0 hn, _, rfl, ?_, ?_⟩⟩⟩
  · rw [len_cds, cds_app, List.length_append, ← len_cds z]
    exact sz_le (by show 0 + z.length ≤ _; omega)
  · rw [len_cds, cds_app, cds_app, List.length_append, List.length_append, ← len_cds z, ← len_cds m]
    exact sz_le (by show 0 + z.length + m.length ≤ _; omega)
  · rw [len_cds, cds_app, cds_app, cds_app, List.length_append, List.length_append, List.length_append, ← len_cds z, ← len_cds m, show (cds (Str.ofString (toString n))).length = (numL n.toNat).length by rw [ec]]
    exact sz_le (by show 0 + z.length + m.length + _ ≤ _; omega)
  · refine h _ ?_
    rw [cds_app, cds_app, cds_app, show cds (Str.ofString (toString n)) = numL n.toNat from ec, List.append_assoc, List.append_assoc]
    rfl
end
end HH
namespace HH
open PySem PySem.Spec PyProof.Rows L2 PySem.SeqAt TL
theorem abc_mem (c : Nat) : c ∈ cds "abcdefghijklmnopqrstuvwxyz" ↔ 97 ≤ c ∧ c ≤ 122 := by
  have : cds "abcdefghijklmnopqrstuvwxyz" = List.range' 97 26 := by decide +kernel
  rw [this, List.mem_range'_1]; omega
theorem dig_mem (c : Nat) : c ∈ cds "0123456789" ↔ 48 ≤ c ∧ c ≤ 57 := by
  have : cds "0123456789" = List.range' 48 10 := by decide +kernel
  rw [this, List.mem_range'_1]; omega
def leadO (least : Int) (d : List Nat) : Int := match numO d with | some n => if (n : Int) < least then -1 else n | none => -1
theorem leadO_one (d : List Nat) : leadO 1 d = leadS d := rfl
/-- a pair's text by its pieces -/
theorem pairS_pieces (y : List Nat) : pairS y = match sp1 94 y with
    | [a] => if isNmL a = true then some (mkS a, 1) else none
    | [a, b] => if isNmL a = true then (if leadO 2 b < 0 then none else some (mkS a, leadO 2 b)) else none
    | _ => none := by
  rw [sp1_cut]
  cases e : cut1 94 y with
  | none => rw [pairS_none e]
  | some q =>
    rw [pairS_some e]
    simp only
    rw [sp1_cut 94 q.2]
    cases e2 : cut1 94 q.2 with
    | none =>
      simp only
      split
      · unfold leadO
        cases numO q.2 with
        | none => simp
        | some n =>
          simp only
          by_cases c : n < 2
          · rw [if_pos c, if_pos (by rw [if_pos (by omega)]; decide)]
          · rw [if_neg c, if_neg (by rw [if_neg (by omega)]; omega), if_neg (by omega)]
      · rfl
    | some r =>
      simp only
      obtain ⟨p, ps, e3⟩ := sp1_ne 94 r.2
      rw [e3]
      have h94 : numO q.2 = none := by
        cases en : numO q.2 with
        | none => rfl
        | some n =>
          have := (numO_some en).2.2.1 94 (by rw [(cut1_some (a := r.1) (b := r.2) e2).1]; simp)
          omega
      rw [h94]
      split <;> rfl
/-- what all pairs of a product say, one by one -/
theorem pairsS_some {ps : List (List Nat)} {m : Tab} (h : pairsS ps = some m) : ps.map pairS = m.map some ∧ (m.map fun q => cds q.1).Pairwise (· < ·) := by
  unfold pairsS at h
  cases e : ps.mapM pairS with
  | none => rw [e] at h; cases h
  | some m' =>
    rw [e] at h
    simp only at h
    split at h
    · rename_i c
      cases h
      exact ⟨mapM_some.mp e, of_decide_eq_true c⟩
    · cases h
theorem pairsS_of {ps : List (List Nat)} {m : Tab} (h1 : ps.map pairS = m.map some) (h2 : (m.map fun q => cds q.1).Pairwise (· < ·)) : pairsS ps = some m := by
  unfold pairsS
  rw [mapM_some.mpr h1]
  simp only
  rw [if_pos (decide_eq_true h2)]
theorem pairsS_no {ps : List (List Nat)} {p : List Nat} (hp : p ∈ ps) (h : pairS p = none) : pairsS ps = none := by
  unfold pairsS
  rw [mapM_none hp h]
/-- out of order -/
theorem pairsS_order {ps : List (List Nat)} {r : Tab} {q q2 : Str × Int} {i : Nat} (hi : i < ps.length) (h1 : (ps.take i).map pairS = (r ++ [q]).map some) (h2 : pairS ps[i] = some q2) (h3 : ¬ cds q.1 < cds q2.1) : pairsS ps = none := by
  cases e : pairsS ps with
  | none => rfl
  | some m =>
    obtain ⟨g1, g2⟩ := pairsS_some e
    have lr : i = r.length + 1 := by
      have := congrArg List.length h1
      simp only [List.length_map, List.length_take, List.length_append, List.length_cons, List.length_nil] at this
      omega
    have lm : m.length = ps.length := by
      have := congrArg List.length g1
      simpa using this.symm
    have em : (m.take i).map some = (r ++ [q]).map some := by rw [← h1, List.map_take, List.map_take, g1]
    have em2 : m.take i = r ++ [q] := (List.map_inj_right (fun _ _ w => Option.some.inj w)).mp em
    have hq : m[r.length]? = some q := by
      have : (m.take i)[r.length]? = some q := by rw [em2]; simp
      rw [List.getElem?_take] at this
      split at this
      · exact this
      · cases this
    have hq2 : m[i]? = some q2 := by
      have h5 : (ps.map pairS)[i]? = some (some q2) := by rw [List.getElem?_map, List.getElem?_eq_getElem hi, Option.map_some, h2]
      rw [g1, List.getElem?_map] at h5
      obtain ⟨x, hx, e5⟩ := Option.map_eq_some_iff.mp h5
      cases e5
      exact hx
    have b1 := (List.getElem?_eq_some_iff.mp hq)
    have b2 := (List.getElem?_eq_some_iff.mp hq2)
    have := List.pairwise_iff_getElem.mp g2 r.length i (by rw [List.length_map]; exact b1.1) (by rw [List.length_map]; exact b2.1) (by omega)
    rw [List.getElem_map, List.getElem_map, b1.2, b2.2] at this
    exact absurd this h3
end HH
namespace HH
open PySem PySem.Spec PyProof.Rows L2 PySem.SeqAt TL
theorem cut_from1 (x : V) (xs : List V) : cutV (x :: xs) (some 1) none = xs := by
  unfold cutV
  rw [sIx_le' (k := 1) (by decide) rfl]
  rw [show min 1 (x :: xs).length = 1 by simp only [List.length_cons]; omega]
  rw [show HT.sIx (x :: xs).length (x :: xs).length none = (x :: xs).length from rfl]
  show xs.take (xs.length + 1 - 1) = xs
  exact List.take_of_length_le (by omega)
theorem rd_sign {S : Str} {k : Int} {H : Hp} {Q : VK} (hz : S.length ≤ 1000) (k0 : 0 ≤ k) (k1 : k < (S.length : Int)) (h : ∀ a : Nat, Q (.str ⟨#[a]⟩) H) : rIxS (.str S) (.int k) H Q := by
  obtain ⟨j, rfl⟩ := Int.eq_ofNat_of_zero_le k0
  have hj : j < (cds S).length := by rw [← len_cds]; omega
  exact rd_ixs (sz_le (by omega)) (atI_nat (List.getElem?_eq_getElem hj)) (h _)
theorem len_upto (z : Str) {i : Int} (h : 0 ≤ i) : (cutS z none (some i)).length = min i.toNat z.length := by
  rw [len_cds, cds_upto z h, List.length_take, ← len_cds]
theorem len_from (z : Str) {i : Int} (h : 0 ≤ i) : (cutS z (some i) none).length = z.length - i.toNat := by
  rw [len_cds, cds_from z h, List.length_drop, ← len_cds]
theorem len_app (a b : Str) : (a ++ b).length = a.length + b.length := by rw [len_cds, cds_app, List.length_append, ← len_cds, ← len_cds]
end HH
namespace HH
open PySem PySem.Spec PyProof.Rows L2 PySem.SeqAt TL
theorem prodS_len {t : List Nat} {ps : Tab} (h : prodS t = some ps) : ps.length ≤ t.length + 1 := by
  unfold prodS at h
  split at h
  · cases h; simp
  · have := congrArg List.length (pairsS_some h).1
    rw [List.length_map, List.length_map] at this
    rw [← this]
    exact sp1_len 42 t
theorem strs_of : ∀ {L : List V}, (∀ v ∈ L, ∃ y : Str, v = .str y ∧ y.length ≤ 6000) → ∃ M : List Str, L = M.map V.str ∧ ∀ y ∈ M, y.length ≤ 6000
  | [], _ => ⟨[], rfl, by simp⟩
  | v :: L, h => by
    obtain ⟨y, e, ly⟩ := h v List.mem_cons_self
    obtain ⟨M, e2, lM⟩ := strs_of fun x hx => h x (List.mem_cons_of_mem _ hx)
    refine ⟨y :: M, by rw [e, e2]; rfl, fun x hx => ?_⟩
    rcases List.mem_cons.mp hx with w | w
    · rw [w]; exact ly
    · exact lM x w
theorem lst_of {L : List V} {n : Nat} (hall : ∀ v ∈ L, ∃ y : Str, v = .str y ∧ y.length ≤ 6000) (hn : L.length = n) : ∃ M : List Str, HO.lst L = .lst (M.map V.str) ∧ M.length = n ∧ ∀ y ∈ M, y.length ≤ 6000 := by
  obtain ⟨M, e, lM⟩ := strs_of hall
  exact ⟨M, by rw [e], by rw [← hn, e, List.length_map], lM⟩
end HH
namespace HH
open PySem PySem.Spec PyProof.Rows L2 PySem.SeqAt TL
theorem rd_tp1 {tk tv : TE} {σ : L2.St} {H : Hp} {Q : List (V × V) → Hp → Prop} (h : tk σ H fun x H1 => tv σ H1 fun y H2 => Q [(x, y)] H2) : tPairs [(tk, tv)] σ H Q := h
theorem filt_step1 {α : Type} (pr : α → Bool) (S : List α) {i : Nat} (h : i < S.length) : (S.take (i + 1)).filter pr = (S.take i).filter pr ++ if pr S[i] = true then [S[i]] else [] := by
  rw [← List.take_append_getElem h, List.filter_append]
  cases e : pr S[i] <;> simp [e]
theorem joinL_len (S : List Nat) (k : Nat) : ∀ (L : List (List Nat)), (∀ p ∈ L, p.length ≤ k) → (joinL S L).length ≤ (k + S.length) * L.length
  | [], _ => by simp [joinL]
  | [p], h => by
    have := h p List.mem_cons_self
    simp only [joinL, List.length_cons, List.length_nil]
    omega
  | p :: q :: r, h => by
    have ih := joinL_len S k (q :: r) fun x hx => h x (List.mem_cons_of_mem _ hx)
    have := h p List.mem_cons_self
    show (p ++ (S ++ joinL S (q :: r))).length ≤ _
    rw [List.length_append, List.length_append, List.length_cons, Nat.mul_succ]
    omega
theorem textP_len {ps : Tab} (h : ∀ q ∈ ps, q.1.length ≤ 8 ∧ 1 ≤ q.2 ∧ q.2 ≤ 10 ^ 30) (hl : ps.length ≤ 4) : (textP ps).length ≤ 200 := by
  unfold textP
  split
  · simp
  · have := joinL_len [42] 40 (ps.map pairT) fun p hp => by
      obtain ⟨q, hq, rfl⟩ := List.mem_map.mp hp
      obtain ⟨a, b, c⟩ := h q hq
      exact pairT_len a b c
    rw [List.length_map] at this
    simp only [List.length_cons, List.length_nil] at this
    omega
end HH
namespace K94
open PySem PySem.Spec PyProof.Rows L2 HH TL
def topS (i : Nat) : Stmt := PySem.Challenge.pw_howhigh_k94_product_texts_there_and_back.main.body.getD i (.Pass ⟨0, 0, 0, 0⟩)
abbrev s_BadText___init__ : Stmt := inClass (topS 2) 0
abbrev N_BadText___init__ : List Str := ["self", "line"]
theorem sc_BadText___init__ : FnScope N_BadText___init__ ["self", "line"] (defScope s_BadText___init__) := ⟨rfl, rfl, rfl, by decide +kernel, rfl, by decide +kernel, by decide +kernel⟩
abbrev s_is_name : Stmt := topS 5
abbrev N_is_name : List Str := ["thing", "letter"]
theorem sc_is_name : FnScope N_is_name ["thing"] (defScope s_is_name) := ⟨rfl, rfl, rfl, by decide +kernel, rfl, by decide +kernel, by decide +kernel⟩
abbrev s_ascending : Stmt := topS 6
abbrev N_ascending : List Str := ["things", "k"]
theorem sc_ascending : FnScope N_ascending ["things"] (defScope s_ascending) := ⟨rfl, rfl, rfl, by decide +kernel, rfl, by decide +kernel, by decide +kernel⟩
abbrev s_number_in : Stmt := topS 9
abbrev N_number_in : List Str := ["text", "letter"]
theorem sc_number_in : FnScope N_number_in ["text"] (defScope s_number_in) := ⟨rfl, rfl, rfl, by decide +kernel, rfl, by decide +kernel, by decide +kernel⟩
abbrev s_product_in : Stmt := topS 10
abbrev N_product_in : List Str := ["text"]
theorem sc_product_in : FnScope N_product_in ["text"] (defScope s_product_in) := ⟨rfl, rfl, rfl, by decide +kernel, rfl, by decide +kernel, by decide +kernel⟩
abbrev s__product_of : Stmt := topS 11
abbrev N__product_of : List Str := ["factors", "factor", "pairs", "name", "_"]
theorem sc__product_of : FnScope N__product_of ["factors"] (defScope s__product_of) := ⟨rfl, rfl, rfl, by decide +kernel, rfl, by decide +kernel, by decide +kernel⟩
abbrev s__pair_in : Stmt := topS 12
abbrev N__pair_in : List Str := ["text", "name", "sign", "digits", "power"]
theorem sc__pair_in : FnScope N__pair_in ["text"] (defScope s__pair_in) := ⟨rfl, rfl, rfl, by decide +kernel, rfl, by decide +kernel, by decide +kernel⟩
abbrev s_product_text : Stmt := topS 14
abbrev N_product_text : List Str := ["product", "name", "power"]
theorem sc_product_text : FnScope N_product_text ["product"] (defScope s_product_text) := ⟨rfl, rfl, rfl, by decide +kernel, rfl, by decide +kernel, by decide +kernel⟩
abbrev s_read_product : Stmt := topS 16
abbrev N_read_product : List Str := ["text", "product"]
theorem sc_read_product : FnScope N_read_product ["text"] (defScope s_read_product) := ⟨rfl, rfl, rfl, by decide +kernel, rfl, by decide +kernel, by decide +kernel⟩
abbrev s_l_dice : Stmt := topS 18
abbrev N_l_dice : List Str := ["_law_script", "_law_cell"]
theorem sc_l_dice : FnScope N_l_dice ["_law_script"] (defScope s_l_dice) := ⟨rfl, rfl, rfl, by decide +kernel, rfl, by decide +kernel, by decide +kernel⟩
abbrev s_l_draw : Stmt := topS 19
abbrev N_l_draw : List Str := ["_law_dice_here", "_law_many", "_law_cell", "_law_drawn", "_law_number_here"]
theorem sc_l_draw : FnScope N_l_draw ["_law_dice_here", "_law_many"] (defScope s_l_draw) := ⟨rfl, rfl, rfl, by decide +kernel, rfl, by decide +kernel, by decide +kernel⟩
abbrev s_l_word : Stmt := topS 20
abbrev N_l_word : List Str := ["_law_dice_here", "_law_most", "_law_letters", "_law_word_here", "_law_k"]
theorem sc_l_word : FnScope N_l_word ["_law_dice_here", "_law_most"] (defScope s_l_word) := ⟨rfl, rfl, rfl, by decide +kernel, rfl, by decide +kernel, by decide +kernel⟩
abbrev s_l_names : Stmt := topS 21
abbrev N_l_names : List Str := ["_law_dice_here", "_law_many", "_law_alike", "_law_base", "_law_names_here", "_law_k", "_law_word_here", "_law_at", "_law_sign"]
theorem sc_l_names : FnScope N_l_names ["_law_dice_here", "_law_many"] (defScope s_l_names) := ⟨rfl, rfl, rfl, by decide +kernel, rfl, by decide +kernel, by decide +kernel⟩
abbrev s_l_is_integer : Stmt := topS 22
abbrev N_l_is_integer : List Str := ["_law_thing"]
theorem sc_l_is_integer : FnScope N_l_is_integer ["_law_thing"] (defScope s_l_is_integer) := ⟨rfl, rfl, rfl, by decide +kernel, rfl, by decide +kernel, by decide +kernel⟩
abbrev s_l_same : Stmt := topS 23
abbrev N_l_same : List Str := ["_law_one", "_law_other", "_law_k"]
theorem sc_l_same : FnScope N_l_same ["_law_one", "_law_other"] (defScope s_l_same) := ⟨rfl, rfl, rfl, by decide +kernel, rfl, by decide +kernel, by decide +kernel⟩
abbrev s_l_pair_text : Stmt := topS 24
abbrev N_l_pair_text : List Str := ["_law_pair"]
theorem sc_l_pair_text : FnScope N_l_pair_text ["_law_pair"] (defScope s_l_pair_text) := ⟨rfl, rfl, rfl, by decide +kernel, rfl, by decide +kernel, by decide +kernel⟩
abbrev s_l_product_text : Stmt := topS 25
abbrev N_l_product_text : List Str := ["_law_product", "_law_pair"]
theorem sc_l_product_text : FnScope N_l_product_text ["_law_product"] (defScope s_l_product_text) := ⟨rfl, rfl, rfl, by decide +kernel, rfl, by decide +kernel, by decide +kernel⟩
abbrev s_l_is_name : Stmt := topS 26
abbrev N_l_is_name : List Str := ["_law_word_here", "_law_sign"]
theorem sc_l_is_name : FnScope N_l_is_name ["_law_word_here"] (defScope s_l_is_name) := ⟨rfl, rfl, rfl, by decide +kernel, rfl, by decide +kernel, by decide +kernel⟩
abbrev s_l_number : Stmt := topS 27
abbrev N_l_number : List Str := ["_law_word_here", "_law_least", "_law_sign"]
theorem sc_l_number : FnScope N_l_number ["_law_word_here", "_law_least"] (defScope s_l_number) := ⟨rfl, rfl, rfl, by decide +kernel, rfl, by decide +kernel, by decide +kernel⟩
abbrev s_l_pairs_in : Stmt := topS 28
abbrev N_l_pairs_in : List Str := ["_law_parts", "_law_found", "_law_last", "_law_part", "_law_pieces", "_law_power"]
theorem sc_l_pairs_in : FnScope N_l_pairs_in ["_law_parts"] (defScope s_l_pairs_in) := ⟨rfl, rfl, rfl, by decide +kernel, rfl, by decide +kernel, by decide +kernel⟩
abbrev s_l_term_in : Stmt := topS 29
abbrev N_l_term_in : List Str := ["_law_text", "_law_parts", "_law_lead", "_law_product"]
theorem sc_l_term_in : FnScope N_l_term_in ["_law_text"] (defScope s_l_term_in) := ⟨rfl, rfl, rfl, by decide +kernel, rfl, by decide +kernel, by decide +kernel⟩
abbrev s_l_spoiled_sign : Stmt := topS 30
abbrev N_l_spoiled_sign : List Str := ["_law_dice_here", "_law_line", "_law_kind", "_law_signs", "_law_sign", "_law_at"]
theorem sc_l_spoiled_sign : FnScope N_l_spoiled_sign ["_law_dice_here", "_law_line", "_law_kind"] (defScope s_l_spoiled_sign) := ⟨rfl, rfl, rfl, by decide +kernel, rfl, by decide +kernel, by decide +kernel⟩
abbrev s_l_read : Stmt := topS 31
abbrev N_l_read : List Str := ["_law_thing", "_law_line", "_law_found", "e"]
theorem sc_l_read : FnScope N_l_read ["_law_thing"] (defScope s_l_read) := ⟨rfl, rfl, rfl, by decide +kernel, rfl, by decide +kernel, by decide +kernel⟩
abbrev s_l_drawn_power : Stmt := topS 32
abbrev N_l_drawn_power : List Str := ["_law_dice_here", "_law_kind"]
theorem sc_l_drawn_power : FnScope N_l_drawn_power ["_law_dice_here"] (defScope s_l_drawn_power) := ⟨rfl, rfl, rfl, by decide +kernel, rfl, by decide +kernel, by decide +kernel⟩
abbrev s_l_text_of_menu : Stmt := topS 33
abbrev N_l_text_of_menu : List Str := ["_law_dice_here", "_law_name", "_law_other", "_law_menu"]
theorem sc_l_text_of_menu : FnScope N_l_text_of_menu ["_law_dice_here", "_law_name", "_law_other"] (defScope s_l_text_of_menu) := ⟨rfl, rfl, rfl, by decide +kernel, rfl, by decide +kernel, by decide +kernel⟩
abbrev s_l_answers : Stmt := topS 34
abbrev N_l_answers : List Str := ["_law_text", "_law_due", "_law_told"]
theorem sc_l_answers : FnScope N_l_answers ["_law_text"] (defScope s_l_answers) := ⟨rfl, rfl, rfl, by decide +kernel, rfl, by decide +kernel, by decide +kernel⟩
abbrev s_law : Stmt := topS 35
abbrev N_law : List Str := ["_law_script", "_law_dice_here", "_law_kinds", "_law_names_here", "_law_product", "_law_name", "_law_text", "_law_told", "_law_pair", "_law_small", "_law_kind", "_law_menu", "_law_things"]
theorem sc_law : FnScope N_law ["_law_script"] (defScope s_law) := ⟨rfl, rfl, rfl, by decide +kernel, rfl, by decide +kernel, by decide +kernel⟩
def DiceAt (H : Hp) (p c : Addr) : Prop := ∃ (cells : List Int) (pos pend seed cnt : Int), H p = some (.lst [.ref c, .int pos, .int pend, .int seed, .int cnt]) ∧ H c = some (.lst (cells.map V.int)) ∧
  0 ≤ pos ∧ (∀ x ∈ cells, 0 ≤ x) ∧ 0 ≤ pend ∧ 0 ≤ seed ∧ seed < 2147483648
theorem DiceAt.lst {H : Hp} {p c : Addr} (d : DiceAt H p c) : ∃ xs, H p = some (.lst xs) := let ⟨_, _, _, _, _, h, _⟩ := d; ⟨_, h⟩
theorem DiceAt.cel {H : Hp} {p c : Addr} (d : DiceAt H p c) : ∃ xs, H c = some (.lst xs) := let ⟨_, _, _, _, _, _, h, _⟩ := d; ⟨_, h⟩
/-- the dice stand when what they know stays -/
theorem DiceAt.keep {H H' : Hp} {p c : Addr} (d : DiceAt H p c) (s : Same H H') : DiceAt H' p c := by
  obtain ⟨cells, a, b, e, f, h1, h2, r⟩ := d
  exact ⟨cells, a, b, e, f, s _ _ h1, s _ _ h2, r⟩
/-- and when another thing is written -/
theorem DiceAt.mut {H : Hp} {p c l : Addr} {o : HO} (d : DiceAt H p c) (h1 : l ≠ p) (h2 : l ≠ c) : DiceAt (upd H l o) p c := by
  obtain ⟨cells, a, b, e, f, g1, g2, r⟩ := d
  exact ⟨cells, a, b, e, f, by rw [upd_ne h1.symm]; exact g1, by rw [upd_ne h2.symm]; exact g2, r⟩
theorem DiceAt.oth {H H' : Hp} {p c l : Addr} (d : DiceAt H p c) (h1 : l ≠ p) (h2 : l ≠ c) (e : ∀ b, b ≠ l → H' b = H b) : DiceAt H' p c := by
  obtain ⟨cells, a, b, k, f, g1, g2, r⟩ := d
  exact ⟨cells, a, b, k, f, by rw [e _ h1.symm]; exact g1, by rw [e _ h2.symm]; exact g2, r⟩
theorem DiceAt.new {H : Hp} {p c l : Addr} (d : DiceAt H p c) (n : H l = none) : l ≠ p ∧ l ≠ c := by
  obtain ⟨xs, h1⟩ := d.lst
  obtain ⟨ys, h2⟩ := d.cel
  exact ⟨fun e => (by rw [e, h1] at n; cases n), fun e => (by rw [e, h2] at n; cases n)⟩
def spDraw : Sp := fun vs H Q _ => ∃ (p c : Addr) (many : Int), vs = [.ref p, .int many] ∧ DiceAt H p c ∧ 1 ≤ many ∧ many ≤ 10 ^ 40 ∧
  ∀ (r : Int) (H' : Hp), 0 ≤ r → r < many → DiceAt H' p c → Fr p H H' → Q (.int r) H'
theorem use_draw {H : Hp} {p c : Addr} {many : Int} {Q : VK} {E : XK} (D : DiceAt H p c) (h1 : 1 ≤ many) (h2 : many ≤ 10 ^ 40) (q : ∀ (r : Int) (H' : Hp), 0 ≤ r → r < many → DiceAt H' p c → Fr p H H' → Q (.int r) H') : spDraw [.ref p, .int many] H Q E := ⟨p, c, many, rfl, D, h1, h2, q⟩
def spDice (K : PySem.W.Frag) : Sp := fun vs H Q _ => ∃ (a : Addr) (ns : List Int), vs = [.ref a] ∧ SqL K H a (ns.map V.int) ∧ ns.length ≤ 63 ∧
  ∀ (p c : Addr) (H' : Hp), H p = none → DiceAt H' p c → Same H H' → Q (.ref p) H'
theorem use_dice {K : PySem.W.Frag} {H : Hp} {a : Addr} {ns : List Int} {Q : VK} {E : XK} (h : SqL K H a (ns.map V.int)) (h1 : ns.length ≤ 63) (q : ∀ (p c : Addr) (H' : Hp), H p = none → DiceAt H' p c → Same H H' → Q (.ref p) H') : spDice K [.ref a] H Q E := ⟨a, ns, rfl, h, h1, q⟩
def spWord : Sp := fun vs H Q _ => ∃ (p c : Addr) (most : Int), vs = [.ref p, .int most] ∧ DiceAt H p c ∧ 1 ≤ most ∧ most ≤ 1000 ∧
  ∀ (z : Str) (H' : Hp), 1 ≤ z.length → (z.length : Int) ≤ most → Low z → DiceAt H' p c → Fr p H H' → Q (.str z) H'
theorem use_word {H : Hp} {p c : Addr} {most : Int} {Q : VK} {E : XK} (D : DiceAt H p c) (h1 : 1 ≤ most) (h2 : most ≤ 1000) (q : ∀ (z : Str) (H' : Hp), 1 ≤ z.length → (z.length : Int) ≤ most → Low z → DiceAt H' p c → Fr p H H' → Q (.str z) H') : spWord [.ref p, .int most] H Q E := ⟨p, c, most, rfl, D, h1, h2, q⟩
/-- names: one to eight small letters each, ascending, no two alike -/
def NamesOk (ys : List Str) : Prop := (∀ y ∈ ys, 1 ≤ y.length ∧ y.length ≤ 8 ∧ Low y) ∧ ys.Nodup ∧ sortedS ys = true
def spNames : Sp := fun vs H Q _ => ∃ (p c : Addr) (many : Int), vs = [.ref p, .int many] ∧ DiceAt H p c ∧ 1 ≤ many ∧ many ≤ 7 ∧
  ∀ (ys : List Str) (l : Addr) (H' : Hp), (ys.length : Int) = many → NamesOk ys → H l = none → H' l = some (.lst (ys.map V.str)) → DiceAt H' p c → Fr p H H' → Q (.ref l) H'
theorem use_names {H : Hp} {p c : Addr} {many : Int} {Q : VK} {E : XK} (D : DiceAt H p c) (h1 : 1 ≤ many) (h2 : many ≤ 7) (q : ∀ (ys : List Str) (l : Addr) (H' : Hp), (ys.length : Int) = many → NamesOk ys → H l = none → H' l = some (.lst (ys.map V.str)) → DiceAt H' p c → Fr p H H' → Q (.ref l) H') : spNames [.ref p, .int many] H Q E := ⟨p, c, many, rfl, D, h1, h2, q⟩

def spIsInt : Sp := fun vs H Q _ => ∃ i : Int, vs = [.int i] ∧ Q (.bl true) H
theorem use_isInt {H : Hp} {i : Int} {Q : VK} {E : XK} (q : Q (.bl true) H) : spIsInt [.int i] H Q E := ⟨i, rfl, q⟩
def spIsName : Sp := fun vs H Q _ => ∃ z : Str, vs = [.str z] ∧ z.length ≤ 100000 ∧ ∀ H', Same H H' → Q (.bl (isNmL (cds z))) H'
def spNumIn : Sp := fun vs H Q _ => ∃ z : Str, vs = [.str z] ∧ z.length ≤ 100000 ∧ (∀ n, numO (cds z) = some n → ∀ H', Same H H' → Q (.int (n : Int)) H') ∧ (numO (cds z) = none → ∀ H', Same H H' → Q .non H')
def spPairIn (K : PySem.W.Frag) : Sp := fun vs H Q _ => ∃ z : Str, vs = [.str z] ∧ z.length ≤ 100000 ∧ (∀ q, pairS (cds z) = some q → ∀ u H', Same H H' → SqT K H' u [.str q.1, .int q.2] → Q (.ref u) H') ∧ (pairS (cds z) = none → ∀ H', Same H H' → Q .non H')
def spAsc : Sp := fun vs H Q _ => ∃ (l : Addr) (ys : List Str), vs = [.ref l] ∧ H l = some (.lst (ys.map V.str)) ∧ ys.length ≤ 100000 ∧ ∀ H', Same H H' → Q (.bl (decide ((ys.map cds).Pairwise (· < ·)))) H'
def spProdOf (K : PySem.W.Frag) : Sp := fun vs H Q _ => ∃ (l : Addr) (ys : List Str), vs = [.ref l] ∧ H l = some (.lst (ys.map V.str)) ∧ ys.length ≤ 30000 ∧ (∀ y ∈ ys, y.length ≤ 100000) ∧
  (∀ ps, pairsS (ys.map cds) = some ps → ∀ t H', Same H H' → IsK K H' (prodK ps) (.ref t) → Q (.ref t) H') ∧ (pairsS (ys.map cds) = none → ∀ H', Same H H' → Q .non H')
def spProdIn (K : PySem.W.Frag) : Sp := fun vs H Q _ => ∃ z : Str, vs = [.str z] ∧ z.length ≤ 20000 ∧
  (∀ ps, prodS (cds z) = some ps → ∀ t H', Same H H' → IsK K H' (prodK ps) (.ref t) → Q (.ref t) H') ∧ (prodS (cds z) = none → ∀ H', Same H H' → Q .non H')
def spPText (K : PySem.W.Frag) : Sp := fun vs H Q _ => ∃ (t : Addr) (ps : Tab), vs = [.ref t] ∧ IsK K H (prodK ps) (.ref t) ∧ ps.length ≤ 20000 ∧ (∀ q ∈ ps, q.1.length ≤ 8 ∧ 1 ≤ q.2 ∧ q.2 ≤ 10 ^ 30) ∧ ∀ H', Same H H' → Q (.str (mkS (textP ps))) H'
def spRead (K : PySem.W.Frag) (C : Addr) : Sp := fun vs H Q E => ∃ v : V, vs = [v] ∧
  ((∃ z : Str, v = .str z ∧ z.length ≤ 20000 ∧ (∀ ps, prodS (cds z) = some ps → ∀ t H', Same H H' → IsK K H' (prodK ps) (.ref t) → Q (.ref t) H') ∧ (prodS (cds z) = none → ∀ e H', Same H H' → H' e = some (.xd [("line", .int 1)]) → E (.ref C) (some e) H')) ∨
   ∃ ty : String, TyX K H v (.type ty) ∧ kitB ty "str" = some false ∧ ∀ e H', Same H H' → H' e = some (.xd [("line", .int 0)]) → E (.ref C) (some e) H')
def spLPair (K : PySem.W.Frag) : Sp := fun vs H Q _ => ∃ (u : Addr) (q : Str × Int), vs = [.ref u] ∧ SqT K H u [.str q.1, .int q.2] ∧ q.1.length ≤ 8 ∧ 1 ≤ q.2 ∧ q.2 ≤ 10 ^ 30 ∧ Q (.str (mkS (pairT q))) H
def spLNum : Sp := fun vs H Q _ => ∃ (z : Str) (least : Int), vs = [.str z, .int least] ∧ z.length ≤ 100000 ∧ Q (.int (leadO least (cds z))) H
def spLName : Sp := fun vs H Q _ => ∃ z : Str, vs = [.str z] ∧ z.length ≤ 100000 ∧ Q (.bl (isNmL (cds z))) H
def spLTerm (K : PySem.W.Frag) : Sp := fun vs H Q _ => ∃ z : Str, vs = [.str z] ∧ z.length ≤ 20000 ∧
  (∀ c ps, termS (cds z) = some (c, ps) → ∀ u t H', Same H H' → SqT K H' u [.int c, .ref t] → IsK K H' (prodK ps) (.ref t) → Q (.ref u) H') ∧ (termS (cds z) = none → ∀ H', Same H H' → Q .non H')
def spLRead (K : PySem.W.Frag) : Sp := fun vs H Q _ => ∃ v : V, vs = [v] ∧
  ((∃ z : Str, v = .str z ∧ z.length ≤ 20000 ∧ (∀ ps, prodS (cds z) = some ps → ∀ u t H', Same H H' → SqT K H' u [.str "read", .ref t] → IsK K H' (prodK ps) (.ref t) → Q (.ref u) H') ∧ (prodS (cds z) = none → ∀ u H', Same H H' → SqT K H' u [.str "text", .int 1] → Q (.ref u) H')) ∨
   ∃ ty : String, TyX K H v (.type ty) ∧ kitB ty "str" = some false ∧ ∀ u H', Same H H' → SqT K H' u [.str "text", .int 0] → Q (.ref u) H')
def spSpoil : Sp := fun vs H Q _ => ∃ (p c : Addr) (z : Str) (kind : Int), vs = [.ref p, .str z, .int kind] ∧ DiceAt H p c ∧ z.length ≤ 100000 ∧ ∀ (z' : Str) (H' : Hp), z'.length ≤ z.length + 1 → DiceAt H' p c → Fr p H H' → Q (.str z') H'
def spPower : Sp := fun vs H Q _ => ∃ (p c : Addr), vs = [.ref p] ∧ DiceAt H p c ∧ ∀ (r : Int) (H' : Hp), 1 ≤ r → r ≤ 10 ^ 30 → DiceAt H' p c → Fr p H H' → Q (.int r) H'
def spMenu : Sp := fun vs H Q _ => ∃ (p c : Addr) (a b : Str), vs = [.ref p, .str a, .str b] ∧ DiceAt H p c ∧ a.length ≤ 8 ∧ b.length ≤ 8 ∧ ∀ (z : Str) (H' : Hp), z.length ≤ 6000 → DiceAt H' p c → Fr p H H' → Q (.str z) H'
def spAnswers : Sp := fun vs H Q _ => ∃ z : Str, vs = [.str z] ∧ z.length ≤ 10000 ∧ ∀ H', Same H H' → Q (.bl true) H'
mutual
/-- no tuple in it is too long -/
def wide2 : NestedKey → Bool
  | .tup ks => decide (ks.length ≤ 20000) && wides2 ks
  | .none => false
  | _ => true
def wides2 : List NestedKey → Bool
  | [] => true
  | k :: ks => wide2 k && wides2 ks
end
theorem wides2_mem : ∀ {ks : List NestedKey} {k : NestedKey}, wides2 ks = true → k ∈ ks → wide2 k = true
  | x :: ks, k, h, hk => by
    rw [wides2, Bool.and_eq_true] at h
    rcases List.mem_cons.mp hk with r | r
    · rw [r]; exact h.1
    · exact wides2_mem h.2 r
theorem wide2_prod {ps : Tab} (h : ps.length ≤ 20000) : wide2 (prodK ps) = true := by
  rw [prodK, wide2, Bool.and_eq_true, List.length_map]
  refine ⟨decide_eq_true h, ?_⟩
  clear h
  induction ps with
  | nil => simp [wides2]
  | cons q ps ih => simp [wides2, wide2, ih]
def spSame (K : PySem.W.Frag) (d : Nat) : Sp := fun vs H Q _ => ∃ (k : NestedKey) (a b : V), vs = [a, b] ∧ IsK K H k a ∧ IsK K H k b ∧ k.depth < d ∧ wide2 k = true ∧ ∀ H', Same H H' → Q (.bl true) H'
theorem str_eq_mk {z : Str} {l : List Nat} : z = mkS l ↔ cds z = l := ⟨fun h => by rw [h], fun h => by rw [← h, mk_cds]⟩
theorem lt_cds (a b : Str) : ltK (.text a) (.text b) = decide (cds a < cds b) := by
  simp only [ltK]
theorem use_lread {K : PySem.W.Frag} {H : Hp} {z : Str} {Q : VK} {E : XK} (lz : z.length ≤ 20000) (h1 : ∀ ps, prodS (cds z) = some ps → ∀ u t H', Same H H' → SqT K H' u [.str "read", .ref t] → IsK K H' (prodK ps) (.ref t) → Q (.ref u) H') (h2 : prodS (cds z) = none → ∀ u H', Same H H' → SqT K H' u [.str "text", .int 1] → Q (.ref u) H') : spLRead K [.str z] H Q E := ⟨_, rfl, .inl ⟨z, rfl, lz, h1, h2⟩⟩
theorem use_lread0 {K : PySem.W.Frag} {H : Hp} {v : V} {ty : String} {Q : VK} {E : XK} (ht : TyX K H v (.type ty)) (hk : kitB ty "str" = some false) (h : ∀ u H', Same H H' → SqT K H' u [.str "text", .int 0] → Q (.ref u) H') : spLRead K [v] H Q E := ⟨_, rfl, .inr ⟨ty, ht, hk, h⟩⟩
end K94
namespace K94
open PySem PySem.Spec PyProof.Rows L2 HH TL
local macro_rules | `(tactic| walk_at "h1") => `(tactic| first
  | with_reducible refine rd_seq ?_ | with_reducible refine rd_asg ?_ | with_reducible refine rd_op ?_
  | ((with_reducible refine' rd_var ?hv ?_); (case hv => exact rfl)) | with_reducible refine rd_c ?_
  | ((with_reducible refine rd_name ?_); dsimp only [List.set_cons_zero, List.set_cons_succ])
  | with_reducible refine rd_I0 ?_ | ((with_reducible refine rd_pow ?_ ?_ ?_ ?_); (· decide); (· decide); (· decide)) | ((with_reducible refine rd_mod ?_ ?_); (· decide)) | ((with_reducible refine rd_mulR ?_ ?_ ?_); (· decide); (· decide)) | ((with_reducible refine rd_divW (n := 64) ?_ ?_ ?_ ?_ ?_); (· decide); (· decide); (· decide); (· decide)) | with_reducible refine rd_addI ?_ | with_reducible refine rd_eqI ?_ | with_reducible refine rd_eqS ?_ | with_reducible refine rd_eqB ?_ | with_reducible refine rd_ltI ?_
  | with_reducible refine rd_callS ?_ | with_reducible refine rd_xf ?_ | with_reducible refine rd_cons ?_ | with_reducible refine rd_nil ?_ | with_reducible refine rd_cb ?_ | with_reducible refine rd_call ?_
  | with_reducible refine rd_ifs ?_ | with_reducible refine rd_test ?_ | with_reducible refine rd_tB ?_ | with_reducible refine rd_blQ ?_ | with_reducible refine iteT ?_ | with_reducible refine iteF ?_ | with_reducible refine iteNotF ?_ | with_reducible refine iteNotT ?_
  | with_reducible refine rd_and ?_ | with_reducible refine rd_or ?_ | with_reducible refine rd_not ?_ | with_reducible refine rd_andV ?_ | with_reducible refine rd_orV ?_ | with_reducible refine rd_notV ?_ | with_reducible refine rd_if ?_
  | with_reducible refine rd_un ?_ | with_reducible refine rd_U ?_ | with_reducible refine rd_sub ?_ | with_reducible refine rd_tup ?_ | with_reducible refine rd_lst ?_
  | with_reducible refine rd_intI ?_ | with_reducible refine rd_absI ?_ | with_reducible refine rd_drop ?_ | with_reducible refine rd_ret ?_ | with_reducible refine rd_retN ?_ | with_reducible refine rd_next ?_ | with_reducible refine rd_bm ?_
  | with_reducible refine rd_tDGet2 ?_ | with_reducible refine rd_tDGet ?_ | with_reducible refine rd_sDPut ?_ | with_reducible refine rd_dnewK ?_ | with_reducible refine rd_nnew ?_ | with_reducible refine rd_nget ?_ | with_reducible refine rd_nget2 ?_ | with_reducible refine rd_npop ?_ | with_reducible refine rd_nput ?_ | with_reducible refine rd_dcn ?_ | with_reducible refine rd_gtup ?_ | with_reducible refine rd_gcons ?_ | with_reducible refine rd_gnil ?_ | with_reducible refine rd_lc ?_ | with_reducible refine rd_yes ?_ | with_reducible refine rd_for ?_ | with_reducible refine rd_iL ?_ | with_reducible refine rd_neS ?_ | with_reducible refine rd_neN ?_ | with_reducible refine rd_neB ?_ | with_reducible refine rd_chain ?_ | with_reducible refine rd_bm0 ?_ | with_reducible refine rd_dc ?_ | with_reducible refine rd_iN ?_ | with_reducible refine rd_iZ ?_ | with_reducible refine rd_ngetF ?_ | with_reducible refine rd_iT ?_ | with_reducible refine rd_iR1 ?_ | with_reducible refine rd_iS ?_ | with_reducible refine rd_leafS ?_ | with_reducible refine rd_sl ?_ | with_reducible refine rd_noPart ?_ | with_reducible refine rd_part ?_ | with_reducible refine rd_leafI ?_)
local macro_rules | `(tactic| walk_at "h") => `(tactic| repeat walk_at "h1")

local macro_rules | `(tactic| walk_at "h1") => `(tactic| first
  | with_reducible refine rd_m1 ?_ | with_reducible refine rd_isS ?_ | with_reducible refine rd_tupZ2 ?_)

section
variable {P : Program} {w : World} {K : PySem.W.Frag} {mg : Str → Option Value} {base : Heap}
theorem ok_init {C : Addr} {f : Addr} {fd : FuncData} (F : Fun K "__init__" "BadText.__init__" s_BadText___init__ f fd) (T : OexC K C) (no : PySem.W.findIn K (.ref C) "line" = some none) : FnOk P w K mg base CX0 1 f fd ["self", "line"] (spInit "line" C) := by
  refine F.ok sc_BadText___init__ (fun vs H Q E h => ?_) (fun cdv A outer s H vs Q E hr h => ?_)
  · obtain ⟨a, v, rfl, _⟩ := h
    rfl
  · obtain ⟨a, v, rfl, ea, q⟩ := h
    refine ⟨_, (pss_one (ps_ost (pv 0) (pv 1))), ?_⟩
    rw [show L2.start N_BadText___init__ [V.ref a, v] = [some (V.ref a), some v] from rfl]
    (try dsimp only [cxOf, Cx.nox, Cx.wish])
    exact rd_ost T no ea fun dx nd ne => q dx nd ne
end
end K94
namespace K94
open PySem PySem.Spec PyProof.Rows L2 HH
local macro_rules | `(tactic| walk_at "h1") => `(tactic| first
  | with_reducible refine rd_seq ?_ | with_reducible refine rd_asg ?_ | with_reducible refine rd_op ?_
  | ((with_reducible refine' rd_var ?hv ?_); (case hv => exact rfl)) | with_reducible refine rd_c ?_
  | ((with_reducible refine rd_name ?_); dsimp only [List.set_cons_zero, List.set_cons_succ])
  | with_reducible refine rd_I0 ?_ | ((with_reducible refine rd_pow ?_ ?_ ?_ ?_); (· decide); (· decide); (· decide)) | ((with_reducible refine rd_mod ?_ ?_); (· decide)) | ((with_reducible refine rd_mulR ?_ ?_ ?_); (· decide); (· decide)) | ((with_reducible refine rd_divW (n := 64) ?_ ?_ ?_ ?_ ?_); (· decide); (· decide); (· decide); (· decide)) | with_reducible refine rd_addI ?_ | with_reducible refine rd_eqI ?_ | with_reducible refine rd_eqS ?_ | with_reducible refine rd_eqB ?_ | with_reducible refine rd_ltI ?_
  | with_reducible refine rd_callS ?_ | with_reducible refine rd_xf ?_ | with_reducible refine rd_cons ?_ | with_reducible refine rd_nil ?_ | with_reducible refine rd_cb ?_ | with_reducible refine rd_call ?_
  | with_reducible refine rd_ifs ?_ | with_reducible refine rd_test ?_ | with_reducible refine rd_tB ?_ | with_reducible refine rd_blQ ?_ | with_reducible refine iteT ?_ | with_reducible refine iteF ?_ | with_reducible refine iteNotF ?_ | with_reducible refine iteNotT ?_
  | with_reducible refine rd_and ?_ | with_reducible refine rd_or ?_ | with_reducible refine rd_not ?_ | with_reducible refine rd_andV ?_ | with_reducible refine rd_orV ?_ | with_reducible refine rd_notV ?_ | with_reducible refine rd_if ?_
  | with_reducible refine rd_un ?_ | with_reducible refine rd_U ?_ | with_reducible refine rd_sub ?_ | with_reducible refine rd_tup ?_ | with_reducible refine rd_lst ?_
  | with_reducible refine rd_intI ?_ | with_reducible refine rd_absI ?_ | with_reducible refine rd_drop ?_ | with_reducible refine rd_ret ?_ | with_reducible refine rd_retN ?_ | with_reducible refine rd_next ?_ | with_reducible refine rd_bm ?_
  | with_reducible refine rd_tDGet2 ?_ | with_reducible refine rd_tDGet ?_ | with_reducible refine rd_sDPut ?_ | with_reducible refine rd_dnewK ?_ | with_reducible refine rd_nnew ?_ | with_reducible refine rd_nget ?_ | with_reducible refine rd_nget2 ?_ | with_reducible refine rd_npop ?_ | with_reducible refine rd_nput ?_ | with_reducible refine rd_dcn ?_ | with_reducible refine rd_gtup ?_ | with_reducible refine rd_gcons ?_ | with_reducible refine rd_gnil ?_ | with_reducible refine rd_lc ?_ | with_reducible refine rd_yes ?_ | with_reducible refine rd_for ?_ | with_reducible refine rd_iL ?_ | with_reducible refine rd_neS ?_ | with_reducible refine rd_neN ?_ | with_reducible refine rd_neB ?_ | with_reducible refine rd_chain ?_ | with_reducible refine rd_bm0 ?_ | with_reducible refine rd_dc ?_ | with_reducible refine rd_iN ?_ | with_reducible refine rd_iZ ?_ | with_reducible refine rd_ngetF ?_ | with_reducible refine rd_iT ?_ | with_reducible refine rd_iR1 ?_ | with_reducible refine rd_iS ?_ | with_reducible refine rd_leafS ?_ | with_reducible refine rd_sl ?_ | with_reducible refine rd_noPart ?_ | with_reducible refine rd_part ?_ | with_reducible refine rd_leafI ?_)
local macro_rules | `(tactic| walk_at "h") => `(tactic| repeat walk_at "h1")

section
variable {P : Program} {w : World} {K : PySem.W.Frag} {mg : Str → Option Value} {base : Heap}
theorem ok_dice {f : Addr} {fd : FuncData} (F : Fun K "_law_dice" "_law_dice" s_l_dice f fd) (T : Bi mg) : FnOk P w K mg base CX0 1 f fd ["_law_script"] (spDice K) := by
  refine F.ok sc_l_dice (fun vs H Q E h => ?_) (fun cdv A outer s H vs Q E hr h => ?_)
  · obtain ⟨p, many, rfl, _⟩ := h
    rfl
  · obtain ⟨a, ns, rfl, ha, hl, q⟩ := h
    refine ⟨_, (pss_one (ps_ret (pe_lst (pa_cons (pe_lc (own := [("_law_cell", 1)]) rfl sc_l_dice.nd (pi_list (pe_slice (sl_listK (K := K)) (pv 0) po_none (po_some pe_int))) (blkOk_by (N := N_l_dice) (sc := defScope s_l_dice) (by decide +kernel)) (fun _ _ _ _ _ => (pg_name (i := 1) sc_l_dice.nd rfl (.inl rfl))) (fun _ _ _ _ _ => pts_nil) (fun _ _ _ _ _ => (pe_callB call_absC (by rfl) T.abs_ (by decide +kernel) (pa_cons (pe_callTy call_intC (by rfl) T.int_ (by decide +kernel) (pa_cons (pv 1) pa_nil)) pa_nil)))) (pa_cons pe_int (pa_cons pe_int (pa_cons pe_int (pa_cons pe_int pa_nil)))))))), ?_⟩
    rw [show L2.start N_l_dice [V.ref a] = [some (V.ref a), none] from rfl]
    (try dsimp only [cxOf, Cx.nox, Cx.wish])
    walk_at "h"
    refine rd_slL ha fun c0 n0 => ?_
    obtain ⟨ms, em, lm, _⟩ := cut_map V.int ns none (some 63)
    rw [em]
    generalize hH1 : upd H c0 (.lst (ms.map V.int)) = H1
    have s1 : Same H H1 := by rw [← hH1]; exact same_new n0
    have h1 : H1 c0 = some (.lst (ms.map V.int)) := by rw [← hH1]; exact upd_same
    refine rd_leafL (sql h1) fun D nD => ?_
    have ncD : c0 ≠ D := ne_of_none h1 nD
    refine lc_listW (xs := ms.map V.int) [some (V.ref a), none] rfl (fun i H2 => Same H1 H2 ∧ H2 D = some (.lst (((ms.take i).map fun x => if x < 0 then -x else x).map V.int))) ⟨same_new nD, by simp [upd_same]⟩ (fun i H2 _ h => sql (h.1 _ _ h1)) ?_ ?_
    · rintro i x H2 hx ⟨s2, h2⟩
      have hi : i < ms.length := by
        have := (List.getElem?_eq_some_iff.mp hx).1
        simpa using this
      obtain rfl : x = V.int ms[i] := by
        rw [List.getElem?_map, List.getElem?_eq_getElem hi] at hx
        exact (Option.some.inj hx).symm
      walk_at "h"
      refine ⟨rfl, ?_⟩
      walk_at "h"
      refine ⟨_, h2, ?_, same_mut s2 nD, ?_⟩
      · simp only [List.length_map, List.length_take]; exact sz_lt (by omega)
      · rw [upd_same, List.take_add_one, List.getElem?_eq_getElem hi, List.map_append, List.map_append]
        rfl
    · rintro H2 ⟨s2, h2⟩
      walk_at "h"
      refine ⟨sz_le (by simp only [List.length_cons, List.length_nil]; omega), fun p np => ?_⟩
      rw [List.length_map, List.take_length] at h2
      refine q p D _ (s1.free (s2.free np)) ⟨_, 0, 0, 1, 0, upd_same, by rw [upd_ne (ne_of_none h2 np)]; exact h2, by decide, ?_, by decide, by decide, by decide⟩ (s1.trans (s2.trans (same_new np)))
      intro x hx
      obtain ⟨y, _, rfl⟩ := List.mem_map.mp hx
      split <;> omega
end
end K94
namespace K94
open PySem PySem.Spec PyProof.Rows L2 HH
local macro_rules | `(tactic| walk_at "h1") => `(tactic| first
  | with_reducible refine rd_seq ?_ | with_reducible refine rd_asg ?_ | with_reducible refine rd_op ?_
  | ((with_reducible refine' rd_var ?hv ?_); (case hv => exact rfl)) | with_reducible refine rd_c ?_
  | ((with_reducible refine rd_name ?_); dsimp only [List.set_cons_zero, List.set_cons_succ])
  | with_reducible refine rd_I0 ?_ | ((with_reducible refine rd_pow ?_ ?_ ?_ ?_); (· decide); (· decide); (· decide)) | ((with_reducible refine rd_mod ?_ ?_); (· decide)) | ((with_reducible refine rd_mulR ?_ ?_ ?_); (· decide); (· decide)) | ((with_reducible refine rd_divW (n := 64) ?_ ?_ ?_ ?_ ?_); (· decide); (· decide); (· decide); (· decide)) | with_reducible refine rd_addI ?_ | with_reducible refine rd_eqI ?_ | with_reducible refine rd_eqS ?_ | with_reducible refine rd_eqB ?_ | with_reducible refine rd_ltI ?_
  | with_reducible refine rd_callS ?_ | with_reducible refine rd_xf ?_ | with_reducible refine rd_cons ?_ | with_reducible refine rd_nil ?_ | with_reducible refine rd_cb ?_ | with_reducible refine rd_call ?_
  | with_reducible refine rd_ifs ?_ | with_reducible refine rd_test ?_ | with_reducible refine rd_tB ?_ | with_reducible refine rd_blQ ?_ | with_reducible refine iteT ?_ | with_reducible refine iteF ?_ | with_reducible refine iteNotF ?_ | with_reducible refine iteNotT ?_
  | with_reducible refine rd_and ?_ | with_reducible refine rd_or ?_ | with_reducible refine rd_not ?_ | with_reducible refine rd_andV ?_ | with_reducible refine rd_orV ?_ | with_reducible refine rd_notV ?_ | with_reducible refine rd_if ?_
  | with_reducible refine rd_un ?_ | with_reducible refine rd_U ?_ | with_reducible refine rd_sub ?_ | with_reducible refine rd_tup ?_ | with_reducible refine rd_lst ?_
  | with_reducible refine rd_intI ?_ | with_reducible refine rd_absI ?_ | with_reducible refine rd_drop ?_ | with_reducible refine rd_ret ?_ | with_reducible refine rd_retN ?_ | with_reducible refine rd_next ?_ | with_reducible refine rd_bm ?_
  | with_reducible refine rd_tDGet2 ?_ | with_reducible refine rd_tDGet ?_ | with_reducible refine rd_sDPut ?_ | with_reducible refine rd_dnewK ?_ | with_reducible refine rd_nnew ?_ | with_reducible refine rd_nget ?_ | with_reducible refine rd_nget2 ?_ | with_reducible refine rd_npop ?_ | with_reducible refine rd_nput ?_ | with_reducible refine rd_dcn ?_ | with_reducible refine rd_gtup ?_ | with_reducible refine rd_gcons ?_ | with_reducible refine rd_gnil ?_ | with_reducible refine rd_lc ?_ | with_reducible refine rd_yes ?_ | with_reducible refine rd_for ?_ | with_reducible refine rd_iL ?_ | with_reducible refine rd_neS ?_ | with_reducible refine rd_neN ?_ | with_reducible refine rd_neB ?_ | with_reducible refine rd_chain ?_ | with_reducible refine rd_bm0 ?_ | with_reducible refine rd_dc ?_ | with_reducible refine rd_iN ?_ | with_reducible refine rd_iZ ?_ | with_reducible refine rd_ngetF ?_ | with_reducible refine rd_iT ?_ | with_reducible refine rd_iR1 ?_ | with_reducible refine rd_iS ?_ | with_reducible refine rd_leafS ?_ | with_reducible refine rd_sl ?_ | with_reducible refine rd_noPart ?_ | with_reducible refine rd_part ?_ | with_reducible refine rd_leafI ?_)
local macro_rules | `(tactic| walk_at "h") => `(tactic| repeat walk_at "h1")

section
variable {P : Program} {w : World} {K : PySem.W.Frag} {mg : Str → Option Value} {base : Heap}
theorem ok_draw {f : Addr} {fd : FuncData} (F : Fun K "_law_draw" "_law_draw" s_l_draw f fd) (T : Bi mg) : FnOk P w K mg base CX0 1 f fd ["_law_dice_here", "_law_many"] spDraw := by
  refine F.ok sc_l_draw (fun vs H Q E h => ?_) (fun cdv A outer s H vs Q E hr h => ?_)
  · obtain ⟨p, c, many, rfl, _⟩ := h
    rfl
  · obtain ⟨p, c, many, rfl, D, h1, hb, q⟩ := h
    obtain ⟨cells, pos, pend, seed, cnt, hp, hc, g1, g2, g3, g4, g5⟩ := D
    have hu := hu_of hr
    have hu20 := hu20_of hr
    have hu40 := hu40_of hr
    have hb2 : many.natAbs < 2 ^ 200 := by
      have : (10 : Int) ^ 40 < 2 ^ 200 := by decide
      omega
    have hcp : c ≠ p := fun e => by rw [e, hp] at hc; cases cells <;> simp at hc
    refine ⟨_, (C8.pss_cut (ps_if (PW.pt (pw_and (pt_cmpR (op_eqU (K := K) hu40) (pe_ix (ix_listK (K := K)) (pv 0) pe_int (fun _ _ => rfl)) pe_int (nomark _)) (pw_and1 (pt_cmpR (op_ltU (K := K) hu40) (pe_ix (ix_listK (K := K)) (pv 0) pe_int (fun _ _ => rfl)) (pe_callB (call_lenU (P := P) (w := w) (K := K)) (by rfl) T.len_ PySem.boot_len (pa_cons (pe_ix (ix_listK (K := K)) (pv 0) pe_int (fun _ _ => rfl)) pa_nil)) (nomark _))))) (pss_cons (ps_set (i := 2) sc_l_draw.nd rfl (.inl rfl) (pe_ix (ix_listK (K := K)) (pe_ix (ix_listK (K := K)) (pv 0) pe_int (fun _ _ => rfl)) (pe_ix (ix_listK (K := K)) (pv 0) pe_int (fun _ _ => rfl)) (fun _ _ => rfl)))
  (pss_cons (ps_asg (pe_op (op_addU (K := K)) (pe_ix (ix_listK (K := K)) (pv 0) pe_int (fun _ _ => rfl)) pe_int) (pg_sub (pv 0) pe_int set_list))
  (pss_one (ps_if (pt_cmpR op_ge (pv 2) (pe_op op_pow pe_int pe_int) (nomark _)) (pss_one (ps_asg (pv 2) (pg_sub (pv 0) pe_int set_list))) (pss_one (ps_asg (pe_op op_modN (pe_callTy call_intC (by rfl) T.int_ (by decide +kernel) (pa_cons (pe_op (op_addU (K := K)) (pe_op (op_addU (K := K)) (pe_op op_mul (pe_ix (ix_listK (K := K)) (pv 0) pe_int (fun _ _ => rfl)) pe_int) (pe_op op_mul (pv 2) pe_int)) (pe_ix (ix_listK (K := K)) (pv 0) pe_int (fun _ _ => rfl))) pa_nil)) pe_int) (pg_sub (pv 0) pe_int set_list))))))) pss_nil)
  (pss_cons (ps_if (pt_cmpR op_gt (pe_ix (ix_listK (K := K)) (pv 0) pe_int (fun _ _ => rfl)) pe_int (nomark _)) (pss_cons (ps_set (i := 3) sc_l_draw.nd rfl (.inl rfl) (pe_op op_modN (pe_callTy call_intC (by rfl) T.int_ (by decide +kernel) (pa_cons (pe_ix (ix_listK (K := K)) (pv 0) pe_int (fun _ _ => rfl)) pa_nil)) (pv 1)))
  (pss_cons (ps_asg (pe_op op_fdivW (pe_ix (ix_listK (K := K)) (pv 0) pe_int (fun _ _ => rfl)) (pv 1)) (pg_sub (pv 0) pe_int set_list))
  (pss_one (ps_ret (pv 3))))) pss_nil)
  (pss_cons (ps_asg (pe_op (op_addU (K := K)) (pe_ix (ix_listK (K := K)) (pv 0) pe_int (fun _ _ => rfl)) pe_int) (pg_sub (pv 0) pe_int set_list))
  (pss_cons (ps_asg (pe_op op_modN (pe_callTy call_intC (by rfl) T.int_ (by decide +kernel) (pa_cons (pe_op (op_addU (K := K)) (pe_op (op_addU (K := K)) (pe_op op_mul (pe_ix (ix_listK (K := K)) (pv 0) pe_int (fun _ _ => rfl)) pe_int) (pe_op op_mul (pe_ix (ix_listK (K := K)) (pv 0) pe_int (fun _ _ => rfl)) pe_int)) pe_int) pa_nil)) pe_int) (pg_sub (pv 0) pe_int set_list))
  (pss_cons (ps_set (i := 4) sc_l_draw.nd rfl (.inl rfl) (pe_op op_modN (pe_callTy call_intC (by rfl) T.int_ (by decide +kernel) (pa_cons (pe_op op_mul (pe_ix (ix_listK (K := K)) (pv 0) pe_int (fun _ _ => rfl)) (pe_op (op_addU (K := K)) (pe_op op_fdivW (pe_ix (ix_listK (K := K)) (pv 0) pe_int (fun _ _ => rfl)) pe_int) pe_int)) pa_nil)) pe_int))
  (pss_cons (ps_set (i := 4) sc_l_draw.nd rfl (.inl rfl) (pe_op op_modN (pe_callTy call_intC (by rfl) T.int_ (by decide +kernel) (pa_cons (pe_op op_mul (pv 4) (pe_op (op_addU (K := K)) (pe_op op_fdivW (pv 4) pe_int) pe_int)) pa_nil)) pe_int))
  (pss_one (ps_ret (pe_op op_modN (pe_callTy call_intC (by rfl) T.int_ (by decide +kernel) (pa_cons (pe_op op_fdivW (pv 4) pe_int) pa_nil)) (pv 1)))))))))), ?_⟩
    rw [show L2.start N_l_draw [V.ref p, V.int many] = [some (V.ref p), some (V.int many), none, none, none] from rfl]
    (try dsimp only [cxOf, Cx.nox, Cx.wish])
    walk_at "h"
    refine rd_cut (fun σ' H' => ∃ (v2 : Option V) (pos pend seed : Int), σ' = [some (V.ref p), some (V.int many), v2, none, none] ∧ H' p = some (.lst [.ref c, .int pos, .int pend, .int seed, .int cnt]) ∧ (∀ b, b ≠ p → H' b = H b) ∧ 0 ≤ pos ∧ 0 ≤ pend ∧ 0 ≤ seed ∧ seed < 2147483648) ?_ ?_
    · walk_at "h"
      refine rd_ixl (sql hp) rfl ?_
      walk_at "h"
      refine ite2 (fun e1 => ?_) (fun e1 => ?_)
      · walk_at "h"
        refine rd_ixl (sql hp) rfl ?_
        walk_at "h"
        refine rd_ixl (sql hp) rfl ?_
        walk_at "h"
        refine rd_lenL (sql hc) ?_
        walk_at "h"
        refine ite2 (fun e2 => ?_) (fun e2 => ?_)
        · have e3 : pos < cells.length := by simpa using e2
          have e4 : pos.toNat < cells.length := by omega
          have ex : atI (cells.map V.int) pos = some (.int cells[pos.toNat]) := by
            have := atI_nat (xs := cells.map V.int) (j := pos.toNat) (v := .int cells[pos.toNat]) (by rw [List.getElem?_map, List.getElem?_eq_getElem e4]; rfl)
            rwa [Int.toNat_of_nonneg g1] at this
          have c0 : 0 ≤ cells[pos.toNat] := g2 _ (List.getElem_mem e4)
          generalize cells[pos.toNat] = x at ex c0
          walk_at "h"
          refine rd_ixl (sql hp) rfl ?_
          walk_at "h"
          refine rd_ixl (sql hp) rfl ?_
          walk_at "h"
          refine rd_ixl (sql hc) ex ?_
          walk_at "h"
          refine rd_ixl (sql hp) rfl ?_
          walk_at "h"
          refine rd_setl' hp rfl fun H1 hp1 f1 => ?_
          walk_at "h"
          refine ite2 (fun e5 => ?_) (fun e5 => ?_)
          · walk_at "h"
            refine rd_setl' hp1 rfl fun H2 hp2 f2 => ?_
            walk_at "h"
            exact ⟨_, _, _, _, rfl, hp2, fun b hb => (f2 b hb).trans (f1 b hb), by omega, c0, g4, g5⟩
          · walk_at "h"
            refine rd_ixl (sql hp1) rfl ?_
            walk_at "h"
            refine rd_ixl (sql hp1) rfl ?_
            walk_at "h"
            refine rd_setl' hp1 rfl fun H2 hp2 f2 => ?_
            walk_at "h"
            exact ⟨_, _, _, _, rfl, hp2, fun b hb => (f2 b hb).trans (f1 b hb), by omega, g3, Int.fmod_nonneg_of_pos (b := 2147483647) _ (by decide), Int.lt_trans (Int.fmod_lt_of_pos (b := 2147483647) _ (by decide)) (by decide)⟩
        · walk_at "h"
          exact ⟨_, _, _, _, rfl, hp, fun b hb => rfl, g1, g3, g4, g5⟩
      · walk_at "h"
        exact ⟨_, _, _, _, rfl, hp, fun b hb => rfl, g1, g3, g4, g5⟩
    · rintro σ' H' ⟨v2, pos, pend, seed, rfl, hp', f', g1, g3, g4, g5⟩
      have hc' : H' c = some (.lst (cells.map V.int)) := by rw [f' c hcp]; exact hc
      have hH : Fr p H H' := fun b o hb e => by rw [f' b hb]; exact e
      clear hp hc f'
      walk_at "h"
      refine rd_ixl (sql hp') rfl ?_
      walk_at "h"
      refine ite2 (fun e1 => ?_) (fun e1 => ?_)
      · have e2 : 0 < pend := of_decide_eq_true e1
        walk_at "h"
        refine rd_ixl (sql hp') rfl ?_
        walk_at "h"
        refine rd_mod (by omega) ?_
        walk_at "h"
        refine rd_ixl (sql hp') rfl ?_
        walk_at "h"
        refine rd_divW (n := 200) (by omega) hb2 (by decide) (by decide) ?_
        walk_at "h"
        refine rd_setl' hp' rfl fun H1 hp1 f1 => ?_
        walk_at "h"
        exact q _ _ (Int.fmod_nonneg_of_pos _ (by omega)) (Int.fmod_lt_of_pos _ (by omega)) ⟨cells, _, _, _, _, hp1, by rw [f1 c hcp]; exact hc', g1, g2, Int.ediv_nonneg g3 (by omega), g4, g5⟩ (hH.trans fun b o hb' e => by rw [f1 b hb']; exact e)
      · walk_at "h"
        refine rd_ixl (sql hp') rfl ?_
        walk_at "h"
        refine rd_setl' hp' rfl fun H1 hp1 f1 => ?_
        walk_at "h"
        refine rd_ixl (sql hp1) rfl ?_
        walk_at "h"
        refine rd_ixl (sql hp1) rfl ?_
        walk_at "h"
        refine rd_setl' hp1 rfl fun H2 hp2 f2 => ?_
        walk_at "h"
        refine rd_ixl (sql hp2) rfl ?_
        walk_at "h"
        refine rd_ixl (sql hp2) rfl ?_
        walk_at "h"
        have s0 := Int.fmod_nonneg_of_pos (b := 2147483647) (seed * 48271 + (cnt + 1) * 7919 + 1) (by decide)
        have s1 := Int.fmod_lt_of_pos (b := 2147483647) (seed * 48271 + (cnt + 1) * 7919 + 1) (by decide)
        refine rd_mulL (by omega) (by omega) ?_
        walk_at "h"
        generalize (seed * 48271 + (cnt + 1) * 7919 + 1).fmod 2147483647 = z at s0 s1 hp2 ⊢
        have s2 := Int.fmod_nonneg_of_pos (b := 2147483399) (z * (z / 1009 + 69623)) (by decide)
        have s3 := Int.fmod_lt_of_pos (b := 2147483399) (z * (z / 1009 + 69623)) (by decide)
        refine rd_mulL (by omega) (by omega) ?_
        walk_at "h"
        refine rd_mod (by omega) ?_
        walk_at "h"
        exact q _ _ (Int.fmod_nonneg_of_pos _ (by omega)) (Int.fmod_lt_of_pos _ (by omega)) ⟨cells, _, _, _, _, hp2, by rw [f2 c hcp, f1 c hcp]; exact hc', g1, g2, g3, s0, by omega⟩ (hH.trans fun b o hb' e => by rw [f2 b hb', f1 b hb']; exact e)
end
end K94
namespace K94
open PySem PySem.Spec PyProof.Rows L2 HH
local macro_rules | `(tactic| walk_at "h1") => `(tactic| first
  | with_reducible refine rd_seq ?_ | with_reducible refine rd_asg ?_ | with_reducible refine rd_op ?_
  | ((with_reducible refine' rd_var ?hv ?_); (case hv => exact rfl)) | with_reducible refine rd_c ?_
  | ((with_reducible refine rd_name ?_); dsimp only [List.set_cons_zero, List.set_cons_succ])
  | with_reducible refine rd_I0 ?_ | ((with_reducible refine rd_pow ?_ ?_ ?_ ?_); (· decide); (· decide); (· decide)) | ((with_reducible refine rd_mod ?_ ?_); (· decide)) | ((with_reducible refine rd_mulR ?_ ?_ ?_); (· decide); (· decide)) | ((with_reducible refine rd_divW (n := 64) ?_ ?_ ?_ ?_ ?_); (· decide); (· decide); (· decide); (· decide)) | with_reducible refine rd_addI ?_ | with_reducible refine rd_eqI ?_ | with_reducible refine rd_eqS ?_ | with_reducible refine rd_eqB ?_ | with_reducible refine rd_ltI ?_
  | with_reducible refine rd_callS ?_ | with_reducible refine rd_xf ?_ | with_reducible refine rd_cons ?_ | with_reducible refine rd_nil ?_ | with_reducible refine rd_cb ?_ | with_reducible refine rd_call ?_
  | with_reducible refine rd_ifs ?_ | with_reducible refine rd_test ?_ | with_reducible refine rd_tB ?_ | with_reducible refine rd_blQ ?_ | with_reducible refine iteT ?_ | with_reducible refine iteF ?_ | with_reducible refine iteNotF ?_ | with_reducible refine iteNotT ?_
  | with_reducible refine rd_and ?_ | with_reducible refine rd_or ?_ | with_reducible refine rd_not ?_ | with_reducible refine rd_andV ?_ | with_reducible refine rd_orV ?_ | with_reducible refine rd_notV ?_ | with_reducible refine rd_if ?_
  | with_reducible refine rd_un ?_ | with_reducible refine rd_U ?_ | with_reducible refine rd_sub ?_ | with_reducible refine rd_tup ?_ | with_reducible refine rd_lst ?_
  | with_reducible refine rd_intI ?_ | with_reducible refine rd_absI ?_ | with_reducible refine rd_drop ?_ | with_reducible refine rd_ret ?_ | with_reducible refine rd_retN ?_ | with_reducible refine rd_next ?_ | with_reducible refine rd_bm ?_
  | with_reducible refine rd_tDGet2 ?_ | with_reducible refine rd_tDGet ?_ | with_reducible refine rd_sDPut ?_ | with_reducible refine rd_dnewK ?_ | with_reducible refine rd_nnew ?_ | with_reducible refine rd_nget ?_ | with_reducible refine rd_nget2 ?_ | with_reducible refine rd_npop ?_ | with_reducible refine rd_nput ?_ | with_reducible refine rd_dcn ?_ | with_reducible refine rd_gtup ?_ | with_reducible refine rd_gcons ?_ | with_reducible refine rd_gnil ?_ | with_reducible refine rd_lc ?_ | with_reducible refine rd_yes ?_ | with_reducible refine rd_for ?_ | with_reducible refine rd_iL ?_ | with_reducible refine rd_neS ?_ | with_reducible refine rd_neN ?_ | with_reducible refine rd_neB ?_ | with_reducible refine rd_chain ?_ | with_reducible refine rd_bm0 ?_ | with_reducible refine rd_dc ?_ | with_reducible refine rd_iN ?_ | with_reducible refine rd_iZ ?_ | with_reducible refine rd_ngetF ?_ | with_reducible refine rd_iT ?_ | with_reducible refine rd_iR1 ?_ | with_reducible refine rd_iS ?_ | with_reducible refine rd_leafS ?_ | with_reducible refine rd_sl ?_ | with_reducible refine rd_noPart ?_ | with_reducible refine rd_part ?_ | with_reducible refine rd_leafI ?_)
local macro_rules | `(tactic| walk_at "h") => `(tactic| repeat walk_at "h1")

section
variable {P : Program} {w : World} {K : PySem.W.Frag} {mg : Str → Option Value} {base : Heap}
theorem ok_word {f : Addr} {fd : FuncData} (F : Fun K "_law_word" "_law_word" s_l_word f fd) (T : Bi mg) (G_l_draw : Callee P w K mg base 1 "_law_draw" ["_law_dice_here", "_law_many"] spDraw) : FnOk P w K mg base CX0 2 f fd ["_law_dice_here", "_law_most"] spWord := by
  refine F.ok sc_l_word (fun vs H Q E h => ?_) (fun cdv A outer s H vs Q E hr h => ?_)
  · obtain ⟨p, c, many, rfl, _⟩ := h
    rfl
  · obtain ⟨p, c, most, rfl, D, h1, h2, q⟩ := h
    have hu := hu_of hr
    have hu20 := hu20_of hr
    have hu40 := hu40_of hr
    obtain ⟨f_l_draw, fd_l_draw, F_l_draw, m_l_draw, k_l_draw, b_l_draw⟩ := G_l_draw
    refine ⟨_, (pss_cons (ps_set (i := 2) sc_l_word.nd rfl (.inl rfl) pe_str)
  (pss_cons (ps_set (i := 3) sc_l_word.nd rfl (.inl rfl) pe_str)
  (pss_cons (ps_for PassesOwn.never rfl (pi_range1 (by rfl) T.range (pa_cons (pe_op (op_addU (K := K)) pe_int (pe_call F_l_draw (hr.mono (by decide)) (by rfl) m_l_draw k_l_draw b_l_draw .nil pass0 (pa_cons (pv 0) (pa_cons (pv 1) pa_nil)))) pa_nil)) (pg_name (i := 4) sc_l_word.nd rfl (.inl rfl))
    (pss_one (ps_set (i := 3) sc_l_word.nd rfl (.inl rfl) (pe_op (op_addU (K := K)) (pv 3) (pe_ix ix_str (pv 2) (pe_call F_l_draw (hr.mono (by decide)) (by rfl) m_l_draw k_l_draw b_l_draw .nil pass0 (pa_cons (pv 0) (pa_cons pe_int pa_nil))) (fun _ _ => rfl))))))
  (pss_one (ps_ret (pv 3)))))), ?_⟩
    rw [show L2.start N_l_word [V.ref p, V.int most] = [some (V.ref p), some (V.int most), none, none, none] from rfl]
    (try dsimp only [cxOf, Cx.nox, Cx.wish])
    walk_at "h"
    refine use_draw D h1 (by omega) fun r H1 r0 r1 D1 f1 => ?_
    walk_at "h"
    refine rd_leafR (by omega) (by omega) ?_
    refine for_range (fun i σ H' => ∃ (z : Str) (v4 : Option V), σ = [some (V.ref p), some (V.int most), some (V.str "abcdefghijklmnopqrstuvwxyz"), some (V.str z), v4] ∧ z.length = i ∧ Low z ∧ DiceAt H' p c ∧ Fr p H H') ⟨"", none, rfl, rfl, fun c hc => (by cases hc), D1, f1⟩ ?_ ?_
    · rintro i σ H2 hi ⟨z, v4, rfl, hz, lz, D2, f2⟩
      walk_at "h"
      refine use_draw D2 (by decide) (by decide) fun r2 H3 s0 s1 D3 f3 => ?_
      walk_at "h"
      refine rd_ixs (sz_le (by decide)) (letters_at s0 s1) ?_
      refine rd_addS (sz_le ?_) ?_
      · show z.length + 1 ≤ _
        omega
      walk_at "h"
      exact ⟨_, _, rfl, by rw [Str.length_append, hz]; rfl, lz.app (Low.one (by omega) (by omega)), D3, f2.trans f3⟩
    · rintro σ H2 ⟨z, v4, rfl, hz, lz, D2, f2⟩
      walk_at "h"
      exact q z H2 (by omega) (by omega) lz D2 f2
end
end K94
namespace K94
open PySem PySem.Spec PyProof.Rows L2 HH
local macro_rules | `(tactic| walk_at "h1") => `(tactic| first
  | with_reducible refine rd_seq ?_ | with_reducible refine rd_asg ?_ | with_reducible refine rd_op ?_
  | ((with_reducible refine' rd_var ?hv ?_); (case hv => exact rfl)) | with_reducible refine rd_c ?_
  | ((with_reducible refine rd_name ?_); dsimp only [List.set_cons_zero, List.set_cons_succ])
  | with_reducible refine rd_I0 ?_ | ((with_reducible refine rd_pow ?_ ?_ ?_ ?_); (· decide); (· decide); (· decide)) | ((with_reducible refine rd_mod ?_ ?_); (· decide)) | ((with_reducible refine rd_mulR ?_ ?_ ?_); (· decide); (· decide)) | ((with_reducible refine rd_divW (n := 64) ?_ ?_ ?_ ?_ ?_); (· decide); (· decide); (· decide); (· decide)) | with_reducible refine rd_addI ?_ | with_reducible refine rd_eqI ?_ | with_reducible refine rd_eqS ?_ | with_reducible refine rd_eqB ?_ | with_reducible refine rd_ltI ?_
  | with_reducible refine rd_callS ?_ | with_reducible refine rd_xf ?_ | with_reducible refine rd_cons ?_ | with_reducible refine rd_nil ?_ | with_reducible refine rd_cb ?_ | with_reducible refine rd_call ?_
  | with_reducible refine rd_ifs ?_ | with_reducible refine rd_test ?_ | with_reducible refine rd_tB ?_ | with_reducible refine rd_blQ ?_ | with_reducible refine iteT ?_ | with_reducible refine iteF ?_ | with_reducible refine iteNotF ?_ | with_reducible refine iteNotT ?_
  | with_reducible refine rd_and ?_ | with_reducible refine rd_or ?_ | with_reducible refine rd_not ?_ | with_reducible refine rd_andV ?_ | with_reducible refine rd_orV ?_ | with_reducible refine rd_notV ?_ | with_reducible refine rd_if ?_
  | with_reducible refine rd_un ?_ | with_reducible refine rd_U ?_ | with_reducible refine rd_sub ?_ | with_reducible refine rd_tup ?_ | with_reducible refine rd_lst ?_
  | with_reducible refine rd_intI ?_ | with_reducible refine rd_absI ?_ | with_reducible refine rd_drop ?_ | with_reducible refine rd_ret ?_ | with_reducible refine rd_retN ?_ | with_reducible refine rd_next ?_ | with_reducible refine rd_bm ?_
  | with_reducible refine rd_tDGet2 ?_ | with_reducible refine rd_tDGet ?_ | with_reducible refine rd_sDPut ?_ | with_reducible refine rd_dnewK ?_ | with_reducible refine rd_nnew ?_ | with_reducible refine rd_nget ?_ | with_reducible refine rd_nget2 ?_ | with_reducible refine rd_npop ?_ | with_reducible refine rd_nput ?_ | with_reducible refine rd_dcn ?_ | with_reducible refine rd_gtup ?_ | with_reducible refine rd_gcons ?_ | with_reducible refine rd_gnil ?_ | with_reducible refine rd_lc ?_ | with_reducible refine rd_yes ?_ | with_reducible refine rd_for ?_ | with_reducible refine rd_iL ?_ | with_reducible refine rd_neS ?_ | with_reducible refine rd_neN ?_ | with_reducible refine rd_neB ?_ | with_reducible refine rd_chain ?_ | with_reducible refine rd_bm0 ?_ | with_reducible refine rd_dc ?_ | with_reducible refine rd_iN ?_ | with_reducible refine rd_iZ ?_ | with_reducible refine rd_ngetF ?_ | with_reducible refine rd_iT ?_ | with_reducible refine rd_iR1 ?_ | with_reducible refine rd_iS ?_ | with_reducible refine rd_leafS ?_ | with_reducible refine rd_sl ?_ | with_reducible refine rd_noPart ?_ | with_reducible refine rd_part ?_ | with_reducible refine rd_leafI ?_)
local macro_rules | `(tactic| walk_at "h") => `(tactic| repeat walk_at "h1")

section
variable {P : Program} {w : World} {K : PySem.W.Frag} {mg : Str → Option Value} {base : Heap}
/-- a word that stands among the names after so many signs has met so many of them -/
def Met (N : List Str) (i : Nat) (z : Str) : Prop := z ∉ N ∨ ∃ S : List Str, S.Nodup ∧ S.length = i ∧ (∀ x ∈ S, x ∈ N) ∧ ∀ x ∈ S, ∃ c, (cds x).getLast? = some c ∧ c < 97 + i
theorem Met.start (N : List Str) (z : Str) : Met N 0 z := .inr ⟨[], List.nodup_nil, rfl, (by simp), (by simp)⟩
theorem Met.stay {N : List Str} {i : Nat} {z : Str} (h : z ∉ N) : Met N (i + 1) z := .inl h
theorem Met.next {N : List Str} {i : Nat} {z z' : Str} (h : Met N i z) (hz : z ∈ N) (e : (cds z').getLast? = some (97 + i)) : Met N (i + 1) z' := by
  rcases h with h | ⟨S, nd, l, s, c⟩
  · exact absurd hz h
  · by_cases hm : z' ∈ N
    · refine .inr ⟨z' :: S, List.nodup_cons.mpr ⟨fun m => ?_, nd⟩, by rw [List.length_cons, l], fun x hx => ?_, fun x hx => ?_⟩
      · obtain ⟨d, e1, e2⟩ := c _ m
        rw [e] at e1
        have := Option.some.inj e1
        omega
      · rcases List.mem_cons.mp hx with r | r
        · rw [r]; exact hm
        · exact s x r
      · rcases List.mem_cons.mp hx with r | r
        · rw [r]; exact ⟨_, e, by omega⟩
        · obtain ⟨d, e1, e2⟩ := c x r
          exact ⟨d, e1, by omega⟩
    · exact .inl hm
theorem Met.done {N : List Str} {z : Str} (h : Met N 8 z) (hN : N.length < 8) : z ∉ N := by
  rcases h with h | ⟨S, nd, l, s, _⟩
  · exact h
  · have := List.Nodup.length_le_of_subset nd s
    omega
theorem sign_at {i c : Nat} (h : ("abcdefgh" : Str).cps[i]? = some c) : c = 97 + i ∧ i < 8 := by
  rw [← Array.getElem?_toList, show ("abcdefgh" : Str).cps.toList = List.range' 97 8 by decide +kernel] at h
  have hi : i < 8 := by
    have := (List.getElem?_eq_some_iff.mp h).1
    simpa using this
  rw [List.getElem?_range' hi] at h
  have := Option.some.inj h
  omega
theorem ok_names {f : Addr} {fd : FuncData} (F : Fun K "_law_names" "_law_names" s_l_names f fd) (T : Bi mg) (G_l_draw : Callee P w K mg base 1 "_law_draw" ["_law_dice_here", "_law_many"] spDraw) (G_l_word : Callee P w K mg base 2 "_law_word" ["_law_dice_here", "_law_most"] spWord) :
    FnOk P w K mg base CX0 3 f fd ["_law_dice_here", "_law_many"] spNames := by
  refine F.ok sc_l_names (fun vs H Q E h => ?_) (fun cdv A outer s H vs Q E hr h => ?_)
  · obtain ⟨p, c, many, rfl, _⟩ := h
    rfl
  · obtain ⟨p, c, many, rfl, D, h1, h2, q⟩ := h
    have hu := hu_of hr
    have hu20 := hu20_of hr
    have hu40 := hu40_of hr
    obtain ⟨f_l_draw, fd_l_draw, F_l_draw, m_l_draw, k_l_draw, b_l_draw⟩ := G_l_draw; obtain ⟨f_l_word, fd_l_word, F_l_word, m_l_word, k_l_word, b_l_word⟩ := G_l_word
    refine ⟨_, (pss_cons (ps_set (i := 2) sc_l_names.nd rfl (.inl rfl) (pe_call F_l_draw (hr.mono (by decide)) (by rfl) m_l_draw k_l_draw b_l_draw .nil pass0 (pa_cons (pv 0) (pa_cons pe_int pa_nil))))
  (pss_cons (ps_set (i := 3) sc_l_names.nd rfl (.inl rfl) (pe_call F_l_word (hr.mono (by decide)) (by rfl) m_l_word k_l_word b_l_word .nil pass0 (pa_cons (pv 0) (pa_cons pe_int pa_nil))))
  (pss_cons (ps_set (i := 4) sc_l_names.nd rfl (.inl rfl) (pe_lst pa_nil))
  (pss_cons (ps_for PassesOwn.never rfl (pi_range1 (by rfl) T.range (pa_cons (pv 1) pa_nil)) (pg_name (i := 5) sc_l_names.nd rfl (.inl rfl))
    (pss_cons (ps_set (i := 6) sc_l_names.nd rfl (.inl rfl) (pe_call F_l_word (hr.mono (by decide)) (by rfl) m_l_word k_l_word b_l_word .nil pass0 (pa_cons (pv 0) (pa_cons pe_int pa_nil))))
  (C8.pss_cut (ps_if (pt_cmpR (op_eqU (K := K) hu40) (pv 2) pe_int (nomark _)) (pss_cons (ps_set (i := 7) sc_l_names.nd rfl (.inl rfl) (pe_call F_l_draw (hr.mono (by decide)) (by rfl) m_l_draw k_l_draw b_l_draw .nil pass0 (pa_cons (pv 0) (pa_cons (pe_callB (call_lenU (P := P) (w := w) (K := K)) (by rfl) T.len_ PySem.boot_len (pa_cons (pv 3) pa_nil)) pa_nil))))
  (pss_one (ps_set (i := 6) sc_l_names.nd rfl (.inl rfl) (pe_op (op_addU (K := K)) (pe_op (op_addU (K := K)) (pe_slice sl_str (pv 3) po_none (po_some (pv 7))) (pe_ix ix_str (pv 6) pe_int (fun _ _ => rfl))) (pe_slice sl_str (pv 3) (po_some (pe_op (op_addU (K := K)) (pv 7) pe_int)) po_none))))) pss_nil)
  (pss_cons (ps_for PassesOwn.never rfl (pi_str pe_str) (pg_name (i := 8) sc_l_names.nd rfl (.inl rfl))
    (pss_one (ps_if (pt_cmpR (op_inU (P := P) (w := w) (K := K) hu20) (pv 6) (pv 4) (by rfl)) (pss_one (ps_set (i := 6) sc_l_names.nd rfl (.inl rfl) (pe_op (op_addU (K := K)) (pe_slice sl_str (pv 6) po_none (po_some pe_int)) (pv 8)))) pss_nil)))
  (pss_one (ps_expr (pe_bm PySem.F.plainAttrs_list PySem.F.slot_list_append PySem.F.type_list_append mt_append (pv 4) (pa_cons (pv 6) pa_nil))))))))
  (pss_one (ps_ret (pe_callB (cr_sortedSK (K := K)) (by rfl) T.sorted_ (by decide +kernel) (pa_cons (pv 4) pa_nil)))))))), ?_⟩
    rw [show L2.start N_l_names [V.ref p, V.int many] = [some (V.ref p), some (V.int many), none, none, none, none, none, none, none] from rfl]
    (try dsimp only [cxOf, Cx.nox, Cx.wish])
    walk_at "h"
    refine use_draw D (by decide) (by decide) fun al H1 a0 a1 D1 f1 => ?_
    walk_at "h"
    refine use_word D1 (by decide) (by decide) fun bs H2 b0 b1 lb D2 f2 => ?_
    walk_at "h"
    refine ⟨Nat.zero_le _, fun l nl => ?_⟩
    obtain ⟨npl, ncl⟩ := D2.new nl
    generalize hH3 : upd H2 l (.lst []) = H3
    have s3 : Same H2 H3 := by rw [← hH3]; exact same_new nl
    have h3 : H3 l = some (.lst (([] : List Str).map V.str)) := by rw [← hH3]; exact upd_same
    walk_at "h"
    refine rd_leafR (by omega) (by omega) ?_
    have f3 : Fr p H H3 := f1.trans (f2.trans (Fr.of s3))
    have nl0 : H l = none := (f1.trans f2).back npl nl
    refine for_range (fun i σ H' => ∃ (N : List Str) (v5 v6 v7 v8 : Option V), σ = [some (V.ref p), some (V.int many), some (V.int al), some (V.str bs), some (V.ref l), v5, v6, v7, v8] ∧ N.length = i ∧ (∀ y ∈ N, 1 ≤ y.length ∧ y.length ≤ 8 ∧ Low y) ∧ N.Nodup ∧ H' l = some (.lst (N.map V.str)) ∧ DiceAt H' p c ∧ Fr p H H')
      ⟨[], none, none, none, none, rfl, rfl, (by simp), List.nodup_nil, h3, D2.keep s3, f3⟩ ?_ ?_
    · rintro i σ H4 hi ⟨N, v5, v6, v7, v8, rfl, lN, oN, nN, hl, D4, f4⟩
      walk_at "h"
      refine use_word D4 (by decide) (by decide) fun wd H5 w0 w1 lw D5 f5 => ?_
      walk_at "h"
      refine rd_cut (fun σ' H' => ∃ (wd : Str) (v7 : Option V), σ' = [some (V.ref p), some (V.int many), some (V.int al), some (V.str bs), some (V.ref l), some (V.int (0 + i)), some (V.str wd), v7, v8] ∧ 1 ≤ wd.length ∧ wd.length ≤ 8 ∧ Low wd ∧ DiceAt H' p c ∧ Fr p H4 H') ?_ ?_
      · walk_at "h"
        refine ite2 (fun e1 => ?_) (fun e1 => ?_)
        · walk_at "h"
          refine rd_lenS (sz_le (by omega)) ?_
          walk_at "h"
          refine use_draw D5 (by omega) (by omega) fun k H6 k0 k1 D6 f6 => ?_
          walk_at "h"
          refine rd_slS (sz_le (by omega)) ?_
          walk_at "h"
          have wn : 0 < (cds wd).length := by rw [← len_cds]; omega
          obtain ⟨c0, hc0⟩ : ∃ c0, (cds wd)[0]? = some c0 := ⟨_, List.getElem?_eq_getElem wn⟩
          refine rd_ixs (sz_le (by omega)) (atI_nat (j := 0) hc0) ?_
          have lc : 97 ≤ c0 ∧ c0 ≤ 122 := lw c0 (List.mem_of_getElem? hc0)
          have lb1 : (cds (cutS bs none (some k))).length = k.toNat := by
            rw [cds_upto _ k0, List.length_take, ← len_cds]; omega
          have lb2 : (cds (cutS bs (some (k + 1)) none)).length = bs.length - (k.toNat + 1) := by
            rw [cds_from _ (by omega), List.length_drop, ← len_cds]
            congr 1
            omega
          refine rd_addS (sz_le ?_) ?_
          · rw [len_cds, len_cds, lb1, cds_one]; simp only [List.length_cons, List.length_nil]; omega
          walk_at "h"
          refine rd_slS (sz_le (by omega)) ?_
          refine rd_addS (sz_le ?_) ?_
          · rw [len_cds, len_cds, cds_app, List.length_append, lb1, lb2, cds_one]; simp only [List.length_cons, List.length_nil]; omega
          walk_at "h"
          refine ⟨_, _, rfl, ?_, ?_, ((lb.cut _ _).app (Low.one lc.1 lc.2)).app (lb.cut _ _), D6, f5.trans f6⟩
          · rw [len_cds, cds_app, cds_app, List.length_append, List.length_append, lb1, lb2, cds_one]; simp only [List.length_cons, List.length_nil]; omega
          · rw [len_cds, cds_app, cds_app, List.length_append, List.length_append, lb1, lb2, cds_one]; simp only [List.length_cons, List.length_nil]; omega
        · walk_at "h"
          exact ⟨wd, v7, rfl, w0, by omega, lw, D5, f5⟩
      · rintro σ' H6 ⟨wd, v7, rfl, w0, w1, lw, D6, f6⟩
        have hl6 : H6 l = some (.lst (N.map V.str)) := f6 _ _ npl hl
        walk_at "h"
        refine for_it walk_str (fun j σ H' => ∃ (z : Str) (v8 : Option V), σ = [some (V.ref p), some (V.int many), some (V.int al), some (V.str bs), some (V.ref l), some (V.int (0 + i)), some (V.str z), v7, v8] ∧ 1 ≤ z.length ∧ z.length ≤ 8 ∧ Low z ∧ Met N j z ∧ H' = H6)
          ⟨wd, v8, rfl, w0, w1, lw, Met.start N wd, rfl⟩ (fun _ _ _ _ _ => True.intro) ?_ ?_
        · rintro j x σ H7 H8 hj ⟨z, v8, rfl, z0, z1, lz, mz, rfl⟩ ⟨rfl, c, hc, rfl⟩
          obtain ⟨rfl, hj8⟩ := sign_at hc
          walk_at "h"
          refine rd_inS (sql hl6) ?_
          walk_at "h"
          refine ite2 (fun e1 => ?_) (fun e1 => ?_)
          · have zN : z ∈ N := of_decide_eq_true e1
            walk_at "h"
            refine rd_slS (sz_le (by omega)) ?_
            have l7 : (cds (cutS z none (some 7))).length ≤ 7 := by
              rw [cds_upto _ (by decide), List.length_take]; exact Nat.min_le_left _ _
            walk_at "h"
            refine rd_addS (sz_le ?_) ?_
            · rw [len_cds, len_cds, cds_one]; simp only [List.length_cons, List.length_nil]; omega
            walk_at "h"
            have le : (cutS z none (some 7) ++ (⟨#[97 + j]⟩ : Str)).length = (cds (cutS z none (some 7))).length + 1 := by
              rw [len_cds, cds_app, List.length_append, cds_one]; rfl
            exact ⟨_, _, rfl, by omega, by omega, (lz.cut _ _).app (Low.one (by omega) (by omega)), mz.next zN (by rw [cds_app, cds_one]; simp), rfl⟩
          · have zN : z ∉ N := of_decide_eq_false (by simpa using e1)
            walk_at "h"
            exact ⟨_, _, rfl, z0, z1, lz, .inl zN, rfl⟩
        · rintro σ H7 ⟨z, v8, rfl, z0, z1, lz, mz, rfl⟩
          have zN : z ∉ N := Met.done (by rw [show ("abcdefgh" : Str).cps.size = 8 by decide +kernel] at mz; exact mz) (by omega)
          walk_at "h"
          refine ⟨.inl ⟨rfl, _, sql hl6⟩, ?_⟩
          walk_at "h"
          refine rd_app hl6 (by rw [List.length_map]; exact sz_lt (by omega)) ?_
          walk_at "h"
          refine ⟨N ++ [z], _, _, _, _, rfl, by rw [List.length_append, lN]; rfl, fun y hy => ?_, List.nodup_append.mpr ⟨nN, List.nodup_cons.mpr ⟨List.not_mem_nil, List.nodup_nil⟩, fun a ha b hb e => ?_⟩, by rw [upd_same, List.map_append]; rfl, ?_, ?_⟩
          · rcases List.mem_append.mp hy with r | r
            · exact oN y r
            · rw [List.mem_singleton.mp r]; exact ⟨z0, z1, lz⟩
          · rw [List.mem_singleton.mp hb] at e
            rw [e] at ha
            exact zN ha
          · exact D6.mut npl ncl
          · exact (f4.trans f6).mut nl0
    · rintro σ H4 ⟨N, v5, v6, v7, v8, rfl, lN, oN, nN, hl, D4, f4⟩
      walk_at "h"
      refine rd_sortS (sql hl) (by omega) fun ys m pm so nm => ?_
      have npm := (D4.new nm).1
      exact q ys m _ (by rw [pm.length_eq]; omega) ⟨fun y hy => oN y (pm.mem_iff.mp hy), pm.nodup_iff.mpr nN, so⟩ (f4.back npm nm) upd_same (D4.keep (same_new nm)) (f4.trans (Fr.new nm))
end
end K94
namespace K94
open PySem PySem.Spec PyProof.Rows L2 HH
local macro_rules | `(tactic| walk_at "h1") => `(tactic| first
  | with_reducible refine rd_seq ?_ | with_reducible refine rd_asg ?_ | with_reducible refine rd_op ?_
  | ((with_reducible refine' rd_var ?hv ?_); (case hv => exact rfl)) | with_reducible refine rd_c ?_
  | ((with_reducible refine rd_name ?_); dsimp only [List.set_cons_zero, List.set_cons_succ])
  | with_reducible refine rd_I0 ?_ | ((with_reducible refine rd_pow ?_ ?_ ?_ ?_); (· decide); (· decide); (· decide)) | ((with_reducible refine rd_mod ?_ ?_); (· decide)) | ((with_reducible refine rd_mulR ?_ ?_ ?_); (· decide); (· decide)) | ((with_reducible refine rd_divW (n := 64) ?_ ?_ ?_ ?_ ?_); (· decide); (· decide); (· decide); (· decide)) | with_reducible refine rd_addI ?_ | with_reducible refine rd_eqI ?_ | with_reducible refine rd_eqS ?_ | with_reducible refine rd_eqB ?_ | with_reducible refine rd_ltI ?_
  | with_reducible refine rd_callS ?_ | with_reducible refine rd_xf ?_ | with_reducible refine rd_cons ?_ | with_reducible refine rd_nil ?_ | with_reducible refine rd_cb ?_ | with_reducible refine rd_call ?_
  | with_reducible refine rd_ifs ?_ | with_reducible refine rd_test ?_ | with_reducible refine rd_tB ?_ | with_reducible refine rd_blQ ?_ | with_reducible refine iteT ?_ | with_reducible refine iteF ?_ | with_reducible refine iteNotF ?_ | with_reducible refine iteNotT ?_
  | with_reducible refine rd_and ?_ | with_reducible refine rd_or ?_ | with_reducible refine rd_not ?_ | with_reducible refine rd_andV ?_ | with_reducible refine rd_orV ?_ | with_reducible refine rd_notV ?_ | with_reducible refine rd_if ?_
  | with_reducible refine rd_un ?_ | with_reducible refine rd_U ?_ | with_reducible refine rd_sub ?_ | with_reducible refine rd_tup ?_ | with_reducible refine rd_lst ?_
  | with_reducible refine rd_intI ?_ | with_reducible refine rd_absI ?_ | with_reducible refine rd_drop ?_ | with_reducible refine rd_ret ?_ | with_reducible refine rd_retN ?_ | with_reducible refine rd_next ?_ | with_reducible refine rd_bm ?_
  | with_reducible refine rd_tDGet2 ?_ | with_reducible refine rd_tDGet ?_ | with_reducible refine rd_sDPut ?_ | with_reducible refine rd_dnewK ?_ | with_reducible refine rd_nnew ?_ | with_reducible refine rd_nget ?_ | with_reducible refine rd_nget2 ?_ | with_reducible refine rd_npop ?_ | with_reducible refine rd_nput ?_ | with_reducible refine rd_dcn ?_ | with_reducible refine rd_gtup ?_ | with_reducible refine rd_gcons ?_ | with_reducible refine rd_gnil ?_ | with_reducible refine rd_lc ?_ | with_reducible refine rd_yes ?_ | with_reducible refine rd_for ?_ | with_reducible refine rd_iL ?_ | with_reducible refine rd_neS ?_ | with_reducible refine rd_neN ?_ | with_reducible refine rd_neB ?_ | with_reducible refine rd_chain ?_ | with_reducible refine rd_bm0 ?_ | with_reducible refine rd_dc ?_ | with_reducible refine rd_iN ?_ | with_reducible refine rd_iZ ?_ | with_reducible refine rd_ngetF ?_ | with_reducible refine rd_iT ?_ | with_reducible refine rd_iR1 ?_ | with_reducible refine rd_iS ?_ | with_reducible refine rd_leafS ?_ | with_reducible refine rd_sl ?_ | with_reducible refine rd_noPart ?_ | with_reducible refine rd_part ?_ | with_reducible refine rd_leafI ?_)
local macro_rules | `(tactic| walk_at "h") => `(tactic| repeat walk_at "h1")

section
variable {P : Program} {w : World} {K : PySem.W.Frag} {mg : Str → Option Value} {base : Heap}
theorem ok_isint {f : Addr} {fd : FuncData} (F : Fun K "_law_is_integer" "_law_is_integer" s_l_is_integer f fd) (T : Bi mg) : FnOk P w K mg base CX0 1 f fd ["_law_thing"] spIsInt := by
  refine F.ok sc_l_is_integer (fun vs H Q E h => ?_) (fun cdv A outer s H vs Q E hr h => ?_)
  · obtain ⟨i, rfl, _⟩ := h
    rfl
  · obtain ⟨i, rfl, q⟩ := h
    have hu := hu_of hr
    have hu20 := hu20_of hr
    have hu40 := hu40_of hr
    refine ⟨_, (pss_one (ps_ret (pe_and (pe_callB (call_isiK (K := K)) (by rfl) T.isinstance_ (by decide +kernel) (pa_cons (pv 0) (pa_cons (pe_bltn (v := .ty "int") (by rfl) T.int_ (by decide +kernel) rfl) pa_nil))) (pe_one (pe_not (pe_callB (call_isiK (K := K)) (by rfl) T.isinstance_ (by decide +kernel) (pa_cons (pv 0) (pa_cons (pe_bltn (v := .ty "bool") (by rfl) T.bool_ (by decide +kernel) rfl) pa_nil)))))))), ?_⟩
    rw [show L2.start N_l_is_integer [V.int i] = [some (V.int i)] from rfl]
    (try dsimp only [cxOf, Cx.nox, Cx.wish])
    walk_at "h"
    refine rd_isi (r := true) (.base (.int i)) (by decide +kernel) ?_
    walk_at "h"
    refine rd_isi (r := false) (.base (.int i)) (by decide +kernel) ?_
    walk_at "h"
    exact q
end
end K94
namespace K94
open PySem PySem.Spec PyProof.Rows L2 HH
local macro_rules | `(tactic| walk_at "h1") => `(tactic| first
  | with_reducible refine rd_seq ?_ | with_reducible refine rd_asg ?_ | with_reducible refine rd_op ?_
  | ((with_reducible refine' rd_var ?hv ?_); (case hv => exact rfl)) | with_reducible refine rd_c ?_
  | ((with_reducible refine rd_name ?_); dsimp only [List.set_cons_zero, List.set_cons_succ])
  | with_reducible refine rd_I0 ?_ | ((with_reducible refine rd_pow ?_ ?_ ?_ ?_); (· decide); (· decide); (· decide)) | ((with_reducible refine rd_mod ?_ ?_); (· decide)) | ((with_reducible refine rd_mulR ?_ ?_ ?_); (· decide); (· decide)) | ((with_reducible refine rd_divW (n := 64) ?_ ?_ ?_ ?_ ?_); (· decide); (· decide); (· decide); (· decide)) | with_reducible refine rd_addI ?_ | with_reducible refine rd_eqI ?_ | with_reducible refine rd_eqS ?_ | with_reducible refine rd_eqB ?_ | with_reducible refine rd_ltI ?_
  | with_reducible refine rd_callS ?_ | with_reducible refine rd_xf ?_ | with_reducible refine rd_cons ?_ | with_reducible refine rd_nil ?_ | with_reducible refine rd_cb ?_ | with_reducible refine rd_call ?_
  | with_reducible refine rd_ifs ?_ | with_reducible refine rd_test ?_ | with_reducible refine rd_tB ?_ | with_reducible refine rd_blQ ?_ | with_reducible refine iteT ?_ | with_reducible refine iteF ?_ | with_reducible refine iteNotF ?_ | with_reducible refine iteNotT ?_
  | with_reducible refine rd_and ?_ | with_reducible refine rd_or ?_ | with_reducible refine rd_not ?_ | with_reducible refine rd_andV ?_ | with_reducible refine rd_orV ?_ | with_reducible refine rd_notV ?_ | with_reducible refine rd_if ?_
  | with_reducible refine rd_un ?_ | with_reducible refine rd_U ?_ | with_reducible refine rd_sub ?_ | with_reducible refine rd_tup ?_ | with_reducible refine rd_lst ?_
  | with_reducible refine rd_intI ?_ | with_reducible refine rd_absI ?_ | with_reducible refine rd_drop ?_ | with_reducible refine rd_ret ?_ | with_reducible refine rd_retN ?_ | with_reducible refine rd_next ?_ | with_reducible refine rd_bm ?_
  | with_reducible refine rd_tDGet2 ?_ | with_reducible refine rd_tDGet ?_ | with_reducible refine rd_sDPut ?_ | with_reducible refine rd_dnewK ?_ | with_reducible refine rd_nnew ?_ | with_reducible refine rd_nget ?_ | with_reducible refine rd_nget2 ?_ | with_reducible refine rd_npop ?_ | with_reducible refine rd_nput ?_ | with_reducible refine rd_dcn ?_ | with_reducible refine rd_gtup ?_ | with_reducible refine rd_gcons ?_ | with_reducible refine rd_gnil ?_ | with_reducible refine rd_lc ?_ | with_reducible refine rd_yes ?_ | with_reducible refine rd_for ?_ | with_reducible refine rd_iL ?_ | with_reducible refine rd_neS ?_ | with_reducible refine rd_neN ?_ | with_reducible refine rd_neB ?_ | with_reducible refine rd_chain ?_ | with_reducible refine rd_bm0 ?_ | with_reducible refine rd_dc ?_ | with_reducible refine rd_iN ?_ | with_reducible refine rd_iZ ?_ | with_reducible refine rd_ngetF ?_ | with_reducible refine rd_iT ?_ | with_reducible refine rd_iR1 ?_ | with_reducible refine rd_iS ?_ | with_reducible refine rd_leafS ?_ | with_reducible refine rd_sl ?_ | with_reducible refine rd_noPart ?_ | with_reducible refine rd_part ?_ | with_reducible refine rd_leafI ?_)
local macro_rules | `(tactic| walk_at "h") => `(tactic| repeat walk_at "h1")

section
variable {P : Program} {w : World} {K : PySem.W.Frag} {mg : Str → Option Value} {base : Heap}
theorem depth_mem : ∀ {ks : List NestedKey} {k : NestedKey}, k ∈ ks → k.depth ≤ NestedKey.depthAll ks
  | x :: ks, k, h => by
    rw [NestedKey.depthAll]
    rcases List.mem_cons.mp h with r | r
    · rw [r]; omega
    · have := depth_mem r; omega
theorem ok_same {f : Addr} {fd : FuncData} (F : Fun K "_law_same" "_law_same" s_l_same f fd) (T : Bi mg) (hm : mg "_law_same" = some (.ref f)) (hk : PySem.W.keepIn K (.ref f) = true) (hb : Binds K fd ["_law_one", "_law_other"] []) :
    ∀ d : Nat, FnOk P w K mg base CX0 (d + 1) f fd ["_law_one", "_law_other"] (spSame K d) := by
  intro d
  induction d with
  | zero =>
    exact ⟨fun vs H Q E h => (let ⟨_, _, _, _, _, _, z, _⟩ := h; absurd z (by omega)), fun A outer s H args us vs Q E _ _ _ _ h => (let ⟨_, _, _, _, _, _, z, _⟩ := h; absurd z (by omega))⟩
  | succ d ih =>
    have G_l_same : Callee P w K mg base (d + 1) "_law_same" ["_law_one", "_law_other"] (spSame K d) := ⟨f, fd, ih, hm, hk, hb⟩
    clear hm hk hb ih
    refine F.ok (k := d + 1) sc_l_same (fun vs H Q E h => ?_) (fun cdv A outer s H vs Q E hr h => ?_)
    · obtain ⟨k, a, b, rfl, _⟩ := h
      rfl
    · obtain ⟨k, a, b, rfl, ka, kb, dk, wk, q⟩ := h
      have hu := hu_of hr
      have hu20 := hu20_of hr
      have hu40 := hu40_of hr
      obtain ⟨f_l_same, fd_l_same, F_l_same, m_l_same, k_l_same, b_l_same⟩ := G_l_same
      refine ⟨_, (pss_cons (ps_if (pt_cmpR op_ne (pe_callB (call_isiK (K := K)) (by rfl) T.isinstance_ (by decide +kernel) (pa_cons (pv 0) (pa_cons (pe_bltn (v := .ty "tuple") (by rfl) T.tuple_ (by decide +kernel) rfl) pa_nil))) (pe_callB (call_isiK (K := K)) (by rfl) T.isinstance_ (by decide +kernel) (pa_cons (pv 1) (pa_cons (pe_bltn (v := .ty "tuple") (by rfl) T.tuple_ (by decide +kernel) rfl) pa_nil))) (nomark _)) (pss_one (ps_ret pe_bl)) pss_nil)
  (pss_cons (ps_if (pt_not (pt_val (pe_callB (call_isiK (K := K)) (by rfl) T.isinstance_ (by decide +kernel) (pa_cons (pv 0) (pa_cons (pe_bltn (v := .ty "tuple") (by rfl) T.tuple_ (by decide +kernel) rfl) pa_nil))))) (pss_one (ps_ret (pe_and (pe_cmpR (op_eqU (K := K) hu40) (pe_callB (call_isiK (K := K)) (by rfl) T.isinstance_ (by decide +kernel) (pa_cons (pv 0) (pa_cons (pe_bltn (v := .ty "bool") (by rfl) T.bool_ (by decide +kernel) rfl) pa_nil))) (pe_callB (call_isiK (K := K)) (by rfl) T.isinstance_ (by decide +kernel) (pa_cons (pv 1) (pa_cons (pe_bltn (v := .ty "bool") (by rfl) T.bool_ (by decide +kernel) rfl) pa_nil))) (nomark _)) (pe_one (pe_cmpR (op_eqU (K := K) hu40) (pv 0) (pv 1) (nomark _)))))) pss_nil)
  (pss_cons (ps_if (pt_cmpR op_ne (pe_callB (call_lenU (P := P) (w := w) (K := K)) (by rfl) T.len_ PySem.boot_len (pa_cons (pv 0) pa_nil)) (pe_callB (call_lenU (P := P) (w := w) (K := K)) (by rfl) T.len_ PySem.boot_len (pa_cons (pv 1) pa_nil)) (nomark _)) (pss_one (ps_ret pe_bl)) pss_nil)
  (pss_cons (ps_for PassesOwn.never rfl (pi_range1 (by rfl) T.range (pa_cons (pe_callB (call_lenU (P := P) (w := w) (K := K)) (by rfl) T.len_ PySem.boot_len (pa_cons (pv 0) pa_nil)) pa_nil)) (pg_name (i := 2) sc_l_same.nd rfl (.inl rfl))
    (pss_one (ps_if (pt_not (pt_val (pe_call F_l_same (hr.mono (by omega)) (by rfl) m_l_same k_l_same b_l_same .nil pass0 (pa_cons (pe_ix (ix_tupK (K := K)) (pv 0) (pv 2) (fun _ _ => rfl)) (pa_cons (pe_ix (ix_tupK (K := K)) (pv 1) (pv 2) (fun _ _ => rfl)) pa_nil))))) (pss_one (ps_ret pe_bl)) pss_nil)))
  (pss_one (ps_ret pe_bl)))))), ?_⟩
      rw [show L2.start N_l_same [a, b] = [some a, some b, none] from rfl]
      (try dsimp only [cxOf, Cx.nox, Cx.wish])
      cases k with
      | none => exact ka.elim
      | num i =>
        obtain rfl : a = .int i := ka
        obtain rfl : b = .int i := kb
        walk_at "h"
        refine rd_isi (r := false) (.base (.int i)) (by decide +kernel) ?_
        walk_at "h"
        refine rd_isi (r := false) (.base (.int i)) (by decide +kernel) ?_
        walk_at "h"
        rw [show (!decide (false = false)) = false from rfl]
        walk_at "h"
        refine rd_isi (r := false) (.base (.int i)) (by decide +kernel) ?_
        walk_at "h"
        refine rd_isi (r := false) (.base (.int i)) (by decide +kernel) ?_
        walk_at "h"
        refine rd_isi (r := false) (.base (.int i)) (by decide +kernel) ?_
        walk_at "h"
        rw [show decide (false = false) = true from rfl]
        walk_at "h"
        rw [decide_eq_true rfl]
        exact q H (Same.refl _)
      | text z =>
        obtain rfl : a = .str z := ka
        obtain rfl : b = .str z := kb
        walk_at "h"
        refine rd_isi (r := false) (.base (.str z)) (by decide +kernel) ?_
        walk_at "h"
        refine rd_isi (r := false) (.base (.str z)) (by decide +kernel) ?_
        walk_at "h"
        rw [show (!decide (false = false)) = false from rfl]
        walk_at "h"
        refine rd_isi (r := false) (.base (.str z)) (by decide +kernel) ?_
        walk_at "h"
        refine rd_isi (r := false) (.base (.str z)) (by decide +kernel) ?_
        walk_at "h"
        refine rd_isi (r := false) (.base (.str z)) (by decide +kernel) ?_
        walk_at "h"
        rw [show decide (false = false) = true from rfl]
        walk_at "h"
        rw [decide_eq_true rfl]
        exact q H (Same.refl _)
      | tup ks =>
        obtain ⟨aa, va, rfl, sa, kva⟩ := ka
        obtain ⟨bb, vb, rfl, sb, kvb⟩ := kb
        have na := IsKs.length kva
        have nb := IsKs.length kvb
        rw [wide2, Bool.and_eq_true] at wk
        have wl := of_decide_eq_true wk.1
        walk_at "h"
        refine rd_isi (r := true) (sqt_ty sa) (by decide +kernel) ?_
        walk_at "h"
        refine rd_isi (r := true) (sqt_ty sb) (by decide +kernel) ?_
        walk_at "h"
        rw [show (!decide (true = true)) = false from rfl]
        walk_at "h"
        refine rd_isi (r := true) (sqt_ty sa) (by decide +kernel) ?_
        walk_at "h"
        refine rd_lenT sa ?_
        walk_at "h"
        refine rd_lenT sb ?_
        walk_at "h"
        rw [show (!decide ((va.length : Int) = (vb.length : Int))) = false by rw [decide_eq_true (by omega)]; rfl]
        walk_at "h"
        refine rd_lenT sa ?_
        walk_at "h"
        refine rd_leafR (by omega) (by omega) ?_
        refine for_range (fun i σ H' => ∃ v2 : Option V, σ = [some (V.ref aa), some (V.ref bb), v2] ∧ Same H H') ⟨none, rfl, Same.refl _⟩ ?_ ?_
        · rintro i σ H1 hi ⟨v2, rfl, s1⟩
          have hi2 : i < ks.length := by omega
          obtain ⟨xa, exa, kxa⟩ := IsKs.get (i := i) (k := ks[i]) kva (List.getElem?_eq_getElem hi2)
          obtain ⟨xb, exb, kxb⟩ := IsKs.get (i := i) (k := ks[i]) kvb (List.getElem?_eq_getElem hi2)
          have tp1 := same_tup (K := K) s1
          walk_at "h"
          rw [Int.zero_add]
          refine rd_ixt (tp1 _ _ sa) (atI_nat exa) ?_
          walk_at "h"
          refine rd_ixt (tp1 _ _ sb) (atI_nat exb) ?_
          walk_at "h"
          have dd := depth_mem (List.getElem_mem hi2)
          refine ⟨ks[i], xa, xb, rfl, kxa.keep tp1, kxb.keep tp1, ?_, wides2_mem wk.2 (List.getElem_mem hi2), fun H2 s2 => ?_⟩
          · rw [NestedKey.depth] at dk; omega
          walk_at "h"
          exact ⟨_, rfl, s1.trans s2⟩
        · rintro σ H1 ⟨v2, rfl, s1⟩
          walk_at "h"
          exact q H1 s1
end
end K94
namespace K94
open PySem PySem.Spec PyProof.Rows L2 HH TL
local macro_rules | `(tactic| walk_at "h1") => `(tactic| first
  | with_reducible refine rd_seq ?_ | with_reducible refine rd_asg ?_ | with_reducible refine rd_op ?_
  | ((with_reducible refine' rd_var ?hv ?_); (case hv => exact rfl)) | with_reducible refine rd_c ?_
  | ((with_reducible refine rd_name ?_); dsimp only [List.set_cons_zero, List.set_cons_succ])
  | with_reducible refine rd_I0 ?_ | ((with_reducible refine rd_pow ?_ ?_ ?_ ?_); (· decide); (· decide); (· decide)) | ((with_reducible refine rd_mod ?_ ?_); (· decide)) | ((with_reducible refine rd_mulR ?_ ?_ ?_); (· decide); (· decide)) | ((with_reducible refine rd_divW (n := 64) ?_ ?_ ?_ ?_ ?_); (· decide); (· decide); (· decide); (· decide)) | with_reducible refine rd_addI ?_ | with_reducible refine rd_eqI ?_ | with_reducible refine rd_eqS ?_ | with_reducible refine rd_eqB ?_ | with_reducible refine rd_ltI ?_
  | with_reducible refine rd_callS ?_ | with_reducible refine rd_xf ?_ | with_reducible refine rd_cons ?_ | with_reducible refine rd_nil ?_ | with_reducible refine rd_cb ?_ | with_reducible refine rd_call ?_
  | with_reducible refine rd_ifs ?_ | with_reducible refine rd_test ?_ | with_reducible refine rd_tB ?_ | with_reducible refine rd_blQ ?_ | with_reducible refine iteT ?_ | with_reducible refine iteF ?_ | with_reducible refine iteNotF ?_ | with_reducible refine iteNotT ?_
  | with_reducible refine rd_and ?_ | with_reducible refine rd_or ?_ | with_reducible refine rd_not ?_ | with_reducible refine rd_andV ?_ | with_reducible refine rd_orV ?_ | with_reducible refine rd_notV ?_ | with_reducible refine rd_if ?_
  | with_reducible refine rd_un ?_ | with_reducible refine rd_U ?_ | with_reducible refine rd_sub ?_ | with_reducible refine rd_tup ?_ | with_reducible refine rd_lst ?_
  | with_reducible refine rd_intI ?_ | with_reducible refine rd_absI ?_ | with_reducible refine rd_drop ?_ | with_reducible refine rd_ret ?_ | with_reducible refine rd_retN ?_ | with_reducible refine rd_next ?_ | with_reducible refine rd_bm ?_
  | with_reducible refine rd_tDGet2 ?_ | with_reducible refine rd_tDGet ?_ | with_reducible refine rd_sDPut ?_ | with_reducible refine rd_dnewK ?_ | with_reducible refine rd_nnew ?_ | with_reducible refine rd_nget ?_ | with_reducible refine rd_nget2 ?_ | with_reducible refine rd_npop ?_ | with_reducible refine rd_nput ?_ | with_reducible refine rd_dcn ?_ | with_reducible refine rd_gtup ?_ | with_reducible refine rd_gcons ?_ | with_reducible refine rd_gnil ?_ | with_reducible refine rd_lc ?_ | with_reducible refine rd_yes ?_ | with_reducible refine rd_for ?_ | with_reducible refine rd_iL ?_ | with_reducible refine rd_neS ?_ | with_reducible refine rd_neN ?_ | with_reducible refine rd_neB ?_ | with_reducible refine rd_chain ?_ | with_reducible refine rd_bm0 ?_ | with_reducible refine rd_dc ?_ | with_reducible refine rd_iN ?_ | with_reducible refine rd_iZ ?_ | with_reducible refine rd_ngetF ?_ | with_reducible refine rd_iT ?_ | with_reducible refine rd_iR1 ?_ | with_reducible refine rd_iS ?_ | with_reducible refine rd_leafS ?_ | with_reducible refine rd_sl ?_ | with_reducible refine rd_noPart ?_ | with_reducible refine rd_part ?_ | with_reducible refine rd_leafI ?_)
local macro_rules | `(tactic| walk_at "h") => `(tactic| repeat walk_at "h1")

local macro_rules | `(tactic| walk_at "h1") => `(tactic| first
  | with_reducible refine rd_m1 ?_ | with_reducible refine rd_isS ?_ | with_reducible refine rd_tupZ2 ?_)

section
variable {P : Program} {w : World} {K : PySem.W.Frag} {mg : Str → Option Value} {base : Heap}
theorem ok_isname {f : Addr} {fd : FuncData} (F : Fun K "is_name" "is_name" s_is_name f fd) (T : Bi mg) (g8 : ∃ t, mg "LONGEST_NAME" = some (.int 8 t)) : FnOk P w K mg base CX0 1 f fd ["thing"] spIsName := by
  refine F.ok sc_is_name (fun vs H Q E h => ?_) (fun cdv A outer s H vs Q E hr h => ?_)
  · obtain ⟨z, rfl, _⟩ := h
    rfl
  · obtain ⟨z, rfl, lz, q⟩ := h
    have hu := hu_of hr
    have hu20 := hu20_of hr
    have hu40 := hu40_of hr
    obtain ⟨t8, c_LONGEST_NAME⟩ := g8
    refine ⟨_, (pss_cons (ps_if (PW.pt (pw_or (pt_not (pt_val (pe_callB (call_isiK (K := K)) (by rfl) T.isinstance_ (by decide +kernel) (pa_cons (pv 0) (pa_cons (pe_bltn (v := .ty "str") (by rfl) T.str_ (by decide +kernel) rfl) pa_nil))))) (pw_or1 (pt_not (pt_chain op_le op_le pe_int (pe_callB (call_lenU (P := P) (w := w) (K := K)) (by rfl) T.len_ PySem.boot_len (pa_cons (pv 0) pa_nil)) (pe_glob (v := .int 8) (by rfl) c_LONGEST_NAME ⟨_, rfl⟩)))))) (pss_one (ps_ret pe_bl)) pss_nil)
  (pss_one (ps_ret (pe_callB (cr_allK (K := K) rfl) (by rfl) T.all_ (by decide +kernel) (pa_cons (pe_lc (own := [("letter", 1)]) rfl sc_is_name.nd (pi_str (pv 0)) (blkOk_by (N := N_is_name) (sc := defScope s_is_name) (by decide +kernel)) (fun _ _ _ _ _ => (pg_name (i := 1) sc_is_name.nd rfl (.inl rfl))) (fun _ _ _ _ _ => pts_nil) (fun _ _ _ _ _ => (pe_chain op_le_str op_le_str pe_str (pv 1) pe_str))) pa_nil))))), ?_⟩
    rw [show L2.start N_is_name [V.str z] = [some (V.str z), none] from rfl]
    (try dsimp only [cxOf, Cx.nox, Cx.wish])
    walk_at "h"
    refine rd_isi (.base (.str _)) rfl ?_
    walk_at "h"
    refine rd_lenS (sz_le (by omega)) ?_
    walk_at "h"
    have no : ¬ (1 ≤ z.length ∧ z.length ≤ 8) → isNmL (cds z) = false := fun h => by
      cases e : isNmL (cds z) with
      | false => rfl
      | true =>
        have := isNmL_iff.mp e
        rw [len_cds] at h
        exact absurd ⟨this.1, this.2.1⟩ h
    by_cases c1 : 1 ≤ z.length
    case neg =>
      rw [decide_eq_false (show ¬ (1 : Int) ≤ (z.length : Int) by omega)]
      walk_at "h"
      have := q H (fun _ _ h => h)
      rw [no (by omega)] at this
      exact this
    rw [decide_eq_true (show (1 : Int) ≤ (z.length : Int) by omega)]
    walk_at "h"
    by_cases c2 : z.length ≤ 8
    case neg =>
      rw [decide_eq_false (show ¬ (z.length : Int) ≤ 8 by omega)]
      walk_at "h"
      have := q H (fun _ _ h => h)
      rw [no (by omega)] at this
      exact this
    rw [decide_eq_true (show (z.length : Int) ≤ 8 by omega)]
    walk_at "h"
    intro D nD
    refine lc_strW (z := z) [some (V.str z), none] rfl (fun i H' => Same H H' ∧ ∃ bs : List Bool, H' D = some (.lst (bs.map V.bl)) ∧ bs = ((cds z).take i).map fun c => decide (97 ≤ c) && decide (c ≤ 122)) ⟨same_new nD, [], upd_same, rfl⟩ ?_ ?_
    · rintro i c H1 hc ⟨s1, bs, hD, eb⟩
      have hi : i < (cds z).length := (List.getElem?_eq_some_iff.mp hc).1
      have lb : bs.length ≤ 100000 := by rw [eb, List.length_map, List.length_take]; rw [len_cds] at lz; omega
      have etk : (cds z).take (i + 1) = (cds z).take i ++ [c] := by rw [List.take_add_one, hc]; rfl
      walk_at "h"
      refine ⟨rfl, ?_⟩
      walk_at "h"
      refine ⟨_, _, rfl, rfl, ?_⟩
      rw [show (!decide ((⟨#[c]⟩ : Str).cps.toList < (Str.ofString "a").cps.toList)) = decide (97 ≤ c) from le1 97 c]
      walk_at "h"
      have fin : ∀ b : Bool, (decide (97 ≤ c) && decide (c ≤ 122)) = b → ∃ acc, H1 D = some (.lst acc) ∧ acc.length < sizeLine ∧ Same H (upd H1 D (.lst (acc ++ [V.bl b]))) ∧ ∃ bs : List Bool, (upd H1 D (.lst (acc ++ [V.bl b]))) D = some (.lst (bs.map V.bl)) ∧ bs = ((cds z).take (i + 1)).map fun c => decide (97 ≤ c) && decide (c ≤ 122) := fun b hb =>
        ⟨bs.map V.bl, hD, sz_lt (by rw [List.length_map]; omega), same_mut s1 nD, bs ++ [b], by rw [upd_same, List.map_append]; rfl, by rw [etk, List.map_append, eb, ← hb]; rfl⟩
      by_cases c1 : 97 ≤ c
      · rw [decide_eq_true c1]
        walk_at "h"
        refine ⟨_, _, rfl, rfl, ?_⟩
        rw [show (!decide ((Str.ofString "z").cps.toList < (⟨#[c]⟩ : Str).cps.toList)) = decide (c ≤ 122) from le1 c 122]
        exact fin _ (by rw [decide_eq_true c1]; rfl)
      · rw [decide_eq_false c1]
        walk_at "h"
        exact fin _ (by rw [decide_eq_false c1]; rfl)
    rintro H1 ⟨s1, bs, hD, eb⟩
    rw [List.take_length] at eb
    have ea : bs.all id = (cds z).all fun c => decide (97 ≤ c) && decide (c ≤ 122) := by rw [eb, List.all_map]; rfl
    walk_at "h"
    refine rd_all hD ?_
    rw [ea]
    have := q H1 s1
    unfold isNmL at this
    rw [decide_eq_true (show 1 ≤ (cds z).length by rw [← len_cds]; exact c1), decide_eq_true (show (cds z).length ≤ 8 by rw [← len_cds]; exact c2)] at this
    exact this
end
end K94
namespace K94
open PySem PySem.Spec PyProof.Rows L2 HH TL
local macro_rules | `(tactic| walk_at "h1") => `(tactic| first
  | with_reducible refine rd_seq ?_ | with_reducible refine rd_asg ?_ | with_reducible refine rd_op ?_
  | ((with_reducible refine' rd_var ?hv ?_); (case hv => exact rfl)) | with_reducible refine rd_c ?_
  | ((with_reducible refine rd_name ?_); dsimp only [List.set_cons_zero, List.set_cons_succ])
  | with_reducible refine rd_I0 ?_ | ((with_reducible refine rd_pow ?_ ?_ ?_ ?_); (· decide); (· decide); (· decide)) | ((with_reducible refine rd_mod ?_ ?_); (· decide)) | ((with_reducible refine rd_mulR ?_ ?_ ?_); (· decide); (· decide)) | ((with_reducible refine rd_divW (n := 64) ?_ ?_ ?_ ?_ ?_); (· decide); (· decide); (· decide); (· decide)) | with_reducible refine rd_addI ?_ | with_reducible refine rd_eqI ?_ | with_reducible refine rd_eqS ?_ | with_reducible refine rd_eqB ?_ | with_reducible refine rd_ltI ?_
  | with_reducible refine rd_callS ?_ | with_reducible refine rd_xf ?_ | with_reducible refine rd_cons ?_ | with_reducible refine rd_nil ?_ | with_reducible refine rd_cb ?_ | with_reducible refine rd_call ?_
  | with_reducible refine rd_ifs ?_ | with_reducible refine rd_test ?_ | with_reducible refine rd_tB ?_ | with_reducible refine rd_blQ ?_ | with_reducible refine iteT ?_ | with_reducible refine iteF ?_ | with_reducible refine iteNotF ?_ | with_reducible refine iteNotT ?_
  | with_reducible refine rd_and ?_ | with_reducible refine rd_or ?_ | with_reducible refine rd_not ?_ | with_reducible refine rd_andV ?_ | with_reducible refine rd_orV ?_ | with_reducible refine rd_notV ?_ | with_reducible refine rd_if ?_
  | with_reducible refine rd_un ?_ | with_reducible refine rd_U ?_ | with_reducible refine rd_sub ?_ | with_reducible refine rd_tup ?_ | with_reducible refine rd_lst ?_
  | with_reducible refine rd_intI ?_ | with_reducible refine rd_absI ?_ | with_reducible refine rd_drop ?_ | with_reducible refine rd_ret ?_ | with_reducible refine rd_retN ?_ | with_reducible refine rd_next ?_ | with_reducible refine rd_bm ?_
  | with_reducible refine rd_tDGet2 ?_ | with_reducible refine rd_tDGet ?_ | with_reducible refine rd_sDPut ?_ | with_reducible refine rd_dnewK ?_ | with_reducible refine rd_nnew ?_ | with_reducible refine rd_nget ?_ | with_reducible refine rd_nget2 ?_ | with_reducible refine rd_npop ?_ | with_reducible refine rd_nput ?_ | with_reducible refine rd_dcn ?_ | with_reducible refine rd_gtup ?_ | with_reducible refine rd_gcons ?_ | with_reducible refine rd_gnil ?_ | with_reducible refine rd_lc ?_ | with_reducible refine rd_yes ?_ | with_reducible refine rd_for ?_ | with_reducible refine rd_iL ?_ | with_reducible refine rd_neS ?_ | with_reducible refine rd_neN ?_ | with_reducible refine rd_neB ?_ | with_reducible refine rd_chain ?_ | with_reducible refine rd_bm0 ?_ | with_reducible refine rd_dc ?_ | with_reducible refine rd_iN ?_ | with_reducible refine rd_iZ ?_ | with_reducible refine rd_ngetF ?_ | with_reducible refine rd_iT ?_ | with_reducible refine rd_iR1 ?_ | with_reducible refine rd_iS ?_ | with_reducible refine rd_leafS ?_ | with_reducible refine rd_sl ?_ | with_reducible refine rd_noPart ?_ | with_reducible refine rd_part ?_ | with_reducible refine rd_leafI ?_)
local macro_rules | `(tactic| walk_at "h") => `(tactic| repeat walk_at "h1")

local macro_rules | `(tactic| walk_at "h1") => `(tactic| first
  | with_reducible refine rd_m1 ?_ | with_reducible refine rd_isS ?_ | with_reducible refine rd_tupZ2 ?_)

section
variable {P : Program} {w : World} {K : PySem.W.Frag} {mg : Str → Option Value} {base : Heap}
theorem ok_numin {f : Addr} {fd : FuncData} (F : Fun K "number_in" "number_in" s_number_in f fd) (T : Bi mg) (g9 : ∃ t, mg "LONGEST_NUMBER" = some (.int 9 t)) : FnOk P w K mg base CX0 1 f fd ["text"] spNumIn := by
  refine F.ok sc_number_in (fun vs H Q E h => ?_) (fun cdv A outer s H vs Q E hr h => ?_)
  · obtain ⟨z, rfl, _⟩ := h
    rfl
  · obtain ⟨z, rfl, lz, q, qn⟩ := h
    have hu := hu_of hr
    have hu20 := hu20_of hr
    have hu40 := hu40_of hr
    obtain ⟨t9, c_LONGEST_NUMBER⟩ := g9
    refine ⟨_, (pss_cons (ps_if (PW.pt (pw_or (pt_not (pt_chain op_le op_le pe_int (pe_callB (call_lenU (P := P) (w := w) (K := K)) (by rfl) T.len_ PySem.boot_len (pa_cons (pv 0) pa_nil)) (pe_glob (v := .int 9) (by rfl) c_LONGEST_NUMBER ⟨_, rfl⟩))) (pw_or1 (pt_not (pt_val (pe_callB (cr_allK (K := K) rfl) (by rfl) T.all_ (by decide +kernel) (pa_cons (pe_lc (own := [("letter", 1)]) rfl sc_number_in.nd (pi_str (pv 0)) (blkOk_by (N := N_number_in) (sc := defScope s_number_in) (by decide +kernel)) (fun _ _ _ _ _ => (pg_name (i := 1) sc_number_in.nd rfl (.inl rfl))) (fun _ _ _ _ _ => pts_nil) (fun _ _ _ _ _ => (pe_chain op_le_str op_le_str pe_str (pv 1) pe_str))) pa_nil))))))) (pss_one (ps_ret pe_non)) pss_nil)
  (pss_cons (ps_if (PW.pt (pw_and (pt_cmpR (op_eqU (K := K) hu40) (pe_ix ix_str (pv 0) pe_int (fun _ _ => rfl)) pe_str (nomark _)) (pw_and1 (pt_cmpR op_ne (pv 0) pe_str (nomark _))))) (pss_one (ps_ret pe_non)) pss_nil)
  (pss_one (ps_ret (pe_callTy call_int_str (by rfl) T.int_ (by decide +kernel) (pa_cons (pv 0) pa_nil)))))), ?_⟩
    rw [show L2.start N_number_in [V.str z] = [some (V.str z), none] from rfl]
    (try dsimp only [cxOf, Cx.nox, Cx.wish])
    walk_at "h"
    have no : ¬ (1 ≤ z.length ∧ z.length ≤ 9 ∧ digL (cds z) = true ∧ ¬ ((cds z).head? = some 48 ∧ cds z ≠ [48])) → numO (cds z) = none := fun h => by
      unfold numO
      rw [if_neg]
      rw [len_cds] at h
      simp only [Bool.and_eq_true, decide_eq_true_eq, Bool.not_eq_true', Bool.and_eq_false_iff, decide_eq_false_iff_not, Bool.not_eq_false']
      rintro ⟨⟨⟨a, b⟩, c⟩, d⟩
      refine h ⟨a, b, c, ?_⟩
      rintro ⟨e1, e2⟩
      exact d.elim (fun w => w e1) (fun w => e2 w)
    refine rd_lenS (sz_le (by omega)) ?_
    walk_at "h"
    by_cases c1 : 1 ≤ z.length
    case neg =>
      rw [decide_eq_false (show ¬ (1 : Int) ≤ (z.length : Int) by omega)]
      walk_at "h"
      exact qn (no (by omega)) H (fun _ _ h => h)
    rw [decide_eq_true (show (1 : Int) ≤ (z.length : Int) by omega)]
    walk_at "h"
    by_cases c2 : z.length ≤ 9
    case neg =>
      rw [decide_eq_false (show ¬ (z.length : Int) ≤ 9 by omega)]
      walk_at "h"
      exact qn (no (by omega)) H (fun _ _ h => h)
    rw [decide_eq_true (show (z.length : Int) ≤ 9 by omega)]
    walk_at "h"
    intro D nD
    refine lc_strW (z := z) [some (V.str z), none] rfl (fun i H' => Same H H' ∧ ∃ bs : List Bool, H' D = some (.lst (bs.map V.bl)) ∧ bs = ((cds z).take i).map fun c => decide (48 ≤ c) && decide (c ≤ 57)) ⟨same_new nD, [], upd_same, rfl⟩ ?_ ?_
    · rintro i c H1 hc ⟨s1, bs, hD, eb⟩
      have hi : i < (cds z).length := (List.getElem?_eq_some_iff.mp hc).1
      have lb : bs.length ≤ 100000 := by rw [eb, List.length_map, List.length_take]; rw [len_cds] at lz; omega
      have etk : (cds z).take (i + 1) = (cds z).take i ++ [c] := by rw [List.take_add_one, hc]; rfl
      walk_at "h"
      refine ⟨rfl, ?_⟩
      walk_at "h"
      refine ⟨_, _, rfl, rfl, ?_⟩
      rw [show (!decide ((⟨#[c]⟩ : Str).cps.toList < (Str.ofString "0").cps.toList)) = decide (48 ≤ c) from le1 48 c]
      walk_at "h"
      have fin : ∀ b : Bool, (decide (48 ≤ c) && decide (c ≤ 57)) = b → ∃ acc, H1 D = some (.lst acc) ∧ acc.length < sizeLine ∧ Same H (upd H1 D (.lst (acc ++ [V.bl b]))) ∧ ∃ bs : List Bool, (upd H1 D (.lst (acc ++ [V.bl b]))) D = some (.lst (bs.map V.bl)) ∧ bs = ((cds z).take (i + 1)).map fun c => decide (48 ≤ c) && decide (c ≤ 57) := fun b hb =>
        ⟨bs.map V.bl, hD, sz_lt (by rw [List.length_map]; omega), same_mut s1 nD, bs ++ [b], by rw [upd_same, List.map_append]; rfl, by rw [etk, List.map_append, eb, ← hb]; rfl⟩
      by_cases c1 : 48 ≤ c
      · rw [decide_eq_true c1]
        walk_at "h"
        refine ⟨_, _, rfl, rfl, ?_⟩
        rw [show (!decide ((Str.ofString "9").cps.toList < (⟨#[c]⟩ : Str).cps.toList)) = decide (c ≤ 57) from le1 c 57]
        exact fin _ (by rw [decide_eq_true c1]; rfl)
      · rw [decide_eq_false c1]
        walk_at "h"
        exact fin _ (by rw [decide_eq_false c1]; rfl)
    rintro H1 ⟨s1, bs, hD, eb⟩
    rw [List.take_length] at eb
    have ea : bs.all id = (cds z).all fun c => decide (48 ≤ c) && decide (c ≤ 57) := by rw [eb, List.all_map]; rfl
    walk_at "h"
    refine rd_all hD ?_
    rw [ea]
    rw [show ((cds z).all fun c => decide (48 ≤ c) && decide (c ≤ 57)) = digL (cds z) from rfl]
    walk_at "h"
    by_cases c3 : digL (cds z) = true
    case neg =>
      rw [show digL (cds z) = false by simpa using c3]
      walk_at "h"
      exact qn (no (fun h => c3 h.2.2.1)) H1 s1
    rw [c3]
    walk_at "h"
    have hlen : 0 < (cds z).length := by rw [← len_cds]; omega
    obtain ⟨c0, r0, ez⟩ : ∃ c0 r0, cds z = c0 :: r0 := by
      cases e : cds z with
      | nil => rw [e] at hlen; simp at hlen
      | cons c r => exact ⟨c, r, rfl⟩
    refine rd_ixs (sz_le (by omega)) (show atI z.cps.toList 0 = some c0 by rw [show z.cps.toList = c0 :: r0 from ez]; exact atI_nat (j := 0) rfl) ?_
    walk_at "h"
    have ad := digL_iff.mp c3
    have e48 : (⟨#[c0]⟩ : Str) = "0" ↔ c0 = 48 := ⟨fun h => by
      have := congrArg cds h
      exact (List.cons.inj this).1, fun h => by rw [h]; rfl⟩
    have hz48 : z = "0" ↔ cds z = [48] := ⟨fun h => by rw [h]; rfl, fun h => by rw [← mk_cds z, h]; rfl⟩
    have last : ¬ ((cds z).head? = some 48 ∧ cds z ≠ [48]) → numO (cds z) = some (NumText.digitsVal (cds z)) := fun h => by
      unfold numO
      rw [if_pos]
      rw [len_cds] at c1 c2
      simp only [Bool.and_eq_true, decide_eq_true_eq, Bool.not_eq_true', Bool.and_eq_false_iff, decide_eq_false_iff_not, Bool.not_eq_false']
      refine ⟨⟨⟨c1, c2⟩, c3⟩, ?_⟩
      by_cases g : (cds z).head? = some 48
      · exact .inr (Classical.byContradiction fun w => h ⟨g, w⟩)
      · exact .inl g
    by_cases c4 : c0 = 48
    case neg =>
      rw [decide_eq_false (fun h => c4 (e48.mp h))]
      walk_at "h"
      refine ⟨z, _, rfl, intText_digits (x := z) ad (by show cds z ≠ []; rw [ez]; simp) (by omega), by omega, ?_⟩
      exact q _ (last (fun h => c4 (by rw [ez] at h; exact Option.some.inj h.1))) H1 s1
    rw [decide_eq_true (e48.mpr c4)]
    walk_at "h"
    by_cases c5 : cds z = [48]
    case pos =>
      rw [decide_eq_true (hz48.mpr c5)]
      walk_at "h"
      refine ⟨z, _, rfl, intText_digits (x := z) ad (by show cds z ≠ []; rw [ez]; simp) (by omega), by omega, ?_⟩
      exact q _ (last (fun h => h.2 c5)) H1 s1
    rw [decide_eq_false (fun h => c5 (hz48.mp h))]
    walk_at "h"
    exact qn (no (fun h => h.2.2.2 ⟨by rw [ez, c4]; rfl, c5⟩)) H1 s1
end
end K94
namespace K94
open PySem PySem.Spec PyProof.Rows L2 HH TL
local macro_rules | `(tactic| walk_at "h1") => `(tactic| first
  | with_reducible refine rd_seq ?_ | with_reducible refine rd_asg ?_ | with_reducible refine rd_op ?_
  | ((with_reducible refine' rd_var ?hv ?_); (case hv => exact rfl)) | with_reducible refine rd_c ?_
  | ((with_reducible refine rd_name ?_); dsimp only [List.set_cons_zero, List.set_cons_succ])
  | with_reducible refine rd_I0 ?_ | ((with_reducible refine rd_pow ?_ ?_ ?_ ?_); (· decide); (· decide); (· decide)) | ((with_reducible refine rd_mod ?_ ?_); (· decide)) | ((with_reducible refine rd_mulR ?_ ?_ ?_); (· decide); (· decide)) | ((with_reducible refine rd_divW (n := 64) ?_ ?_ ?_ ?_ ?_); (· decide); (· decide); (· decide); (· decide)) | with_reducible refine rd_addI ?_ | with_reducible refine rd_eqI ?_ | with_reducible refine rd_eqS ?_ | with_reducible refine rd_eqB ?_ | with_reducible refine rd_ltI ?_
  | with_reducible refine rd_callS ?_ | with_reducible refine rd_xf ?_ | with_reducible refine rd_cons ?_ | with_reducible refine rd_nil ?_ | with_reducible refine rd_cb ?_ | with_reducible refine rd_call ?_
  | with_reducible refine rd_ifs ?_ | with_reducible refine rd_test ?_ | with_reducible refine rd_tB ?_ | with_reducible refine rd_blQ ?_ | with_reducible refine iteT ?_ | with_reducible refine iteF ?_ | with_reducible refine iteNotF ?_ | with_reducible refine iteNotT ?_
  | with_reducible refine rd_and ?_ | with_reducible refine rd_or ?_ | with_reducible refine rd_not ?_ | with_reducible refine rd_andV ?_ | with_reducible refine rd_orV ?_ | with_reducible refine rd_notV ?_ | with_reducible refine rd_if ?_
  | with_reducible refine rd_un ?_ | with_reducible refine rd_U ?_ | with_reducible refine rd_sub ?_ | with_reducible refine rd_tup ?_ | with_reducible refine rd_lst ?_
  | with_reducible refine rd_intI ?_ | with_reducible refine rd_absI ?_ | with_reducible refine rd_drop ?_ | with_reducible refine rd_ret ?_ | with_reducible refine rd_retN ?_ | with_reducible refine rd_next ?_ | with_reducible refine rd_bm ?_
  | with_reducible refine rd_tDGet2 ?_ | with_reducible refine rd_tDGet ?_ | with_reducible refine rd_sDPut ?_ | with_reducible refine rd_dnewK ?_ | with_reducible refine rd_nnew ?_ | with_reducible refine rd_nget ?_ | with_reducible refine rd_nget2 ?_ | with_reducible refine rd_npop ?_ | with_reducible refine rd_nput ?_ | with_reducible refine rd_dcn ?_ | with_reducible refine rd_gtup ?_ | with_reducible refine rd_gcons ?_ | with_reducible refine rd_gnil ?_ | with_reducible refine rd_lc ?_ | with_reducible refine rd_yes ?_ | with_reducible refine rd_for ?_ | with_reducible refine rd_iL ?_ | with_reducible refine rd_neS ?_ | with_reducible refine rd_neN ?_ | with_reducible refine rd_neB ?_ | with_reducible refine rd_chain ?_ | with_reducible refine rd_bm0 ?_ | with_reducible refine rd_dc ?_ | with_reducible refine rd_iN ?_ | with_reducible refine rd_iZ ?_ | with_reducible refine rd_ngetF ?_ | with_reducible refine rd_iT ?_ | with_reducible refine rd_iR1 ?_ | with_reducible refine rd_iS ?_ | with_reducible refine rd_leafS ?_ | with_reducible refine rd_sl ?_ | with_reducible refine rd_noPart ?_ | with_reducible refine rd_part ?_ | with_reducible refine rd_leafI ?_)
local macro_rules | `(tactic| walk_at "h") => `(tactic| repeat walk_at "h1")

local macro_rules | `(tactic| walk_at "h1") => `(tactic| first
  | with_reducible refine rd_m1 ?_ | with_reducible refine rd_isS ?_ | with_reducible refine rd_tupZ2 ?_)

section
variable {P : Program} {w : World} {K : PySem.W.Frag} {mg : Str → Option Value} {base : Heap}
theorem ok_pairin {f : Addr} {fd : FuncData} (F : Fun K "_pair_in" "_pair_in" s__pair_in f fd) (T : Bi mg) (G_is_name : Callee P w K mg base 1 "is_name" ["thing"] spIsName) (G_number_in : Callee P w K mg base 1 "number_in" ["text"] spNumIn) : FnOk P w K mg base CX0 2 f fd ["text"] (spPairIn K) := by
  refine F.ok (k := 1) sc__pair_in (fun vs H Q E h => ?_) (fun cdv A outer s H vs Q E hr h => ?_)
  · obtain ⟨z, rfl, _⟩ := h
    rfl
  · obtain ⟨z, rfl, lz, q, qn⟩ := h
    have hu := hu_of hr
    have hu20 := hu20_of hr
    have hu40 := hu40_of hr
    obtain ⟨f_is_name, fd_is_name, F_is_name, m_is_name, k_is_name, b_is_name⟩ := G_is_name; obtain ⟨f_number_in, fd_number_in, F_number_in, m_number_in, k_number_in, b_number_in⟩ := G_number_in
    refine ⟨_, (pss_cons (ps_asg (pe_partition (pv 0) pe_str) (pg_tupK (K := K) 3 rfl (pgs_cons (pg_name (i := 1) sc__pair_in.nd rfl (.inl rfl)) (pgs_cons (pg_name (i := 2) sc__pair_in.nd rfl (.inl rfl)) (pgs_cons (pg_name (i := 3) sc__pair_in.nd rfl (.inl rfl)) pgs_nil)))))
  (pss_cons (ps_if (pt_not (pt_val (pe_call F_is_name (hr.mono (by decide)) (by rfl) m_is_name k_is_name b_is_name .nil pass0 (pa_cons (pv 1) pa_nil)))) (pss_one (ps_ret pe_non)) pss_nil)
  (pss_cons (ps_if (pt_not (pt_truth (pv 2) (by intro _; rfl))) (pss_one (ps_ret (pe_tup (pa_cons (pv 1) (pa_cons pe_int pa_nil))))) pss_nil)
  (pss_cons (ps_set (i := 4) sc__pair_in.nd rfl (.inl rfl) (pe_call F_number_in (hr.mono (by decide)) (by rfl) m_number_in k_number_in b_number_in .nil pass0 (pa_cons (pv 3) pa_nil)))
  (pss_one (ps_ret (pe_ifExp (PW.pt (pw_or (pt_cmpR op_isN1 (pv 4) pe_non (nomark _)) (pw_or1 (pt_cmpR (op_ltU (K := K) hu40) (pv 4) pe_int (nomark _))))) pe_non (pe_tup (pa_cons (pv 1) (pa_cons (pv 4) pa_nil)))))))))), ?_⟩
    rw [show L2.start N__pair_in [V.str z] = [some (V.str z), none, none, none, none] from rfl]
    (try dsimp only [cxOf, Cx.nox, Cx.wish])
    walk_at "h"
    refine ⟨z, _, rfl, rfl, by decide, sz_le (by omega), fun p np => ?_⟩
    have s1 := same_new (o := .tup [V.str (Txt.partition z "^").1, V.str (Txt.partition z "^").2.1, V.str (Txt.partition z "^").2.2]) np
    have hp : (upd H p (.tup [V.str (Txt.partition z "^").1, V.str (Txt.partition z "^").2.1, V.str (Txt.partition z "^").2.2])) p = some (.tup [V.str (Txt.partition z "^").1, V.str (Txt.partition z "^").2.1, V.str (Txt.partition z "^").2.2]) := upd_same
    generalize upd H p (.tup [V.str (Txt.partition z "^").1, V.str (Txt.partition z "^").2.1, V.str (Txt.partition z "^").2.2]) = H1 at s1 hp
    walk_at "h"
    refine ⟨p, _, rfl, sqt hp, rfl, ?_⟩
    rw [partition_cut1 z "^" 94 rfl]
    cases ec : cut1 94 (cds z) with
    | none =>
      dsimp only
      rw [pairS_none ec] at q qn
      walk_at "h"
      refine ⟨z, rfl, lz, fun H2 s2 => ?_⟩
      walk_at "h"
      cases en : isNmL (cds z) with
      | false =>
        walk_at "h"
        exact qn (by rw [en]; rfl) H2 (s1.trans s2)
      | true =>
        walk_at "h"
        refine ⟨false, ⟨by decide, rfl⟩, ?_⟩
        walk_at "h"
        refine ⟨sz_le (by simp only [List.length_cons, List.length_nil]; omega), fun u nu => ?_⟩
        exact q (mkS (cds z), 1) (by rw [en]; rfl) u _ ((s1.trans s2).trans (same_new nu)) (sqt upd_same)
    | some ab =>
      obtain ⟨a, b⟩ := ab
      dsimp only
      rw [pairS_some ec] at q qn
      have ez := (cut1_some ec).1
      have la : a.length + b.length < 100000 := by
        rw [len_cds, ez, List.length_append, List.length_cons] at lz
        omega
      walk_at "h"
      refine ⟨mkS a, rfl, by rw [len_cds, cds_mk]; omega, fun H2 s2 => ?_⟩
      rw [cds_mk]
      walk_at "h"
      cases en : isNmL a with
      | false =>
        walk_at "h"
        exact qn (by show (if isNmL a = true then _ else _) = _; rw [en]; rfl) H2 (s1.trans s2)
      | true =>
        walk_at "h"
        refine ⟨true, ⟨by decide, rfl⟩, ?_⟩
        walk_at "h"
        refine ⟨mkS b, rfl, by rw [len_cds, cds_mk]; omega, fun n hn H3 s3 => ?_, fun hn H3 s3 => ?_⟩
        · rw [cds_mk] at hn
          walk_at "h"
          refine rd_isNi ?_
          walk_at "h"
          have hq : (match numO b with | some n => if n < 2 then none else some (mkS a, (n : Int)) | none => none) = if n < 2 then none else some (mkS a, (n : Int)) := by rw [hn]
          by_cases c : n < 2
          · rw [decide_eq_true (show (n : Int) < 2 by omega)]
            walk_at "h"
            exact qn (by show (if isNmL a = true then _ else _) = _; rw [en, if_pos rfl]; exact hq.trans (if_pos c)) H3 ((s1.trans s2).trans s3)
          · rw [decide_eq_false (show ¬ (n : Int) < 2 by omega)]
            walk_at "h"
            refine ⟨sz_le (by simp only [List.length_cons, List.length_nil]; omega), fun u nu => ?_⟩
            exact q (mkS a, (n : Int)) (by show (if isNmL a = true then _ else _) = _; rw [en, if_pos rfl]; exact hq.trans (if_neg c)) u _ (((s1.trans s2).trans s3).trans (same_new nu)) (sqt upd_same)
        · rw [cds_mk] at hn
          walk_at "h"
          refine rd_isNt ?_
          walk_at "h"
          exact qn (by show (if isNmL a = true then _ else _) = _; rw [en, if_pos rfl]; show (match numO b with | some n => _ | none => none) = _; rw [hn]) H3 ((s1.trans s2).trans s3)
end
end K94
namespace K94
open PySem PySem.Spec PyProof.Rows L2 HH TL
local macro_rules | `(tactic| walk_at "h1") => `(tactic| first
  | with_reducible refine rd_seq ?_ | with_reducible refine rd_asg ?_ | with_reducible refine rd_op ?_
  | ((with_reducible refine' rd_var ?hv ?_); (case hv => exact rfl)) | with_reducible refine rd_c ?_
  | ((with_reducible refine rd_name ?_); dsimp only [List.set_cons_zero, List.set_cons_succ])
  | with_reducible refine rd_I0 ?_ | ((with_reducible refine rd_pow ?_ ?_ ?_ ?_); (· decide); (· decide); (· decide)) | ((with_reducible refine rd_mod ?_ ?_); (· decide)) | ((with_reducible refine rd_mulR ?_ ?_ ?_); (· decide); (· decide)) | ((with_reducible refine rd_divW (n := 64) ?_ ?_ ?_ ?_ ?_); (· decide); (· decide); (· decide); (· decide)) | with_reducible refine rd_addI ?_ | with_reducible refine rd_eqI ?_ | with_reducible refine rd_eqS ?_ | with_reducible refine rd_eqB ?_ | with_reducible refine rd_ltI ?_
  | with_reducible refine rd_callS ?_ | with_reducible refine rd_xf ?_ | with_reducible refine rd_cons ?_ | with_reducible refine rd_nil ?_ | with_reducible refine rd_cb ?_ | with_reducible refine rd_call ?_
  | with_reducible refine rd_ifs ?_ | with_reducible refine rd_test ?_ | with_reducible refine rd_tB ?_ | with_reducible refine rd_blQ ?_ | with_reducible refine iteT ?_ | with_reducible refine iteF ?_ | with_reducible refine iteNotF ?_ | with_reducible refine iteNotT ?_
  | with_reducible refine rd_and ?_ | with_reducible refine rd_or ?_ | with_reducible refine rd_not ?_ | with_reducible refine rd_andV ?_ | with_reducible refine rd_orV ?_ | with_reducible refine rd_notV ?_ | with_reducible refine rd_if ?_
  | with_reducible refine rd_un ?_ | with_reducible refine rd_U ?_ | with_reducible refine rd_sub ?_ | with_reducible refine rd_tup ?_ | with_reducible refine rd_lst ?_
  | with_reducible refine rd_intI ?_ | with_reducible refine rd_absI ?_ | with_reducible refine rd_drop ?_ | with_reducible refine rd_ret ?_ | with_reducible refine rd_retN ?_ | with_reducible refine rd_next ?_ | with_reducible refine rd_bm ?_
  | with_reducible refine rd_tDGet2 ?_ | with_reducible refine rd_tDGet ?_ | with_reducible refine rd_sDPut ?_ | with_reducible refine rd_dnewK ?_ | with_reducible refine rd_nnew ?_ | with_reducible refine rd_nget ?_ | with_reducible refine rd_nget2 ?_ | with_reducible refine rd_npop ?_ | with_reducible refine rd_nput ?_ | with_reducible refine rd_dcn ?_ | with_reducible refine rd_gtup ?_ | with_reducible refine rd_gcons ?_ | with_reducible refine rd_gnil ?_ | with_reducible refine rd_lc ?_ | with_reducible refine rd_yes ?_ | with_reducible refine rd_for ?_ | with_reducible refine rd_iL ?_ | with_reducible refine rd_neS ?_ | with_reducible refine rd_neN ?_ | with_reducible refine rd_neB ?_ | with_reducible refine rd_chain ?_ | with_reducible refine rd_bm0 ?_ | with_reducible refine rd_dc ?_ | with_reducible refine rd_iN ?_ | with_reducible refine rd_iZ ?_ | with_reducible refine rd_ngetF ?_ | with_reducible refine rd_iT ?_ | with_reducible refine rd_iR1 ?_ | with_reducible refine rd_iS ?_ | with_reducible refine rd_leafS ?_ | with_reducible refine rd_sl ?_ | with_reducible refine rd_noPart ?_ | with_reducible refine rd_part ?_ | with_reducible refine rd_leafI ?_)
local macro_rules | `(tactic| walk_at "h") => `(tactic| repeat walk_at "h1")

local macro_rules | `(tactic| walk_at "h1") => `(tactic| first
  | with_reducible refine rd_m1 ?_ | with_reducible refine rd_isS ?_ | with_reducible refine rd_tupZ2 ?_)

section
variable {P : Program} {w : World} {K : PySem.W.Frag} {mg : Str → Option Value} {base : Heap}
theorem ok_asc {f : Addr} {fd : FuncData} (F : Fun K "ascending" "ascending" s_ascending f fd) (T : Bi mg) : FnOk P w K mg base CX0 1 f fd ["things"] spAsc := by
  refine F.ok sc_ascending (fun vs H Q E h => ?_) (fun cdv A outer s H vs Q E hr h => ?_)
  · obtain ⟨l, ys, rfl, _⟩ := h
    rfl
  · obtain ⟨l, ys, rfl, hl, ly, q⟩ := h
    have hu := hu_of hr
    have hu20 := hu20_of hr
    have hu40 := hu40_of hr
    refine ⟨_, (pss_one (ps_ret (pe_callB (cr_allK (K := K) rfl) (by rfl) T.all_ (by decide +kernel) (pa_cons (pe_lc (own := [("k", 1)]) rfl sc_ascending.nd (pi_range1 (by rfl) T.range (pa_cons (pe_op op_sub (pe_callB (call_lenU (P := P) (w := w) (K := K)) (by rfl) T.len_ PySem.boot_len (pa_cons (pv 0) pa_nil)) pe_int) pa_nil)) (blkOk_by (N := N_ascending) (sc := defScope s_ascending) (by decide +kernel)) (fun _ _ _ _ _ => (pg_name (i := 1) sc_ascending.nd rfl (.inl rfl))) (fun _ _ _ _ _ => pts_nil) (fun _ _ _ _ _ => (pe_cmpR (op_ltU (K := K) hu40) (pe_ix (ix_listK (K := K)) (pv 0) (pv 1) (fun _ _ => rfl)) (pe_ix (ix_listK (K := K)) (pv 0) (pe_op (op_addU (K := K)) (pv 1) pe_int) (fun _ _ => rfl)) (nomark _)))) pa_nil)))), ?_⟩
    rw [show L2.start N_ascending [V.ref l] = [some (V.ref l), none] from rfl]
    (try dsimp only [cxOf, Cx.nox, Cx.wish])
    walk_at "h"
    refine rd_lenL (sql hl) ?_
    walk_at "h"
    rw [List.length_map]
    refine rd_leafR (by omega) (by omega) ?_
    intro D nD
    have en : ((ys.length : Int) - 1).toNat = ys.length - 1 := by omega
    rw [en]
    refine lc_rangeW [some (V.ref l), none] rfl (fun i H' => Same H H' ∧ ∃ bs : List Bool, H' D = some (.lst (bs.map V.bl)) ∧ bs.length = i ∧ (bs.all id = true ↔ ∀ j (hj : j + 1 < ys.length), j < i → cds (ys[j]'(by omega)) < cds ys[j + 1])) ⟨same_new nD, [], upd_same, rfl, by simp⟩ ?_ ?_
    · rintro i H1 hi ⟨s1, bs, hD, lb, hb⟩
      have h1 : i < ys.length := by omega
      have h2 : i + 1 < ys.length := by omega
      walk_at "h"
      refine ⟨rfl, ?_⟩
      walk_at "h"
      rw [Int.zero_add]
      refine rd_ixl (sql (s1 _ _ hl)) (atI_nat (j := i) (by rw [List.getElem?_map, List.getElem?_eq_getElem h1]; rfl)) ?_
      walk_at "h"
      rw [show (i : Int) + 1 = ((i + 1 : Nat) : Int) by omega]
      refine rd_ixl (sql (s1 _ _ hl)) (atI_nat (j := i + 1) (by rw [List.getElem?_map, List.getElem?_eq_getElem h2]; rfl)) ?_
      refine .inr ⟨.text ys[i], .text ys[i + 1], rfl, rfl, rfl, by simp [NestedKey.depth], ?_⟩
      rw [lt_cds]
      refine ⟨bs.map V.bl, hD, sz_lt (by rw [List.length_map]; omega), same_mut s1 nD, bs ++ [decide (cds ys[i] < cds ys[i + 1])], by rw [upd_same, List.map_append]; rfl, by rw [List.length_append, lb]; rfl, ?_⟩
      rw [List.all_append, Bool.and_eq_true, hb]
      simp only [List.all_cons, List.all_nil, id, Bool.and_true, decide_eq_true_eq]
      constructor
      · rintro ⟨a, b⟩ j hj hji
        by_cases e : j = i
        · subst e; exact b
        · exact a j hj (by omega)
      · intro a
        exact ⟨fun j hj hji => a j hj (by omega), a i h2 (by omega)⟩
    rintro H1 ⟨s1, bs, hD, lb, hb⟩
    walk_at "h"
    refine rd_all hD ?_
    have : bs.all id = decide ((ys.map cds).Pairwise (· < ·)) := by
      rw [Bool.eq_iff_iff, hb, decide_eq_true_eq]
      constructor
      · intro h
        refine pw_adj fun j hj => ?_
        rw [List.length_map] at hj
        rw [List.getElem_map, List.getElem_map]
        exact h j hj (by omega)
      · intro h j hj _
        have := List.pairwise_iff_getElem.mp h j (j + 1) (by rw [List.length_map]; omega) (by rw [List.length_map]; omega) (by omega)
        rwa [List.getElem_map, List.getElem_map] at this
    rw [this]
    exact q H1 s1
end
end K94
namespace K94
open PySem PySem.Spec PyProof.Rows L2 HH TL
local macro_rules | `(tactic| walk_at "h1") => `(tactic| first
  | with_reducible refine rd_seq ?_ | with_reducible refine rd_asg ?_ | with_reducible refine rd_op ?_
  | ((with_reducible refine' rd_var ?hv ?_); (case hv => exact rfl)) | with_reducible refine rd_c ?_
  | ((with_reducible refine rd_name ?_); dsimp only [List.set_cons_zero, List.set_cons_succ])
  | with_reducible refine rd_I0 ?_ | ((with_reducible refine rd_pow ?_ ?_ ?_ ?_); (· decide); (· decide); (· decide)) | ((with_reducible refine rd_mod ?_ ?_); (· decide)) | ((with_reducible refine rd_mulR ?_ ?_ ?_); (· decide); (· decide)) | ((with_reducible refine rd_divW (n := 64) ?_ ?_ ?_ ?_ ?_); (· decide); (· decide); (· decide); (· decide)) | with_reducible refine rd_addI ?_ | with_reducible refine rd_eqI ?_ | with_reducible refine rd_eqS ?_ | with_reducible refine rd_eqB ?_ | with_reducible refine rd_ltI ?_
  | with_reducible refine rd_callS ?_ | with_reducible refine rd_xf ?_ | with_reducible refine rd_cons ?_ | with_reducible refine rd_nil ?_ | with_reducible refine rd_cb ?_ | with_reducible refine rd_call ?_
  | with_reducible refine rd_ifs ?_ | with_reducible refine rd_test ?_ | with_reducible refine rd_tB ?_ | with_reducible refine rd_blQ ?_ | with_reducible refine iteT ?_ | with_reducible refine iteF ?_ | with_reducible refine iteNotF ?_ | with_reducible refine iteNotT ?_
  | with_reducible refine rd_and ?_ | with_reducible refine rd_or ?_ | with_reducible refine rd_not ?_ | with_reducible refine rd_andV ?_ | with_reducible refine rd_orV ?_ | with_reducible refine rd_notV ?_ | with_reducible refine rd_if ?_
  | with_reducible refine rd_un ?_ | with_reducible refine rd_U ?_ | with_reducible refine rd_sub ?_ | with_reducible refine rd_tup ?_ | with_reducible refine rd_lst ?_
  | with_reducible refine rd_intI ?_ | with_reducible refine rd_absI ?_ | with_reducible refine rd_drop ?_ | with_reducible refine rd_ret ?_ | with_reducible refine rd_retN ?_ | with_reducible refine rd_next ?_ | with_reducible refine rd_bm ?_
  | with_reducible refine rd_tDGet2 ?_ | with_reducible refine rd_tDGet ?_ | with_reducible refine rd_sDPut ?_ | with_reducible refine rd_dnewK ?_ | with_reducible refine rd_nnew ?_ | with_reducible refine rd_nget ?_ | with_reducible refine rd_nget2 ?_ | with_reducible refine rd_npop ?_ | with_reducible refine rd_nput ?_ | with_reducible refine rd_dcn ?_ | with_reducible refine rd_gtup ?_ | with_reducible refine rd_gcons ?_ | with_reducible refine rd_gnil ?_ | with_reducible refine rd_lc ?_ | with_reducible refine rd_yes ?_ | with_reducible refine rd_for ?_ | with_reducible refine rd_iL ?_ | with_reducible refine rd_neS ?_ | with_reducible refine rd_neN ?_ | with_reducible refine rd_neB ?_ | with_reducible refine rd_chain ?_ | with_reducible refine rd_bm0 ?_ | with_reducible refine rd_dc ?_ | with_reducible refine rd_iN ?_ | with_reducible refine rd_iZ ?_ | with_reducible refine rd_ngetF ?_ | with_reducible refine rd_iT ?_ | with_reducible refine rd_iR1 ?_ | with_reducible refine rd_iS ?_ | with_reducible refine rd_leafS ?_ | with_reducible refine rd_sl ?_ | with_reducible refine rd_noPart ?_ | with_reducible refine rd_part ?_ | with_reducible refine rd_leafI ?_)
local macro_rules | `(tactic| walk_at "h") => `(tactic| repeat walk_at "h1")

local macro_rules | `(tactic| walk_at "h1") => `(tactic| first
  | with_reducible refine rd_m1 ?_ | with_reducible refine rd_isS ?_ | with_reducible refine rd_tupZ2 ?_)

section
variable {P : Program} {w : World} {K : PySem.W.Frag} {mg : Str → Option Value} {base : Heap}
theorem ok_prodof {f : Addr} {fd : FuncData} (F : Fun K "_product_of" "_product_of" s__product_of f fd) (T : Bi mg) (G__pair_in : Callee P w K mg base 2 "_pair_in" ["text"] (spPairIn K)) (G_ascending : Callee P w K mg base 1 "ascending" ["things"] spAsc) : FnOk P w K mg base CX0 3 f fd ["factors"] (spProdOf K) := by
  refine F.ok (k := 2) sc__product_of (fun vs H Q E h => ?_) (fun cdv A outer s H vs Q E hr h => ?_)
  · obtain ⟨l, ys, rfl, _⟩ := h
    rfl
  · obtain ⟨l, ys, rfl, hl, ly, ley, q, qn⟩ := h
    have hu := hu_of hr
    have hu20 := hu20_of hr
    have hu40 := hu40_of hr
    have hu65 := hu65_of hr
    obtain ⟨f__pair_in, fd__pair_in, F__pair_in, m__pair_in, k__pair_in, b__pair_in⟩ := G__pair_in; obtain ⟨f_ascending, fd_ascending, F_ascending, m_ascending, k_ascending, b_ascending⟩ := G_ascending
    refine ⟨_, (pss_cons (ps_setLc (i := 2) (own := [("factor", 1)]) rfl sc__product_of.nd rfl rfl (sw_true rfl rfl rfl (by decide +kernel)) (pi_list (pv 0)) (blkOk_by (N := N__product_of) (sc := defScope s__product_of) (by decide +kernel)) (fun _ _ _ _ _ => (pg_name (i := 1) sc__product_of.nd rfl (.inl rfl))) (fun _ _ _ _ _ => pts_nil) (fun _ _ _ _ _ => (pe_call F__pair_in (hr.mono (by decide)) (by rfl) m__pair_in k__pair_in b__pair_in .nil pass0 (pa_cons (pv 1) pa_nil))))
  (pss_cons (ps_if (PW.pt (pw_or (pt_cmpR (op_inDK (K := K) hu65) pe_non (pv 2) (by rfl)) (pw_or1 (pt_not (pt_val (pe_call F_ascending (hr.mono (by decide)) (by rfl) m_ascending k_ascending b_ascending .nil pass0 (pa_cons (pe_lc (own := [("name", 3), ("_", 4)]) rfl sc__product_of.nd (pi_list (pv 2)) (blkOk_by (N := N__product_of) (sc := defScope s__product_of) (by decide +kernel)) (fun _ _ _ _ _ => (pg_tupK (K := K) 2 rfl (pgs_cons (pg_name (i := 3) sc__product_of.nd rfl (.inl rfl)) (pgs_cons (pg_name (i := 4) sc__product_of.nd rfl (.inl rfl)) pgs_nil)))) (fun _ _ _ _ _ => pts_nil) (fun _ _ _ _ _ => (pv 3))) pa_nil))))))) (pss_one (ps_ret pe_non)) pss_nil)
  (pss_one (ps_ret (pe_callTy (call_tupC (K := K)) (by rfl) T.tuple_ (by decide +kernel) (pa_cons (pv 2) pa_nil)))))), ?_⟩
    rw [show L2.start N__product_of [V.ref l] = [some (V.ref l), none, none, none, none] from rfl]
    (try dsimp only [cxOf, Cx.nox, Cx.wish])
    walk_at "h"
    refine ⟨_, rfl, ⟨_, sql hl⟩, ?_⟩
    intro D nD
    refine lc_listW (xs := ys.map V.str) [some (V.ref l), none, none, none, none] rfl (fun i H' => Same H H' ∧ ∃ vs, H' D = some (.lst vs) ∧ IsOs K H' ((ys.take i).map fun y => pairS (cds y)) vs) ⟨same_new nD, [], upd_same, rfl⟩ (fun i H' _ h => sql (h.1 _ _ hl)) ?_ ?_
    · rintro i x H1 hx ⟨s1, vs, hD, ho⟩
      have hi : i < ys.length := by have := (List.getElem?_eq_some_iff.mp hx).1; rwa [List.length_map] at this
      rw [List.getElem?_map, List.getElem?_eq_getElem hi] at hx
      obtain rfl := Option.some.inj hx
      have lv := ho.len
      rw [List.length_map, List.length_take] at lv
      have etk := take_succ hi
      have lyi := ley _ (List.getElem_mem hi)
      generalize ys[i] = y at etk lyi
      walk_at "h"
      refine ⟨rfl, ?_⟩
      walk_at "h"
      refine ⟨y, rfl, lyi, fun p hp u H2 s2 su => ?_, fun hp H2 s2 => ?_⟩
      · have hD2 := s2 _ _ hD
        have tp : Tup K H2 (upd H2 D (.lst (vs ++ [V.ref u]))) := tup_upd hD2 (fun _ z => nomatch z) (fun _ _ z => nomatch z)
        refine ⟨vs, hD2, sz_lt (by omega), same_mut (s1.trans s2) nD, _, upd_same, ?_⟩
        have h1 : IsOs K (upd H2 D (.lst (vs ++ [V.ref u]))) [pairS (cds y)] [V.ref u] := ⟨_, [], rfl, by rw [hp]; exact ⟨u, rfl, tp _ _ su⟩, rfl⟩
        rw [etk, List.map_append]
        exact IsOs.app h1 (ho.keep ((same_tup s2).trans tp))
      · have hD2 := s2 _ _ hD
        have tp : Tup K H2 (upd H2 D (.lst (vs ++ [V.non]))) := tup_upd hD2 (fun _ z => nomatch z) (fun _ _ z => nomatch z)
        refine ⟨vs, hD2, sz_lt (by omega), same_mut (s1.trans s2) nD, _, upd_same, ?_⟩
        have h1 : IsOs K (upd H2 D (.lst (vs ++ [V.non]))) [pairS (cds y)] [V.non] := ⟨_, [], rfl, by rw [hp]; rfl, rfl⟩
        rw [etk, List.map_append]
        exact IsOs.app h1 (ho.keep ((same_tup s2).trans tp))
    rintro H1 ⟨s1, vs, hD, ho⟩
    rw [List.length_map, List.take_length] at ho
    have lv := ho.len
    rw [List.length_map] at lv
    walk_at "h"
    refine rd_noneIn hD ho (fun q hq => ?_) ?_
    · obtain ⟨y, _, e⟩ := List.mem_map.mp hq
      exact nm_low (pairS_inv e).1
    by_cases c : none ∈ ys.map fun y => pairS (cds y)
    · rw [decide_eq_true c]
      walk_at "h"
      refine qn ?_ H1 s1
      obtain ⟨y, hy, e⟩ := List.mem_map.mp c
      unfold pairsS
      rw [mapM_none (List.mem_map_of_mem hy) e]
    rw [decide_eq_false c]
    obtain ⟨qs, eq⟩ := all_some c
    have em : (ys.map cds).mapM pairS = some qs := mapM_some.mpr (by rw [List.map_map]; exact eq)
    rw [eq] at ho
    have lq : qs.length = ys.length := by
      have := congrArg List.length eq
      rw [List.length_map, List.length_map] at this
      exact this.symm
    have eps : pairsS (ys.map cds) = if decide ((qs.map fun q => cds q.1).Pairwise (· < ·)) = true then some qs else none := by unfold pairsS; rw [em]
    walk_at "h"
    refine ⟨_, rfl, ⟨_, sql hD⟩, ?_⟩
    intro D2 nD2
    refine lc_listW (xs := vs) [some (V.ref l), none, some (V.ref D), none, none] rfl (fun i H' => Same H1 H' ∧ H' D2 = some (.lst (((qs.take i).map fun q => q.1).map V.str))) ⟨same_new nD2, upd_same⟩ (fun i H' _ h => sql (h.1 _ _ hD)) ?_ ?_
    · rintro i x H2 hx ⟨s2, hD2⟩
      have hi : i < qs.length := by have := (List.getElem?_eq_some_iff.mp hx).1; omega
      obtain ⟨u, rfl, su⟩ := IsOs.get ho (o := some qs[i]) (by rw [List.getElem?_map, List.getElem?_eq_getElem hi]; rfl) hx
      have etk := take_succ hi
      walk_at "h"
      refine ⟨u, _, rfl, same_tup s2 _ _ su, rfl, ?_⟩
      walk_at "h"
      refine ⟨rfl, ?_⟩
      walk_at "h"
      refine ⟨_, hD2, sz_lt (by rw [List.length_map, List.length_map, List.length_take]; omega), same_mut s2 nD2, ?_⟩
      rw [upd_same, etk, List.map_append, List.map_append]
      rfl
    rintro H2 ⟨s2, hD2⟩
    rw [lv, ← lq, List.take_length] at hD2
    walk_at "h"
    refine ⟨D2, qs.map fun q => q.1, rfl, hD2, by rw [List.length_map]; omega, fun H3 s3 => ?_⟩
    rw [List.map_map]
    rw [show (cds ∘ fun q : Str × Int => q.1) = fun q => cds q.1 from rfl]
    walk_at "h"
    by_cases c2 : (qs.map fun q => cds q.1).Pairwise (· < ·)
    · rw [decide_eq_true c2]
      rw [if_pos (decide_eq_true c2)] at eps
      walk_at "h"
      have s13 := s2.trans s3
      refine rd_tupL (sql (s13 _ _ hD)) fun t nt => ?_
      exact q qs eps t _ (s1.trans (s13.trans (same_new nt))) ⟨t, vs, rfl, sqt upd_same, IsKs.keep ((same_tup s13).trans (tup_new nt)) _ _ (isOs_ks ho)⟩
    · rw [decide_eq_false c2]
      rw [if_neg (by rw [decide_eq_false c2]; decide)] at eps
      walk_at "h"
      exact qn eps H3 ((s1.trans s2).trans s3)
end
end K94
namespace K94
open PySem PySem.Spec PyProof.Rows L2 HH TL
local macro_rules | `(tactic| walk_at "h1") => `(tactic| first
  | with_reducible refine rd_seq ?_ | with_reducible refine rd_asg ?_ | with_reducible refine rd_op ?_
  | ((with_reducible refine' rd_var ?hv ?_); (case hv => exact rfl)) | with_reducible refine rd_c ?_
  | ((with_reducible refine rd_name ?_); dsimp only [List.set_cons_zero, List.set_cons_succ])
  | with_reducible refine rd_I0 ?_ | ((with_reducible refine rd_pow ?_ ?_ ?_ ?_); (· decide); (· decide); (· decide)) | ((with_reducible refine rd_mod ?_ ?_); (· decide)) | ((with_reducible refine rd_mulR ?_ ?_ ?_); (· decide); (· decide)) | ((with_reducible refine rd_divW (n := 64) ?_ ?_ ?_ ?_ ?_); (· decide); (· decide); (· decide); (· decide)) | with_reducible refine rd_addI ?_ | with_reducible refine rd_eqI ?_ | with_reducible refine rd_eqS ?_ | with_reducible refine rd_eqB ?_ | with_reducible refine rd_ltI ?_
  | with_reducible refine rd_callS ?_ | with_reducible refine rd_xf ?_ | with_reducible refine rd_cons ?_ | with_reducible refine rd_nil ?_ | with_reducible refine rd_cb ?_ | with_reducible refine rd_call ?_
  | with_reducible refine rd_ifs ?_ | with_reducible refine rd_test ?_ | with_reducible refine rd_tB ?_ | with_reducible refine rd_blQ ?_ | with_reducible refine iteT ?_ | with_reducible refine iteF ?_ | with_reducible refine iteNotF ?_ | with_reducible refine iteNotT ?_
  | with_reducible refine rd_and ?_ | with_reducible refine rd_or ?_ | with_reducible refine rd_not ?_ | with_reducible refine rd_andV ?_ | with_reducible refine rd_orV ?_ | with_reducible refine rd_notV ?_ | with_reducible refine rd_if ?_
  | with_reducible refine rd_un ?_ | with_reducible refine rd_U ?_ | with_reducible refine rd_sub ?_ | with_reducible refine rd_tup ?_ | with_reducible refine rd_lst ?_
  | with_reducible refine rd_intI ?_ | with_reducible refine rd_absI ?_ | with_reducible refine rd_drop ?_ | with_reducible refine rd_ret ?_ | with_reducible refine rd_retN ?_ | with_reducible refine rd_next ?_ | with_reducible refine rd_bm ?_
  | with_reducible refine rd_tDGet2 ?_ | with_reducible refine rd_tDGet ?_ | with_reducible refine rd_sDPut ?_ | with_reducible refine rd_dnewK ?_ | with_reducible refine rd_nnew ?_ | with_reducible refine rd_nget ?_ | with_reducible refine rd_nget2 ?_ | with_reducible refine rd_npop ?_ | with_reducible refine rd_nput ?_ | with_reducible refine rd_dcn ?_ | with_reducible refine rd_gtup ?_ | with_reducible refine rd_gcons ?_ | with_reducible refine rd_gnil ?_ | with_reducible refine rd_lc ?_ | with_reducible refine rd_yes ?_ | with_reducible refine rd_for ?_ | with_reducible refine rd_iL ?_ | with_reducible refine rd_neS ?_ | with_reducible refine rd_neN ?_ | with_reducible refine rd_neB ?_ | with_reducible refine rd_chain ?_ | with_reducible refine rd_bm0 ?_ | with_reducible refine rd_dc ?_ | with_reducible refine rd_iN ?_ | with_reducible refine rd_iZ ?_ | with_reducible refine rd_ngetF ?_ | with_reducible refine rd_iT ?_ | with_reducible refine rd_iR1 ?_ | with_reducible refine rd_iS ?_ | with_reducible refine rd_leafS ?_ | with_reducible refine rd_sl ?_ | with_reducible refine rd_noPart ?_ | with_reducible refine rd_part ?_ | with_reducible refine rd_leafI ?_)
local macro_rules | `(tactic| walk_at "h") => `(tactic| repeat walk_at "h1")

local macro_rules | `(tactic| walk_at "h1") => `(tactic| first
  | with_reducible refine rd_m1 ?_ | with_reducible refine rd_isS ?_ | with_reducible refine rd_tupZ2 ?_)

section
variable {P : Program} {w : World} {K : PySem.W.Frag} {mg : Str → Option Value} {base : Heap}
theorem ok_prodin {f : Addr} {fd : FuncData} (F : Fun K "product_in" "product_in" s_product_in f fd) (T : Bi mg) (G__product_of : Callee P w K mg base 3 "_product_of" ["factors"] (spProdOf K)) : FnOk P w K mg base CX0 4 f fd ["text"] (spProdIn K) := by
  refine F.ok (k := 3) sc_product_in (fun vs H Q E h => ?_) (fun cdv A outer s H vs Q E hr h => ?_)
  · obtain ⟨z, rfl, _⟩ := h
    rfl
  · obtain ⟨z, rfl, lz, q, qn⟩ := h
    have hu := hu_of hr
    have hu20 := hu20_of hr
    have hu40 := hu40_of hr
    obtain ⟨f__product_of, fd__product_of, F__product_of, m__product_of, k__product_of, b__product_of⟩ := G__product_of
    refine ⟨_, (pss_one (ps_ret (pe_ifExp (pt_cmpR (op_eqU (K := K) hu40) (pv 0) pe_str (nomark _)) (pe_tup pa_nil) (pe_call F__product_of (hr.mono (by decide)) (by rfl) m__product_of k__product_of b__product_of .nil pass0 (pa_cons (pe_split (pv 0) pe_str) pa_nil))))), ?_⟩
    rw [show L2.start N_product_in [V.str z] = [some (V.str z)] from rfl]
    (try dsimp only [cxOf, Cx.nox, Cx.wish])
    walk_at "h"
    have e1 : z = "1" ↔ cds z = [49] := ⟨fun h => by rw [h]; rfl, fun h => by rw [← mk_cds z, h]; rfl⟩
    by_cases c : cds z = [49]
    · rw [decide_eq_true (e1.mpr c)]
      walk_at "h"
      refine ⟨sz_le (by simp only [List.length_nil]; omega), fun t nt => ?_⟩
      exact q [] (by unfold prodS; rw [if_pos c]) t _ (same_new nt) ⟨t, [], rfl, sqt upd_same, rfl⟩
    · rw [decide_eq_false (fun h => c (e1.mp h))]
      walk_at "h"
      have es := split_sp1 z "*" 42 rfl (by decide)
      have ln : (Txt.split z "*").length ≤ z.length + 1 := by
        have := congrArg List.length es
        rw [List.length_map] at this
        rw [this, len_cds]
        exact sp1_len 42 _
      refine ⟨z, _, rfl, rfl, by decide, sz_le (by omega), fun p np => ?_⟩
      have s1 := same_new (o := .lst ((Txt.split z "*").map V.str)) np
      walk_at "h"
      have ep : prodS (cds z) = pairsS ((Txt.split z "*").map cds) := by unfold prodS; rw [if_neg c, es]
      refine ⟨p, Txt.split z "*", rfl, upd_same, by omega, fun y hy => ?_, fun ps e t H' s t' => q ps (ep.trans e) t H' (s1.trans s) t', fun e H' s => qn (ep.trans e) H' (s1.trans s)⟩
      have : cds y ∈ sp1 42 (cds z) := by rw [← es]; exact List.mem_map_of_mem hy
      have := sp1_mem_len 42 _ _ this
      rw [len_cds] at lz ⊢
      omega
end
end K94
namespace K94
open PySem PySem.Spec PyProof.Rows L2 HH TL
local macro_rules | `(tactic| walk_at "h1") => `(tactic| first
  | with_reducible refine rd_seq ?_ | with_reducible refine rd_asg ?_ | with_reducible refine rd_op ?_
  | ((with_reducible refine' rd_var ?hv ?_); (case hv => exact rfl)) | with_reducible refine rd_c ?_
  | ((with_reducible refine rd_name ?_); dsimp only [List.set_cons_zero, List.set_cons_succ])
  | with_reducible refine rd_I0 ?_ | ((with_reducible refine rd_pow ?_ ?_ ?_ ?_); (· decide); (· decide); (· decide)) | ((with_reducible refine rd_mod ?_ ?_); (· decide)) | ((with_reducible refine rd_mulR ?_ ?_ ?_); (· decide); (· decide)) | ((with_reducible refine rd_divW (n := 64) ?_ ?_ ?_ ?_ ?_); (· decide); (· decide); (· decide); (· decide)) | with_reducible refine rd_addI ?_ | with_reducible refine rd_eqI ?_ | with_reducible refine rd_eqS ?_ | with_reducible refine rd_eqB ?_ | with_reducible refine rd_ltI ?_
  | with_reducible refine rd_callS ?_ | with_reducible refine rd_xf ?_ | with_reducible refine rd_cons ?_ | with_reducible refine rd_nil ?_ | with_reducible refine rd_cb ?_ | with_reducible refine rd_call ?_
  | with_reducible refine rd_ifs ?_ | with_reducible refine rd_test ?_ | with_reducible refine rd_tB ?_ | with_reducible refine rd_blQ ?_ | with_reducible refine iteT ?_ | with_reducible refine iteF ?_ | with_reducible refine iteNotF ?_ | with_reducible refine iteNotT ?_
  | with_reducible refine rd_and ?_ | with_reducible refine rd_or ?_ | with_reducible refine rd_not ?_ | with_reducible refine rd_andV ?_ | with_reducible refine rd_orV ?_ | with_reducible refine rd_notV ?_ | with_reducible refine rd_if ?_
  | with_reducible refine rd_un ?_ | with_reducible refine rd_U ?_ | with_reducible refine rd_sub ?_ | with_reducible refine rd_tup ?_ | with_reducible refine rd_lst ?_
  | with_reducible refine rd_intI ?_ | with_reducible refine rd_absI ?_ | with_reducible refine rd_drop ?_ | with_reducible refine rd_ret ?_ | with_reducible refine rd_retN ?_ | with_reducible refine rd_next ?_ | with_reducible refine rd_bm ?_
  | with_reducible refine rd_tDGet2 ?_ | with_reducible refine rd_tDGet ?_ | with_reducible refine rd_sDPut ?_ | with_reducible refine rd_dnewK ?_ | with_reducible refine rd_nnew ?_ | with_reducible refine rd_nget ?_ | with_reducible refine rd_nget2 ?_ | with_reducible refine rd_npop ?_ | with_reducible refine rd_nput ?_ | with_reducible refine rd_dcn ?_ | with_reducible refine rd_gtup ?_ | with_reducible refine rd_gcons ?_ | with_reducible refine rd_gnil ?_ | with_reducible refine rd_lc ?_ | with_reducible refine rd_yes ?_ | with_reducible refine rd_for ?_ | with_reducible refine rd_iL ?_ | with_reducible refine rd_neS ?_ | with_reducible refine rd_neN ?_ | with_reducible refine rd_neB ?_ | with_reducible refine rd_chain ?_ | with_reducible refine rd_bm0 ?_ | with_reducible refine rd_dc ?_ | with_reducible refine rd_iN ?_ | with_reducible refine rd_iZ ?_ | with_reducible refine rd_ngetF ?_ | with_reducible refine rd_iT ?_ | with_reducible refine rd_iR1 ?_ | with_reducible refine rd_iS ?_ | with_reducible refine rd_leafS ?_ | with_reducible refine rd_sl ?_ | with_reducible refine rd_noPart ?_ | with_reducible refine rd_part ?_ | with_reducible refine rd_leafI ?_)
local macro_rules | `(tactic| walk_at "h") => `(tactic| repeat walk_at "h1")

local macro_rules | `(tactic| walk_at "h1") => `(tactic| first
  | with_reducible refine rd_m1 ?_ | with_reducible refine rd_isS ?_ | with_reducible refine rd_tupZ2 ?_)

section
variable {P : Program} {w : World} {K : PySem.W.Frag} {mg : Str → Option Value} {base : Heap}
theorem ok_ptext {f : Addr} {fd : FuncData} (F : Fun K "product_text" "product_text" s_product_text f fd) (T : Bi mg) : FnOk P w K mg base CX0 1 f fd ["product"] (spPText K) := by
  refine F.ok sc_product_text (fun vs H Q E h => ?_) (fun cdv A outer s H vs Q E hr h => ?_)
  · obtain ⟨t, ps, rfl, _⟩ := h
    rfl
  · obtain ⟨t, ps, rfl, kt, lp, cq, q⟩ := h
    have hu := hu_of hr
    have hu20 := hu20_of hr
    have hu40 := hu40_of hr
    obtain ⟨_, vs, et, st, kv, nv⟩ := prod_at kt
    obtain rfl := V.ref.inj et
    refine ⟨_, (pss_cons (ps_if (pt_not (pt_truth (pv 0) (by intro _; rfl))) (pss_one (ps_ret pe_str)) pss_nil)
  (pss_one (ps_ret (pe_joinK (K := K) pe_str (pe_lc (own := [("name", 1), ("power", 2)]) rfl sc_product_text.nd (pi_tup (pv 0)) (blkOk_by (N := N_product_text) (sc := defScope s_product_text) (by decide +kernel)) (fun _ _ _ _ _ => (pg_tupK (K := K) 2 rfl (pgs_cons (pg_name (i := 1) sc_product_text.nd rfl (.inl rfl)) (pgs_cons (pg_name (i := 2) sc_product_text.nd rfl (.inl rfl)) pgs_nil)))) (fun _ _ _ _ _ => pts_nil) (fun _ _ _ _ _ => (pe_ifExp (pt_cmpR (op_eqU (K := K) hu40) (pv 2) pe_int (nomark _)) (pv 1) (pe_joined (.cons (pe_fmt (pv 1)) (.cons pe_str (.cons (pe_fmt (pv 2)) .nil))))))))))), ?_⟩
    rw [show L2.start N_product_text [V.ref t] = [some (V.ref t), none, none] from rfl]
    (try dsimp only [cxOf, Cx.nox, Cx.wish])
    walk_at "h"
    refine ⟨!vs.isEmpty, .inr (.inl ⟨vs, st, rfl⟩), ?_⟩
    walk_at "h"
    by_cases hne : ps = []
    · subst hne
      have : vs = [] := List.length_eq_zero_iff.mp nv
      subst this
      walk_at "h"
      exact q H (fun _ _ h => h)
    have hv : vs.isEmpty = false := by
      cases vs with
      | nil => exact absurd (List.length_eq_zero_iff.mp nv.symm) hne
      | cons _ _ => rfl
    rw [hv, show (!false) = true from rfl]
    walk_at "h"
    refine rd_leafT st ?_
    intro D nD
    refine lc_tupW (xs := vs) [some (V.ref t), none, none] rfl (fun i H' => Same H H' ∧ H' D = some (.lst (((ps.take i).map fun q => mkS (pairT q)).map V.str))) ⟨same_new nD, upd_same⟩ (fun i H' _ h => same_tup h.1 _ _ st) ?_ ?_
    · rintro i x H1 hx ⟨s1, hD⟩
      have hi : i < ps.length := by rw [← nv]; exact (List.getElem?_eq_some_iff.mp hx).1
      obtain ⟨u, rfl, su⟩ := pair_get kv hi hx
      obtain ⟨a1, a2, a3⟩ := cq _ (List.getElem_mem hi)
      have etk := take_succ hi
      generalize ps[i] = q0 at su a1 a2 a3 etk
      obtain ⟨z, n⟩ := q0
      replace su : SqT K H u [.str z, .int n] := su
      replace a1 : z.length ≤ 8 := a1
      replace a2 : 1 ≤ n := a2
      replace a3 : n ≤ 10 ^ 30 := a3
      have fin : ∀ y : Str, y = mkS (pairT (z, n)) → ∃ acc, H1 D = some (.lst acc) ∧ acc.length < sizeLine ∧ Same H (upd H1 D (.lst (acc ++ [V.str y]))) ∧ (upd H1 D (.lst (acc ++ [V.str y]))) D = some (.lst (((ps.take (i + 1)).map fun q => mkS (pairT q)).map V.str)) := fun y hy =>
        ⟨_, hD, sz_lt (by rw [List.length_map, List.length_map, List.length_take]; omega), same_mut s1 nD, by rw [upd_same, etk, List.map_append, List.map_append, hy]; rfl⟩
      walk_at "h"
      refine ⟨u, _, rfl, same_tup s1 _ _ su, rfl, ?_⟩
      walk_at "h"
      refine ⟨rfl, ?_⟩
      walk_at "h"
      by_cases c : n = 1
      · rw [decide_eq_true c]
        walk_at "h"
        exact fin z (by unfold pairT; rw [if_pos c, mk_cds])
      · rw [decide_eq_false c]
        walk_at "h"
        refine rd_js3 (i := 1) (j := 2) (z := z) (m := "^") (n := n) ?_ ?_ (by omega) (by decide) (by omega) a3 fun y hy => ?_
        · rfl
        · rfl
        refine fin y ?_
        rw [str_eq_mk, hy]
        unfold pairT
        rw [if_neg c]
        rfl
    rintro H1 ⟨s1, hD⟩
    rw [nv, List.take_length] at hD
    walk_at "h"
    refine rd_joinL hD ?_ ?_
    · have := sum_40 cq
      rw [List.length_map]
      show _ + ps.length * 1 ≤ _
      omega
    have ej : Txt.join "*" (ps.map fun q => mkS (pairT q)) = mkS (textP ps) := by
      rw [str_eq_mk, cds_join (s := 42) rfl, List.map_map]
      unfold textP
      rw [if_neg hne]
      rfl
    rw [ej]
    exact q H1 s1
end
end K94
namespace K94
open PySem PySem.Spec PyProof.Rows L2 HH TL
local macro_rules | `(tactic| walk_at "h1") => `(tactic| first
  | with_reducible refine rd_seq ?_ | with_reducible refine rd_asg ?_ | with_reducible refine rd_op ?_
  | ((with_reducible refine' rd_var ?hv ?_); (case hv => exact rfl)) | with_reducible refine rd_c ?_
  | ((with_reducible refine rd_name ?_); dsimp only [List.set_cons_zero, List.set_cons_succ])
  | with_reducible refine rd_I0 ?_ | ((with_reducible refine rd_pow ?_ ?_ ?_ ?_); (· decide); (· decide); (· decide)) | ((with_reducible refine rd_mod ?_ ?_); (· decide)) | ((with_reducible refine rd_mulR ?_ ?_ ?_); (· decide); (· decide)) | ((with_reducible refine rd_divW (n := 64) ?_ ?_ ?_ ?_ ?_); (· decide); (· decide); (· decide); (· decide)) | with_reducible refine rd_addI ?_ | with_reducible refine rd_eqI ?_ | with_reducible refine rd_eqS ?_ | with_reducible refine rd_eqB ?_ | with_reducible refine rd_ltI ?_
  | with_reducible refine rd_callS ?_ | with_reducible refine rd_xf ?_ | with_reducible refine rd_cons ?_ | with_reducible refine rd_nil ?_ | with_reducible refine rd_cb ?_ | with_reducible refine rd_call ?_
  | with_reducible refine rd_ifs ?_ | with_reducible refine rd_test ?_ | with_reducible refine rd_tB ?_ | with_reducible refine rd_blQ ?_ | with_reducible refine iteT ?_ | with_reducible refine iteF ?_ | with_reducible refine iteNotF ?_ | with_reducible refine iteNotT ?_
  | with_reducible refine rd_and ?_ | with_reducible refine rd_or ?_ | with_reducible refine rd_not ?_ | with_reducible refine rd_andV ?_ | with_reducible refine rd_orV ?_ | with_reducible refine rd_notV ?_ | with_reducible refine rd_if ?_
  | with_reducible refine rd_un ?_ | with_reducible refine rd_U ?_ | with_reducible refine rd_sub ?_ | with_reducible refine rd_tup ?_ | with_reducible refine rd_lst ?_
  | with_reducible refine rd_intI ?_ | with_reducible refine rd_absI ?_ | with_reducible refine rd_drop ?_ | with_reducible refine rd_ret ?_ | with_reducible refine rd_retN ?_ | with_reducible refine rd_next ?_ | with_reducible refine rd_bm ?_
  | with_reducible refine rd_tDGet2 ?_ | with_reducible refine rd_tDGet ?_ | with_reducible refine rd_sDPut ?_ | with_reducible refine rd_dnewK ?_ | with_reducible refine rd_nnew ?_ | with_reducible refine rd_nget ?_ | with_reducible refine rd_nget2 ?_ | with_reducible refine rd_npop ?_ | with_reducible refine rd_nput ?_ | with_reducible refine rd_dcn ?_ | with_reducible refine rd_gtup ?_ | with_reducible refine rd_gcons ?_ | with_reducible refine rd_gnil ?_ | with_reducible refine rd_lc ?_ | with_reducible refine rd_yes ?_ | with_reducible refine rd_for ?_ | with_reducible refine rd_iL ?_ | with_reducible refine rd_neS ?_ | with_reducible refine rd_neN ?_ | with_reducible refine rd_neB ?_ | with_reducible refine rd_chain ?_ | with_reducible refine rd_bm0 ?_ | with_reducible refine rd_dc ?_ | with_reducible refine rd_iN ?_ | with_reducible refine rd_iZ ?_ | with_reducible refine rd_ngetF ?_ | with_reducible refine rd_iT ?_ | with_reducible refine rd_iR1 ?_ | with_reducible refine rd_iS ?_ | with_reducible refine rd_leafS ?_ | with_reducible refine rd_sl ?_ | with_reducible refine rd_noPart ?_ | with_reducible refine rd_part ?_ | with_reducible refine rd_leafI ?_)
local macro_rules | `(tactic| walk_at "h") => `(tactic| repeat walk_at "h1")

local macro_rules | `(tactic| walk_at "h1") => `(tactic| first
  | with_reducible refine rd_m1 ?_ | with_reducible refine rd_isS ?_ | with_reducible refine rd_tupZ2 ?_)

section
variable {P : Program} {w : World} {K : PySem.W.Frag} {mg : Str → Option Value} {base : Heap}
theorem ok_read {C : Addr} {f : Addr} {fd : FuncData} (F : Fun K "read_product" "read_product" s_read_product f fd) (T : Bi mg) (X_BadText : ErrAt P w K mg base "BadText" "line" C) (G_product_in : Callee P w K mg base 4 "product_in" ["text"] (spProdIn K)) :
    FnOk P w K mg base (L2.CX P w) 6 f fd ["text"] (spRead K C) := by
  refine F.okX (k := 5) sc_read_product (fun vs H Q E h => ?_) (fun cdv A outer s H vs Q E hr h => ?_)
  · obtain ⟨v, rfl, _⟩ := h
    rfl
  · obtain ⟨v, rfl, h⟩ := h
    have hu := hu_of hr
    have hu20 := hu20_of hr
    have hu40 := hu40_of hr
    obtain ⟨f_product_in, fd_product_in, F_product_in, m_product_in, k_product_in, b_product_in⟩ := G_product_in; obtain ⟨fI_BadText, fdI_BadText, E_BadText, FI_BadText, BI_BadText⟩ := X_BadText
    refine ⟨_, (pss_cons (ps_if (pt_not (pt_val (pe_callB (call_isiK (K := K)) (by rfl) T.isinstance_ (by decide +kernel) (pa_cons (pv 0) (pa_cons (pe_bltn (v := .ty "str") (by rfl) T.str_ (by decide +kernel) rfl) pa_nil))))) (pss_one (ps_raise rfl (takes_of rfl rfl rfl rfl) (pmk_oex E_BadText.ox E_BadText.iC E_BadText.tI FI_BadText (hr.mono (by decide)) BI_BadText .nil pass0 (by rfl) E_BadText.gC (pa_cons pe_int pa_nil)))) pss_nil)
  (pss_cons (ps_set (i := 1) sc_read_product.nd rfl (.inl rfl) (pe_call F_product_in (hr.mono (by decide)) (by rfl) m_product_in k_product_in b_product_in .nil pass0 (pa_cons (pv 0) pa_nil)))
  (pss_cons (ps_if (pt_cmpR op_isN1 (pv 1) pe_non (nomark _)) (pss_one (ps_raise rfl (takes_of rfl rfl rfl rfl) (pmk_oex E_BadText.ox E_BadText.iC E_BadText.tI FI_BadText (hr.mono (by decide)) BI_BadText .nil pass0 (by rfl) E_BadText.gC (pa_cons pe_int pa_nil)))) pss_nil)
  (pss_one (ps_ret (pv 1)))))), ?_⟩
    rw [show L2.start N_read_product [v] = [some v, none] from rfl]
    (try dsimp only [cxOf, Cx.nox, Cx.wish])
    walk_at "h"
    rcases h with ⟨z, rfl, lz, q, qe⟩ | ⟨ty, ht, hk, qe⟩
    · refine rd_isi (.base (.str _)) rfl ?_
      walk_at "h"
      refine ⟨z, rfl, lz, fun ps hp t H1 s1 kt => ?_, fun hp H1 s1 => ?_⟩
      · walk_at "h"
        refine rd_isNr ?_
        walk_at "h"
        exact q ps hp t H1 s1 kt
      · walk_at "h"
        refine rd_isNt ?_
        walk_at "h"
        refine rd_mkOc fun e ne => ?_
        exact qe hp e _ (s1.trans (same_new ne)) upd_same
    · refine rd_isi ht hk ?_
      walk_at "h"
      refine rd_mkOc fun e ne => ?_
      exact qe e _ (same_new ne) upd_same
end
end K94
namespace K94
open PySem PySem.Spec PyProof.Rows L2 HH TL
local macro_rules | `(tactic| walk_at "h1") => `(tactic| first
  | with_reducible refine rd_seq ?_ | with_reducible refine rd_asg ?_ | with_reducible refine rd_op ?_
  | ((with_reducible refine' rd_var ?hv ?_); (case hv => exact rfl)) | with_reducible refine rd_c ?_
  | ((with_reducible refine rd_name ?_); dsimp only [List.set_cons_zero, List.set_cons_succ])
  | with_reducible refine rd_I0 ?_ | ((with_reducible refine rd_pow ?_ ?_ ?_ ?_); (· decide); (· decide); (· decide)) | ((with_reducible refine rd_mod ?_ ?_); (· decide)) | ((with_reducible refine rd_mulR ?_ ?_ ?_); (· decide); (· decide)) | ((with_reducible refine rd_divW (n := 64) ?_ ?_ ?_ ?_ ?_); (· decide); (· decide); (· decide); (· decide)) | with_reducible refine rd_addI ?_ | with_reducible refine rd_eqI ?_ | with_reducible refine rd_eqS ?_ | with_reducible refine rd_eqB ?_ | with_reducible refine rd_ltI ?_
  | with_reducible refine rd_callS ?_ | with_reducible refine rd_xf ?_ | with_reducible refine rd_cons ?_ | with_reducible refine rd_nil ?_ | with_reducible refine rd_cb ?_ | with_reducible refine rd_call ?_
  | with_reducible refine rd_ifs ?_ | with_reducible refine rd_test ?_ | with_reducible refine rd_tB ?_ | with_reducible refine rd_blQ ?_ | with_reducible refine iteT ?_ | with_reducible refine iteF ?_ | with_reducible refine iteNotF ?_ | with_reducible refine iteNotT ?_
  | with_reducible refine rd_and ?_ | with_reducible refine rd_or ?_ | with_reducible refine rd_not ?_ | with_reducible refine rd_andV ?_ | with_reducible refine rd_orV ?_ | with_reducible refine rd_notV ?_ | with_reducible refine rd_if ?_
  | with_reducible refine rd_un ?_ | with_reducible refine rd_U ?_ | with_reducible refine rd_sub ?_ | with_reducible refine rd_tup ?_ | with_reducible refine rd_lst ?_
  | with_reducible refine rd_intI ?_ | with_reducible refine rd_absI ?_ | with_reducible refine rd_drop ?_ | with_reducible refine rd_ret ?_ | with_reducible refine rd_retN ?_ | with_reducible refine rd_next ?_ | with_reducible refine rd_bm ?_
  | with_reducible refine rd_tDGet2 ?_ | with_reducible refine rd_tDGet ?_ | with_reducible refine rd_sDPut ?_ | with_reducible refine rd_dnewK ?_ | with_reducible refine rd_nnew ?_ | with_reducible refine rd_nget ?_ | with_reducible refine rd_nget2 ?_ | with_reducible refine rd_npop ?_ | with_reducible refine rd_nput ?_ | with_reducible refine rd_dcn ?_ | with_reducible refine rd_gtup ?_ | with_reducible refine rd_gcons ?_ | with_reducible refine rd_gnil ?_ | with_reducible refine rd_lc ?_ | with_reducible refine rd_yes ?_ | with_reducible refine rd_for ?_ | with_reducible refine rd_iL ?_ | with_reducible refine rd_neS ?_ | with_reducible refine rd_neN ?_ | with_reducible refine rd_neB ?_ | with_reducible refine rd_chain ?_ | with_reducible refine rd_bm0 ?_ | with_reducible refine rd_dc ?_ | with_reducible refine rd_iN ?_ | with_reducible refine rd_iZ ?_ | with_reducible refine rd_ngetF ?_ | with_reducible refine rd_iT ?_ | with_reducible refine rd_iR1 ?_ | with_reducible refine rd_iS ?_ | with_reducible refine rd_leafS ?_ | with_reducible refine rd_sl ?_ | with_reducible refine rd_noPart ?_ | with_reducible refine rd_part ?_ | with_reducible refine rd_leafI ?_)
local macro_rules | `(tactic| walk_at "h") => `(tactic| repeat walk_at "h1")

local macro_rules | `(tactic| walk_at "h1") => `(tactic| first
  | with_reducible refine rd_m1 ?_ | with_reducible refine rd_isS ?_ | with_reducible refine rd_tupZ2 ?_)

section
variable {P : Program} {w : World} {K : PySem.W.Frag} {mg : Str → Option Value} {base : Heap}
theorem ok_lpair {f : Addr} {fd : FuncData} (F : Fun K "_law_pair_text" "_law_pair_text" s_l_pair_text f fd) (T : Bi mg) : FnOk P w K mg base CX0 1 f fd ["_law_pair"] (spLPair K) := by
  refine F.ok sc_l_pair_text (fun vs H Q E h => ?_) (fun cdv A outer s H vs Q E hr h => ?_)
  · obtain ⟨u, q0, rfl, _⟩ := h
    rfl
  · obtain ⟨u, q0, rfl, su, a1, a2, a3, q⟩ := h
    obtain ⟨z, n⟩ := q0
    replace su : SqT K H u [.str z, .int n] := su
    replace a1 : z.length ≤ 8 := a1
    replace a2 : 1 ≤ n := a2
    replace a3 : n ≤ 10 ^ 30 := a3
    have hu := hu_of hr
    have hu20 := hu20_of hr
    have hu40 := hu40_of hr
    refine ⟨_, (pss_cons (ps_if (pt_cmpR (op_eqU (K := K) hu40) (pe_ix (ix_tupK (K := K)) (pv 0) pe_int (fun _ _ => rfl)) pe_int (nomark _)) (pss_one (ps_ret (pe_ix (ix_tupK (K := K)) (pv 0) pe_int (fun _ _ => rfl)))) pss_nil)
  (pss_one (ps_ret (pe_op (op_addU (K := K)) (pe_op (op_addU (K := K)) (pe_ix (ix_tupK (K := K)) (pv 0) pe_int (fun _ _ => rfl)) pe_str) (pe_callTy call_str_int (by rfl) T.str_ (by decide +kernel) (pa_cons (pe_ix (ix_tupK (K := K)) (pv 0) pe_int (fun _ _ => rfl)) pa_nil)))))), ?_⟩
    rw [show L2.start N_l_pair_text [V.ref u] = [some (V.ref u)] from rfl]
    (try dsimp only [cxOf, Cx.nox, Cx.wish])
    walk_at "h"
    refine rd_ixt su (atI_nat (j := 1) rfl) ?_
    walk_at "h"
    by_cases c : n = 1
    · rw [decide_eq_true c]
      walk_at "h"
      refine rd_ixt su (atI_nat (j := 0) rfl) ?_
      have : mkS (pairT (z, n)) = z := by unfold pairT; rw [if_pos c, mk_cds]
      rw [this] at q
      exact q
    · rw [decide_eq_false c]
      have l31 := num_31 (n := n) (by omega) a3
      have ec := cds_tos (n := n) (by omega)
      walk_at "h"
      refine rd_ixt su (atI_nat (j := 0) rfl) ?_
      walk_at "h"
      refine rd_addS (sz_le (by show z.length + 1 ≤ _; omega)) ?_
      walk_at "h"
      refine rd_ixt su (atI_nat (j := 1) rfl) ?_
      walk_at "h"
      refine ⟨n, rfl, log_30 (by omega) a3, ?_⟩
      refine rd_addS (sz_le ?_) ?_
      · rw [len_cds, len_cds, cds_app, List.length_append, ← len_cds z, show (cds (Str.ofString (toString n))).length = (numL n.toNat).length by rw [ec]]
        show z.length + 1 + _ ≤ _
        omega
      have : mkS (pairT (z, n)) = z ++ "^" ++ Str.ofString (toString n) := by
        rw [eq_comm, str_eq_mk, cds_app, cds_app, ec]
        unfold pairT
        rw [if_neg c, List.append_assoc]
        rfl
      rw [this] at q
      exact q
end
end K94
namespace K94
open PySem PySem.Spec PyProof.Rows L2 HH TL
local macro_rules | `(tactic| walk_at "h1") => `(tactic| first
  | with_reducible refine rd_seq ?_ | with_reducible refine rd_asg ?_ | with_reducible refine rd_op ?_
  | ((with_reducible refine' rd_var ?hv ?_); (case hv => exact rfl)) | with_reducible refine rd_c ?_
  | ((with_reducible refine rd_name ?_); dsimp only [List.set_cons_zero, List.set_cons_succ])
  | with_reducible refine rd_I0 ?_ | ((with_reducible refine rd_pow ?_ ?_ ?_ ?_); (· decide); (· decide); (· decide)) | ((with_reducible refine rd_mod ?_ ?_); (· decide)) | ((with_reducible refine rd_mulR ?_ ?_ ?_); (· decide); (· decide)) | ((with_reducible refine rd_divW (n := 64) ?_ ?_ ?_ ?_ ?_); (· decide); (· decide); (· decide); (· decide)) | with_reducible refine rd_addI ?_ | with_reducible refine rd_eqI ?_ | with_reducible refine rd_eqS ?_ | with_reducible refine rd_eqB ?_ | with_reducible refine rd_ltI ?_
  | with_reducible refine rd_callS ?_ | with_reducible refine rd_xf ?_ | with_reducible refine rd_cons ?_ | with_reducible refine rd_nil ?_ | with_reducible refine rd_cb ?_ | with_reducible refine rd_call ?_
  | with_reducible refine rd_ifs ?_ | with_reducible refine rd_test ?_ | with_reducible refine rd_tB ?_ | with_reducible refine rd_blQ ?_ | with_reducible refine iteT ?_ | with_reducible refine iteF ?_ | with_reducible refine iteNotF ?_ | with_reducible refine iteNotT ?_
  | with_reducible refine rd_and ?_ | with_reducible refine rd_or ?_ | with_reducible refine rd_not ?_ | with_reducible refine rd_andV ?_ | with_reducible refine rd_orV ?_ | with_reducible refine rd_notV ?_ | with_reducible refine rd_if ?_
  | with_reducible refine rd_un ?_ | with_reducible refine rd_U ?_ | with_reducible refine rd_sub ?_ | with_reducible refine rd_tup ?_ | with_reducible refine rd_lst ?_
  | with_reducible refine rd_intI ?_ | with_reducible refine rd_absI ?_ | with_reducible refine rd_drop ?_ | with_reducible refine rd_ret ?_ | with_reducible refine rd_retN ?_ | with_reducible refine rd_next ?_ | with_reducible refine rd_bm ?_
  | with_reducible refine rd_tDGet2 ?_ | with_reducible refine rd_tDGet ?_ | with_reducible refine rd_sDPut ?_ | with_reducible refine rd_dnewK ?_ | with_reducible refine rd_nnew ?_ | with_reducible refine rd_nget ?_ | with_reducible refine rd_nget2 ?_ | with_reducible refine rd_npop ?_ | with_reducible refine rd_nput ?_ | with_reducible refine rd_dcn ?_ | with_reducible refine rd_gtup ?_ | with_reducible refine rd_gcons ?_ | with_reducible refine rd_gnil ?_ | with_reducible refine rd_lc ?_ | with_reducible refine rd_yes ?_ | with_reducible refine rd_for ?_ | with_reducible refine rd_iL ?_ | with_reducible refine rd_neS ?_ | with_reducible refine rd_neN ?_ | with_reducible refine rd_neB ?_ | with_reducible refine rd_chain ?_ | with_reducible refine rd_bm0 ?_ | with_reducible refine rd_dc ?_ | with_reducible refine rd_iN ?_ | with_reducible refine rd_iZ ?_ | with_reducible refine rd_ngetF ?_ | with_reducible refine rd_iT ?_ | with_reducible refine rd_iR1 ?_ | with_reducible refine rd_iS ?_ | with_reducible refine rd_leafS ?_ | with_reducible refine rd_sl ?_ | with_reducible refine rd_noPart ?_ | with_reducible refine rd_part ?_ | with_reducible refine rd_leafI ?_)
local macro_rules | `(tactic| walk_at "h") => `(tactic| repeat walk_at "h1")

local macro_rules | `(tactic| walk_at "h1") => `(tactic| first
  | with_reducible refine rd_m1 ?_ | with_reducible refine rd_isS ?_ | with_reducible refine rd_tupZ2 ?_)

section
variable {P : Program} {w : World} {K : PySem.W.Frag} {mg : Str → Option Value} {base : Heap}
theorem ok_lptext {f : Addr} {fd : FuncData} (F : Fun K "_law_product_text" "_law_product_text" s_l_product_text f fd) (T : Bi mg) (G_l_pair_text : Callee P w K mg base 1 "_law_pair_text" ["_law_pair"] (spLPair K)) : FnOk P w K mg base CX0 2 f fd ["_law_product"] (spPText K) := by
  refine F.ok (k := 1) sc_l_product_text (fun vs H Q E h => ?_) (fun cdv A outer s H vs Q E hr h => ?_)
  · obtain ⟨t, ps, rfl, _⟩ := h
    rfl
  · obtain ⟨t, ps, rfl, kt, lp, cq, q⟩ := h
    have hu := hu_of hr
    have hu20 := hu20_of hr
    have hu40 := hu40_of hr
    obtain ⟨_, vs, et, st, kv, nv⟩ := prod_at kt
    obtain rfl := V.ref.inj et
    obtain ⟨f_l_pair_text, fd_l_pair_text, F_l_pair_text, m_l_pair_text, k_l_pair_text, b_l_pair_text⟩ := G_l_pair_text
    refine ⟨_, (pss_cons (ps_if (pt_cmpR (op_eqU (K := K) hu40) (pe_callB (call_lenU (P := P) (w := w) (K := K)) (by rfl) T.len_ PySem.boot_len (pa_cons (pv 0) pa_nil)) pe_int (nomark _)) (pss_one (ps_ret pe_str)) pss_nil)
  (pss_one (ps_ret (pe_joinK (K := K) pe_str (pe_lc (own := [("_law_pair", 1)]) rfl sc_l_product_text.nd (pi_tup (pv 0)) (blkOk_by (N := N_l_product_text) (sc := defScope s_l_product_text) (by decide +kernel)) (fun _ _ _ _ _ => (pg_name (i := 1) sc_l_product_text.nd rfl (.inl rfl))) (fun _ _ _ _ _ => pts_nil) (fun _ _ _ _ _ => (pe_call F_l_pair_text (hr.mono (by decide)) (by rfl) m_l_pair_text k_l_pair_text b_l_pair_text .nil pass0 (pa_cons (pv 1) pa_nil)))))))), ?_⟩
    rw [show L2.start N_l_product_text [V.ref t] = [some (V.ref t), none] from rfl]
    (try dsimp only [cxOf, Cx.nox, Cx.wish])
    walk_at "h"
    refine rd_lenT st ?_
    walk_at "h"
    by_cases hne : ps = []
    · subst hne
      have : vs = [] := List.length_eq_zero_iff.mp nv
      subst this
      rw [show decide ((([] : List V).length : Int) = 0) = true from rfl]
      walk_at "h"
      exact q H (fun _ _ h => h)
    have hv : ¬ (vs.length : Int) = 0 := by
      intro w
      exact hne (List.length_eq_zero_iff.mp (by omega))
    rw [decide_eq_false hv]
    walk_at "h"
    refine rd_leafT st ?_
    intro D nD
    refine lc_tupW (xs := vs) [some (V.ref t), none] rfl (fun i H' => Same H H' ∧ H' D = some (.lst (((ps.take i).map fun q => mkS (pairT q)).map V.str))) ⟨same_new nD, upd_same⟩ (fun i H' _ h => same_tup h.1 _ _ st) ?_ ?_
    · rintro i x H1 hx ⟨s1, hD⟩
      have hi : i < ps.length := by rw [← nv]; exact (List.getElem?_eq_some_iff.mp hx).1
      obtain ⟨u, rfl, su⟩ := pair_get kv hi hx
      obtain ⟨a1, a2, a3⟩ := cq _ (List.getElem_mem hi)
      have etk := take_succ hi
      generalize ps[i] = q0 at su a1 a2 a3 etk
      obtain ⟨z, n⟩ := q0
      replace su : SqT K H u [.str z, .int n] := su
      replace a1 : z.length ≤ 8 := a1
      replace a2 : 1 ≤ n := a2
      replace a3 : n ≤ 10 ^ 30 := a3
      have fin : ∀ y : Str, y = mkS (pairT (z, n)) → ∃ acc, H1 D = some (.lst acc) ∧ acc.length < sizeLine ∧ Same H (upd H1 D (.lst (acc ++ [V.str y]))) ∧ (upd H1 D (.lst (acc ++ [V.str y]))) D = some (.lst (((ps.take (i + 1)).map fun q => mkS (pairT q)).map V.str)) := fun y hy =>
        ⟨_, hD, sz_lt (by rw [List.length_map, List.length_map, List.length_take]; omega), same_mut s1 nD, by rw [upd_same, etk, List.map_append, List.map_append, hy]; rfl⟩
      walk_at "h"
      refine ⟨rfl, ?_⟩
      walk_at "h"
      exact ⟨u, (z, n), rfl, same_tup s1 _ _ su, a1, a2, a3, fin _ rfl⟩
    rintro H1 ⟨s1, hD⟩
    rw [nv, List.take_length] at hD
    walk_at "h"
    refine rd_joinL hD ?_ ?_
    · have := sum_40 cq
      rw [List.length_map]
      show _ + ps.length * 1 ≤ _
      omega
    have ej : Txt.join "*" (ps.map fun q => mkS (pairT q)) = mkS (textP ps) := by
      rw [str_eq_mk, cds_join (s := 42) rfl, List.map_map]
      unfold textP
      rw [if_neg hne]
      rfl
    rw [ej]
    exact q H1 s1
end
end K94
namespace K94
open PySem PySem.Spec PyProof.Rows L2 HH TL
local macro_rules | `(tactic| walk_at "h1") => `(tactic| first
  | with_reducible refine rd_seq ?_ | with_reducible refine rd_asg ?_ | with_reducible refine rd_op ?_
  | ((with_reducible refine' rd_var ?hv ?_); (case hv => exact rfl)) | with_reducible refine rd_c ?_
  | ((with_reducible refine rd_name ?_); dsimp only [List.set_cons_zero, List.set_cons_succ])
  | with_reducible refine rd_I0 ?_ | ((with_reducible refine rd_pow ?_ ?_ ?_ ?_); (· decide); (· decide); (· decide)) | ((with_reducible refine rd_mod ?_ ?_); (· decide)) | ((with_reducible refine rd_mulR ?_ ?_ ?_); (· decide); (· decide)) | ((with_reducible refine rd_divW (n := 64) ?_ ?_ ?_ ?_ ?_); (· decide); (· decide); (· decide); (· decide)) | with_reducible refine rd_addI ?_ | with_reducible refine rd_eqI ?_ | with_reducible refine rd_eqS ?_ | with_reducible refine rd_eqB ?_ | with_reducible refine rd_ltI ?_
  | with_reducible refine rd_callS ?_ | with_reducible refine rd_xf ?_ | with_reducible refine rd_cons ?_ | with_reducible refine rd_nil ?_ | with_reducible refine rd_cb ?_ | with_reducible refine rd_call ?_
  | with_reducible refine rd_ifs ?_ | with_reducible refine rd_test ?_ | with_reducible refine rd_tB ?_ | with_reducible refine rd_blQ ?_ | with_reducible refine iteT ?_ | with_reducible refine iteF ?_ | with_reducible refine iteNotF ?_ | with_reducible refine iteNotT ?_
  | with_reducible refine rd_and ?_ | with_reducible refine rd_or ?_ | with_reducible refine rd_not ?_ | with_reducible refine rd_andV ?_ | with_reducible refine rd_orV ?_ | with_reducible refine rd_notV ?_ | with_reducible refine rd_if ?_
  | with_reducible refine rd_un ?_ | with_reducible refine rd_U ?_ | with_reducible refine rd_sub ?_ | with_reducible refine rd_tup ?_ | with_reducible refine rd_lst ?_
  | with_reducible refine rd_intI ?_ | with_reducible refine rd_absI ?_ | with_reducible refine rd_drop ?_ | with_reducible refine rd_ret ?_ | with_reducible refine rd_retN ?_ | with_reducible refine rd_next ?_ | with_reducible refine rd_bm ?_
  | with_reducible refine rd_tDGet2 ?_ | with_reducible refine rd_tDGet ?_ | with_reducible refine rd_sDPut ?_ | with_reducible refine rd_dnewK ?_ | with_reducible refine rd_nnew ?_ | with_reducible refine rd_nget ?_ | with_reducible refine rd_nget2 ?_ | with_reducible refine rd_npop ?_ | with_reducible refine rd_nput ?_ | with_reducible refine rd_dcn ?_ | with_reducible refine rd_gtup ?_ | with_reducible refine rd_gcons ?_ | with_reducible refine rd_gnil ?_ | with_reducible refine rd_lc ?_ | with_reducible refine rd_yes ?_ | with_reducible refine rd_for ?_ | with_reducible refine rd_iL ?_ | with_reducible refine rd_neS ?_ | with_reducible refine rd_neN ?_ | with_reducible refine rd_neB ?_ | with_reducible refine rd_chain ?_ | with_reducible refine rd_bm0 ?_ | with_reducible refine rd_dc ?_ | with_reducible refine rd_iN ?_ | with_reducible refine rd_iZ ?_ | with_reducible refine rd_ngetF ?_ | with_reducible refine rd_iT ?_ | with_reducible refine rd_iR1 ?_ | with_reducible refine rd_iS ?_ | with_reducible refine rd_leafS ?_ | with_reducible refine rd_sl ?_ | with_reducible refine rd_noPart ?_ | with_reducible refine rd_part ?_ | with_reducible refine rd_leafI ?_)
local macro_rules | `(tactic| walk_at "h") => `(tactic| repeat walk_at "h1")

local macro_rules | `(tactic| walk_at "h1") => `(tactic| first
  | with_reducible refine rd_m1 ?_ | with_reducible refine rd_isS ?_ | with_reducible refine rd_tupZ2 ?_)

section
variable {P : Program} {w : World} {K : PySem.W.Frag} {mg : Str → Option Value} {base : Heap}
theorem ok_lname {f : Addr} {fd : FuncData} (F : Fun K "_law_is_name" "_law_is_name" s_l_is_name f fd) (T : Bi mg) : FnOk P w K mg base CX0 1 f fd ["_law_word_here"] spLName := by
  refine F.ok sc_l_is_name (fun vs H Q E h => ?_) (fun cdv A outer s H vs Q E hr h => ?_)
  · obtain ⟨z, rfl, _⟩ := h
    rfl
  · obtain ⟨z, rfl, lz, q⟩ := h
    have hu := hu_of hr
    have hu20 := hu20_of hr
    have hu40 := hu40_of hr
    refine ⟨_, (pss_cons (ps_if (PW.pt (pw_or (pt_cmpR (op_ltU (K := K) hu40) (pe_callB (call_lenU (P := P) (w := w) (K := K)) (by rfl) T.len_ PySem.boot_len (pa_cons (pv 0) pa_nil)) pe_int (nomark _)) (pw_or1 (pt_cmpR op_gt (pe_callB (call_lenU (P := P) (w := w) (K := K)) (by rfl) T.len_ PySem.boot_len (pa_cons (pv 0) pa_nil)) pe_int (nomark _))))) (pss_one (ps_ret pe_bl)) pss_nil)
  (pss_cons (ps_for PassesOwn.never rfl (pi_str (pv 0)) (pg_name (i := 1) sc_l_is_name.nd rfl (.inl rfl))
    (pss_one (ps_if (pt_cmpR op_notIn_sign (pv 1) pe_str (by rfl)) (pss_one (ps_ret pe_bl)) pss_nil)))
  (pss_one (ps_ret pe_bl)))), ?_⟩
    rw [show L2.start N_l_is_name [V.str z] = [some (V.str z), none] from rfl]
    (try dsimp only [cxOf, Cx.nox, Cx.wish])
    have no : ¬ (1 ≤ z.length ∧ z.length ≤ 8 ∧ ∀ c ∈ cds z, 97 ≤ c ∧ c ≤ 122) → Q (.bl false) H := fun h => by
      have : isNmL (cds z) = false := by
        cases e : isNmL (cds z) with
        | false => rfl
        | true =>
          have := isNmL_iff.mp e
          rw [← len_cds] at this
          exact absurd this h
      rw [this] at q
      exact q
    walk_at "h"
    refine rd_lenS (sz_le (by omega)) ?_
    walk_at "h"
    by_cases c1 : z.length < 1
    · rw [decide_eq_true (show (z.length : Int) < 1 by omega)]
      walk_at "h"
      exact no (by omega)
    rw [decide_eq_false (show ¬ (z.length : Int) < 1 by omega)]
    walk_at "h"
    refine rd_lenS (sz_le (by omega)) ?_
    walk_at "h"
    by_cases c2 : z.length ≤ 8
    case neg =>
      rw [decide_eq_true (show (8 : Int) < (z.length : Int) by omega)]
      walk_at "h"
      exact no (by omega)
    rw [decide_eq_false (show ¬ (8 : Int) < (z.length : Int) by omega)]
    walk_at "h"
    refine for_it walk_str (fun i σ H' => ∃ v1 : Option V, σ = [some (V.str z), v1] ∧ H' = H ∧ ∀ c ∈ (cds z).take i, 97 ≤ c ∧ c ≤ 122) ⟨_, rfl, rfl, by simp⟩ (fun _ _ _ _ _ => True.intro) ?_ ?_
    · rintro i x σ H1 H2 hi ⟨v1, rfl, rfl, hc⟩ ⟨rfl, c, hcc, rfl⟩
      have hcc' : (cds z)[i]? = some c := by rw [← hcc]; exact Array.getElem?_toList
      have etk : (cds z).take (i + 1) = (cds z).take i ++ [c] := by rw [List.take_add_one, hcc']; rfl
      walk_at "h"
      refine ⟨c, _, rfl, rfl, ?_⟩
      by_cases d : 97 ≤ c ∧ c ≤ 122
      · rw [decide_eq_true ((abc_mem c).mpr d)]
        walk_at "h"
        refine ⟨_, rfl, rfl, fun y hy => ?_⟩
        rw [etk] at hy
        rcases List.mem_append.mp hy with w | w
        · exact hc y w
        · rw [List.mem_singleton.mp w]; exact d
      · rw [decide_eq_false (fun w => d ((abc_mem c).mp w))]
        walk_at "h"
        exact no fun w => d (w.2.2 c (List.mem_iff_getElem?.mpr ⟨i, hcc'⟩))
    · rintro σ H1 ⟨v1, rfl, rfl, hc⟩
      rw [show z.cps.size = (cds z).length from Array.length_toList.symm, List.take_length] at hc
      walk_at "h"
      have : isNmL (cds z) = true := isNmL_iff.mpr (by rw [← len_cds]; exact ⟨by omega, c2, hc⟩)
      rw [this] at q
      exact q
end
end K94
namespace K94
open PySem PySem.Spec PyProof.Rows L2 HH TL
local macro_rules | `(tactic| walk_at "h1") => `(tactic| first
  | with_reducible refine rd_seq ?_ | with_reducible refine rd_asg ?_ | with_reducible refine rd_op ?_
  | ((with_reducible refine' rd_var ?hv ?_); (case hv => exact rfl)) | with_reducible refine rd_c ?_
  | ((with_reducible refine rd_name ?_); dsimp only [List.set_cons_zero, List.set_cons_succ])
  | with_reducible refine rd_I0 ?_ | ((with_reducible refine rd_pow ?_ ?_ ?_ ?_); (· decide); (· decide); (· decide)) | ((with_reducible refine rd_mod ?_ ?_); (· decide)) | ((with_reducible refine rd_mulR ?_ ?_ ?_); (· decide); (· decide)) | ((with_reducible refine rd_divW (n := 64) ?_ ?_ ?_ ?_ ?_); (· decide); (· decide); (· decide); (· decide)) | with_reducible refine rd_addI ?_ | with_reducible refine rd_eqI ?_ | with_reducible refine rd_eqS ?_ | with_reducible refine rd_eqB ?_ | with_reducible refine rd_ltI ?_
  | with_reducible refine rd_callS ?_ | with_reducible refine rd_xf ?_ | with_reducible refine rd_cons ?_ | with_reducible refine rd_nil ?_ | with_reducible refine rd_cb ?_ | with_reducible refine rd_call ?_
  | with_reducible refine rd_ifs ?_ | with_reducible refine rd_test ?_ | with_reducible refine rd_tB ?_ | with_reducible refine rd_blQ ?_ | with_reducible refine iteT ?_ | with_reducible refine iteF ?_ | with_reducible refine iteNotF ?_ | with_reducible refine iteNotT ?_
  | with_reducible refine rd_and ?_ | with_reducible refine rd_or ?_ | with_reducible refine rd_not ?_ | with_reducible refine rd_andV ?_ | with_reducible refine rd_orV ?_ | with_reducible refine rd_notV ?_ | with_reducible refine rd_if ?_
  | with_reducible refine rd_un ?_ | with_reducible refine rd_U ?_ | with_reducible refine rd_sub ?_ | with_reducible refine rd_tup ?_ | with_reducible refine rd_lst ?_
  | with_reducible refine rd_intI ?_ | with_reducible refine rd_absI ?_ | with_reducible refine rd_drop ?_ | with_reducible refine rd_ret ?_ | with_reducible refine rd_retN ?_ | with_reducible refine rd_next ?_ | with_reducible refine rd_bm ?_
  | with_reducible refine rd_tDGet2 ?_ | with_reducible refine rd_tDGet ?_ | with_reducible refine rd_sDPut ?_ | with_reducible refine rd_dnewK ?_ | with_reducible refine rd_nnew ?_ | with_reducible refine rd_nget ?_ | with_reducible refine rd_nget2 ?_ | with_reducible refine rd_npop ?_ | with_reducible refine rd_nput ?_ | with_reducible refine rd_dcn ?_ | with_reducible refine rd_gtup ?_ | with_reducible refine rd_gcons ?_ | with_reducible refine rd_gnil ?_ | with_reducible refine rd_lc ?_ | with_reducible refine rd_yes ?_ | with_reducible refine rd_for ?_ | with_reducible refine rd_iL ?_ | with_reducible refine rd_neS ?_ | with_reducible refine rd_neN ?_ | with_reducible refine rd_neB ?_ | with_reducible refine rd_chain ?_ | with_reducible refine rd_bm0 ?_ | with_reducible refine rd_dc ?_ | with_reducible refine rd_iN ?_ | with_reducible refine rd_iZ ?_ | with_reducible refine rd_ngetF ?_ | with_reducible refine rd_iT ?_ | with_reducible refine rd_iR1 ?_ | with_reducible refine rd_iS ?_ | with_reducible refine rd_leafS ?_ | with_reducible refine rd_sl ?_ | with_reducible refine rd_noPart ?_ | with_reducible refine rd_part ?_ | with_reducible refine rd_leafI ?_)
local macro_rules | `(tactic| walk_at "h") => `(tactic| repeat walk_at "h1")

local macro_rules | `(tactic| walk_at "h1") => `(tactic| first
  | with_reducible refine rd_m1 ?_ | with_reducible refine rd_isS ?_ | with_reducible refine rd_tupZ2 ?_)

section
variable {P : Program} {w : World} {K : PySem.W.Frag} {mg : Str → Option Value} {base : Heap}
theorem ok_lnum {f : Addr} {fd : FuncData} (F : Fun K "_law_number" "_law_number" s_l_number f fd) (T : Bi mg) : FnOk P w K mg base CX0 1 f fd ["_law_word_here", "_law_least"] spLNum := by
  refine F.ok sc_l_number (fun vs H Q E h => ?_) (fun cdv A outer s H vs Q E hr h => ?_)
  · obtain ⟨z, least, rfl, _⟩ := h
    rfl
  · obtain ⟨z, least, rfl, lz, q⟩ := h
    have hu := hu_of hr
    have hu20 := hu20_of hr
    have hu40 := hu40_of hr
    refine ⟨_, (pss_cons (ps_if (PW.pt (pw_or (pt_cmpR (op_ltU (K := K) hu40) (pe_callB (call_lenU (P := P) (w := w) (K := K)) (by rfl) T.len_ PySem.boot_len (pa_cons (pv 0) pa_nil)) pe_int (nomark _)) (pw_or1 (pt_cmpR op_gt (pe_callB (call_lenU (P := P) (w := w) (K := K)) (by rfl) T.len_ PySem.boot_len (pa_cons (pv 0) pa_nil)) pe_int (nomark _))))) (pss_one (ps_ret (pe_un un_neg pe_int))) pss_nil)
  (pss_cons (ps_for PassesOwn.never rfl (pi_str (pv 0)) (pg_name (i := 2) sc_l_number.nd rfl (.inl rfl))
    (pss_one (ps_if (pt_cmpR op_notIn_sign (pv 2) pe_str (by rfl)) (pss_one (ps_ret (pe_un un_neg pe_int))) pss_nil)))
  (pss_cons (ps_if (PW.pt (pw_or (PW.pt (pw_and (pt_cmpR (op_eqU (K := K) hu40) (pe_ix ix_str (pv 0) pe_int (fun _ _ => rfl)) pe_str (nomark _)) (pw_and1 (pt_cmpR op_ne (pv 0) pe_str (nomark _))))) (pw_or1 (pt_cmpR (op_ltU (K := K) hu40) (pe_callTy call_int_str (by rfl) T.int_ (by decide +kernel) (pa_cons (pv 0) pa_nil)) (pv 1) (nomark _))))) (pss_one (ps_ret (pe_un un_neg pe_int))) pss_nil)
  (pss_one (ps_ret (pe_callTy call_int_str (by rfl) T.int_ (by decide +kernel) (pa_cons (pv 0) pa_nil))))))), ?_⟩
    rw [show L2.start N_l_number [V.str z, V.int least] = [some (V.str z), some (V.int least), none] from rfl]
    (try dsimp only [cxOf, Cx.nox, Cx.wish])
    have no : ¬ (1 ≤ z.length ∧ z.length ≤ 9 ∧ (∀ c ∈ cds z, 48 ≤ c ∧ c ≤ 57) ∧ ¬ ((cds z).head? = some 48 ∧ cds z ≠ [48])) → Q (.int (-1)) H := fun h => by
      have : leadO least (cds z) = -1 := by
        unfold leadO
        have : numO (cds z) = none := by
          unfold numO
          rw [if_neg]
          rw [len_cds] at h
          simp only [Bool.and_eq_true, decide_eq_true_eq, Bool.not_eq_true', Bool.and_eq_false_iff, decide_eq_false_iff_not, Bool.not_eq_false', digL_iff]
          rintro ⟨⟨⟨a, b⟩, c⟩, d⟩
          refine h ⟨a, b, c, ?_⟩
          rintro ⟨e1, e2⟩
          exact d.elim (fun w => w e1) (fun w => e2 w)
        rw [this]
      rw [this] at q
      exact q
    walk_at "h"
    refine rd_lenS (sz_le (by omega)) ?_
    walk_at "h"
    by_cases c1 : z.length < 1
    · rw [decide_eq_true (show (z.length : Int) < 1 by omega)]
      walk_at "h"
      exact no (by omega)
    rw [decide_eq_false (show ¬ (z.length : Int) < 1 by omega)]
    walk_at "h"
    refine rd_lenS (sz_le (by omega)) ?_
    walk_at "h"
    by_cases c2 : z.length ≤ 9
    case neg =>
      rw [decide_eq_true (show (9 : Int) < (z.length : Int) by omega)]
      walk_at "h"
      exact no (by omega)
    rw [decide_eq_false (show ¬ (9 : Int) < (z.length : Int) by omega)]
    walk_at "h"
    refine for_it walk_str (fun i σ H' => ∃ v1 : Option V, σ = [some (V.str z), some (V.int least), v1] ∧ H' = H ∧ ∀ c ∈ (cds z).take i, 48 ≤ c ∧ c ≤ 57) ⟨_, rfl, rfl, by simp⟩ (fun _ _ _ _ _ => True.intro) ?_ ?_
    · rintro i x σ H1 H2 hi ⟨v1, rfl, rfl, hc⟩ ⟨rfl, c, hcc, rfl⟩
      have hcc' : (cds z)[i]? = some c := by rw [← hcc]; exact Array.getElem?_toList
      have etk : (cds z).take (i + 1) = (cds z).take i ++ [c] := by rw [List.take_add_one, hcc']; rfl
      walk_at "h"
      refine ⟨c, _, rfl, rfl, ?_⟩
      by_cases d : 48 ≤ c ∧ c ≤ 57
      · rw [decide_eq_true ((dig_mem c).mpr d)]
        walk_at "h"
        refine ⟨_, rfl, rfl, fun y hy => ?_⟩
        rw [etk] at hy
        rcases List.mem_append.mp hy with w | w
        · exact hc y w
        · rw [List.mem_singleton.mp w]; exact d
      · rw [decide_eq_false (fun w => d ((dig_mem c).mp w))]
        walk_at "h"
        exact no fun w => d (w.2.2.1 c (List.mem_iff_getElem?.mpr ⟨i, hcc'⟩))
    rintro σ H1 ⟨v1, rfl, rfl, ad⟩
    rw [show z.cps.size = (cds z).length from Array.length_toList.symm, List.take_length] at ad
    have hlen : 0 < (cds z).length := by rw [← len_cds]; omega
    obtain ⟨c0, r0, ez⟩ : ∃ c0 r0, cds z = c0 :: r0 := by
      cases e : cds z with
      | nil => rw [e] at hlen; simp at hlen
      | cons c r => exact ⟨c, r, rfl⟩
    have e48 : (⟨#[c0]⟩ : Str) = "0" ↔ c0 = 48 := ⟨fun h => by
      have := congrArg cds h
      exact (List.cons.inj this).1, fun h => by rw [h]; rfl⟩
    have hz48 : z = "0" ↔ cds z = [48] := ⟨fun h => by rw [h]; rfl, fun h => by rw [← mk_cds z, h]; rfl⟩
    have last : ¬ ((cds z).head? = some 48 ∧ cds z ≠ [48]) → numO (cds z) = some (NumText.digitsVal (cds z)) := fun h => by
      unfold numO
      rw [if_pos]
      rw [len_cds] at c1 c2
      simp only [Bool.and_eq_true, decide_eq_true_eq, Bool.not_eq_true', Bool.and_eq_false_iff, decide_eq_false_iff_not, Bool.not_eq_false', digL_iff]
      refine ⟨⟨⟨by omega, c2⟩, ad⟩, ?_⟩
      by_cases g : (cds z).head? = some 48
      · exact .inr (Classical.byContradiction fun w => h ⟨g, w⟩)
      · exact .inl g
    have it := intText_digits (x := z) ad (by show cds z ≠ []; rw [ez]; simp) (by omega)
    walk_at "h"
    refine rd_ixs (sz_le (by omega)) (show atI z.cps.toList 0 = some c0 by rw [show z.cps.toList = c0 :: r0 from ez]; exact atI_nat (j := 0) rfl) ?_
    walk_at "h"
    by_cases c4 : c0 = 48
    case neg =>
      have hgood : ¬ ((cds z).head? = some 48 ∧ cds z ≠ [48]) := fun h => c4 (by rw [ez] at h; exact Option.some.inj h.1)
      rw [decide_eq_false (fun h => c4 (e48.mp h))]
      walk_at "h"
      refine ⟨z, _, rfl, it, by omega, ?_⟩
      walk_at "h"
      by_cases cl : ((NumText.digitsVal (cds z) : Nat) : Int) < least
      · rw [decide_eq_true (show ((NumText.digitsVal z.cps.toList : Nat) : Int) < least from cl)]
        walk_at "h"
        have : leadO least (cds z) = -1 := by unfold leadO; rw [last hgood]; exact if_pos cl
        rw [this] at q
        exact q
      · rw [decide_eq_false (show ¬ ((NumText.digitsVal z.cps.toList : Nat) : Int) < least from cl)]
        walk_at "h"
        refine ⟨z, _, rfl, it, by omega, ?_⟩
        have : leadO least (cds z) = ((NumText.digitsVal (cds z) : Nat) : Int) := by unfold leadO; rw [last hgood]; exact if_neg cl
        rw [this] at q
        exact q
    rw [decide_eq_true (e48.mpr c4)]
    walk_at "h"
    by_cases c5 : cds z = [48]
    case pos =>
      have hgood : ¬ ((cds z).head? = some 48 ∧ cds z ≠ [48]) := fun h => h.2 c5
      rw [decide_eq_true (hz48.mpr c5)]
      walk_at "h"
      refine ⟨z, _, rfl, it, by omega, ?_⟩
      walk_at "h"
      by_cases cl : ((NumText.digitsVal (cds z) : Nat) : Int) < least
      · rw [decide_eq_true (show ((NumText.digitsVal z.cps.toList : Nat) : Int) < least from cl)]
        walk_at "h"
        have : leadO least (cds z) = -1 := by unfold leadO; rw [last hgood]; exact if_pos cl
        rw [this] at q
        exact q
      · rw [decide_eq_false (show ¬ ((NumText.digitsVal z.cps.toList : Nat) : Int) < least from cl)]
        walk_at "h"
        refine ⟨z, _, rfl, it, by omega, ?_⟩
        have : leadO least (cds z) = ((NumText.digitsVal (cds z) : Nat) : Int) := by unfold leadO; rw [last hgood]; exact if_neg cl
        rw [this] at q
        exact q
    rw [decide_eq_false (fun h => c5 (hz48.mp h))]
    walk_at "h"
    exact no (fun h => h.2.2.2 ⟨by rw [ez, c4]; rfl, c5⟩)
end
end K94
namespace K94
open PySem PySem.Spec PyProof.Rows L2 HH TL
local macro_rules | `(tactic| walk_at "h1") => `(tactic| first
  | with_reducible refine rd_seq ?_ | with_reducible refine rd_asg ?_ | with_reducible refine rd_op ?_
  | ((with_reducible refine' rd_var ?hv ?_); (case hv => exact rfl)) | with_reducible refine rd_c ?_
  | ((with_reducible refine rd_name ?_); dsimp only [List.set_cons_zero, List.set_cons_succ])
  | with_reducible refine rd_I0 ?_ | ((with_reducible refine rd_pow ?_ ?_ ?_ ?_); (· decide); (· decide); (· decide)) | ((with_reducible refine rd_mod ?_ ?_); (· decide)) | ((with_reducible refine rd_mulR ?_ ?_ ?_); (· decide); (· decide)) | ((with_reducible refine rd_divW (n := 64) ?_ ?_ ?_ ?_ ?_); (· decide); (· decide); (· decide); (· decide)) | with_reducible refine rd_addI ?_ | with_reducible refine rd_eqI ?_ | with_reducible refine rd_eqS ?_ | with_reducible refine rd_eqB ?_ | with_reducible refine rd_ltI ?_
  | with_reducible refine rd_callS ?_ | with_reducible refine rd_xf ?_ | with_reducible refine rd_cons ?_ | with_reducible refine rd_nil ?_ | with_reducible refine rd_cb ?_ | with_reducible refine rd_call ?_
  | with_reducible refine rd_ifs ?_ | with_reducible refine rd_test ?_ | with_reducible refine rd_tB ?_ | with_reducible refine rd_blQ ?_ | with_reducible refine iteT ?_ | with_reducible refine iteF ?_ | with_reducible refine iteNotF ?_ | with_reducible refine iteNotT ?_
  | with_reducible refine rd_and ?_ | with_reducible refine rd_or ?_ | with_reducible refine rd_not ?_ | with_reducible refine rd_andV ?_ | with_reducible refine rd_orV ?_ | with_reducible refine rd_notV ?_ | with_reducible refine rd_if ?_
  | with_reducible refine rd_un ?_ | with_reducible refine rd_U ?_ | with_reducible refine rd_sub ?_ | with_reducible refine rd_tup ?_ | with_reducible refine rd_lst ?_
  | with_reducible refine rd_intI ?_ | with_reducible refine rd_absI ?_ | with_reducible refine rd_drop ?_ | with_reducible refine rd_ret ?_ | with_reducible refine rd_retN ?_ | with_reducible refine rd_next ?_ | with_reducible refine rd_bm ?_
  | with_reducible refine rd_tDGet2 ?_ | with_reducible refine rd_tDGet ?_ | with_reducible refine rd_sDPut ?_ | with_reducible refine rd_dnewK ?_ | with_reducible refine rd_nnew ?_ | with_reducible refine rd_nget ?_ | with_reducible refine rd_nget2 ?_ | with_reducible refine rd_npop ?_ | with_reducible refine rd_nput ?_ | with_reducible refine rd_dcn ?_ | with_reducible refine rd_gtup ?_ | with_reducible refine rd_gcons ?_ | with_reducible refine rd_gnil ?_ | with_reducible refine rd_lc ?_ | with_reducible refine rd_yes ?_ | with_reducible refine rd_for ?_ | with_reducible refine rd_iL ?_ | with_reducible refine rd_neS ?_ | with_reducible refine rd_neN ?_ | with_reducible refine rd_neB ?_ | with_reducible refine rd_chain ?_ | with_reducible refine rd_bm0 ?_ | with_reducible refine rd_dc ?_ | with_reducible refine rd_iN ?_ | with_reducible refine rd_iZ ?_ | with_reducible refine rd_ngetF ?_ | with_reducible refine rd_iT ?_ | with_reducible refine rd_iR1 ?_ | with_reducible refine rd_iS ?_ | with_reducible refine rd_leafS ?_ | with_reducible refine rd_sl ?_ | with_reducible refine rd_noPart ?_ | with_reducible refine rd_part ?_ | with_reducible refine rd_leafI ?_)
local macro_rules | `(tactic| walk_at "h") => `(tactic| repeat walk_at "h1")

local macro_rules | `(tactic| walk_at "h1") => `(tactic| first
  | with_reducible refine rd_m1 ?_ | with_reducible refine rd_isS ?_ | with_reducible refine rd_tupZ2 ?_)

section
variable {P : Program} {w : World} {K : PySem.W.Frag} {mg : Str → Option Value} {base : Heap}
theorem ok_lpairs {f : Addr} {fd : FuncData} (F : Fun K "_law_pairs_in" "_law_pairs_in" s_l_pairs_in f fd) (T : Bi mg) (G_l_is_name : Callee P w K mg base 1 "_law_is_name" ["_law_word_here"] spLName) (G_l_number : Callee P w K mg base 1 "_law_number" ["_law_word_here", "_law_least"] spLNum) : FnOk P w K mg base CX0 2 f fd ["_law_parts"] (spProdOf K) := by
  refine F.ok (k := 1) sc_l_pairs_in (fun vs H Q E h => ?_) (fun cdv A outer s H vs Q E hr h => ?_)
  · obtain ⟨l, ys, rfl, _⟩ := h
    rfl
  · obtain ⟨l, ys, rfl, hl, ly, ley, q, qn⟩ := h
    have hu := hu_of hr
    have hu20 := hu20_of hr
    have hu40 := hu40_of hr
    obtain ⟨f_l_is_name, fd_l_is_name, F_l_is_name, m_l_is_name, k_l_is_name, b_l_is_name⟩ := G_l_is_name; obtain ⟨f_l_number, fd_l_number, F_l_number, m_l_number, k_l_number, b_l_number⟩ := G_l_number
    refine ⟨_, (pss_cons (ps_set (i := 1) sc_l_pairs_in.nd rfl (.inl rfl) (pe_lst pa_nil))
  (pss_cons (ps_set (i := 2) sc_l_pairs_in.nd rfl (.inl rfl) pe_str)
  (pss_cons (ps_for PassesOwn.never rfl (pi_list (pv 0)) (pg_name (i := 3) sc_l_pairs_in.nd rfl (.inl rfl))
    (pss_cons (ps_set (i := 4) sc_l_pairs_in.nd rfl (.inl rfl) (pe_split (pv 3) pe_str))
  (pss_cons (ps_set (i := 5) sc_l_pairs_in.nd rfl (.inl rfl) pe_int)
  (pss_cons (ps_if (PW.pt (pw_or (pt_cmpR op_gt (pe_callB (call_lenU (P := P) (w := w) (K := K)) (by rfl) T.len_ PySem.boot_len (pa_cons (pv 4) pa_nil)) pe_int (nomark _)) (pw_or (pt_not (pt_val (pe_call F_l_is_name (hr.mono (by decide)) (by rfl) m_l_is_name k_l_is_name b_l_is_name .nil pass0 (pa_cons (pe_ix (ix_listK (K := K)) (pv 4) pe_int (fun _ _ => rfl)) pa_nil)))) (pw_or1 (pt_cmpR op_le_str (pe_ix (ix_listK (K := K)) (pv 4) pe_int (fun _ _ => rfl)) (pv 2) (nomark _)))))) (pss_one (ps_ret pe_non)) pss_nil)
  (C8.pss_cut (ps_if (pt_cmpR (op_eqU (K := K) hu40) (pe_callB (call_lenU (P := P) (w := w) (K := K)) (by rfl) T.len_ PySem.boot_len (pa_cons (pv 4) pa_nil)) pe_int (nomark _)) (pss_one (ps_set (i := 5) sc_l_pairs_in.nd rfl (.inl rfl) (pe_call F_l_number (hr.mono (by decide)) (by rfl) m_l_number k_l_number b_l_number .nil pass0 (pa_cons (pe_ix (ix_listK (K := K)) (pv 4) pe_int (fun _ _ => rfl)) (pa_cons pe_int pa_nil))))) pss_nil)
  (pss_cons (ps_if (pt_cmpR (op_ltU (K := K) hu40) (pv 5) pe_int (nomark _)) (pss_one (ps_ret pe_non)) pss_nil)
  (pss_cons (ps_set (i := 2) sc_l_pairs_in.nd rfl (.inl rfl) (pe_ix (ix_listK (K := K)) (pv 4) pe_int (fun _ _ => rfl)))
  (pss_one (ps_expr (pe_bm PySem.F.plainAttrs_list PySem.F.slot_list_append PySem.F.type_list_append mt_append (pv 1) (pa_cons (pe_tup (pa_cons (pv 2) (pa_cons (pv 5) pa_nil))) pa_nil)))))))))))
  (pss_one (ps_ret (pe_callTy (call_tupC (K := K)) (by rfl) T.tuple_ (by decide +kernel) (pa_cons (pv 1) pa_nil))))))), ?_⟩
    rw [show L2.start N_l_pairs_in [V.ref l] = [some (V.ref l), none, none, none, none, none] from rfl]
    (try dsimp only [cxOf, Cx.nox, Cx.wish])
    walk_at "h"
    refine ⟨sz_le (by simp only [List.length_nil]; omega), fun lf nlf => ?_⟩
    have s0 : Same H (upd H lf (.lst [])) := same_new nlf
    have hlf0 : (upd H lf (.lst [])) lf = some (.lst []) := upd_same
    generalize upd H lf (.lst []) = H0 at s0 hlf0
    walk_at "h"
    refine rd_leafL (sql (s0 _ _ hl)) ?_
    refine for_list (xs := ys.map V.str) (fun i σ H' => ∃ (qs : Tab) (vs : List V) (last : Str) (v3 v4 v5 : Option V), σ = [some (V.ref l), some (V.ref lf), some (V.str last), v3, v4, v5] ∧ ((ys.map cds).take i).map pairS = qs.map some ∧ (qs.map fun q => cds q.1).Pairwise (· < ·) ∧ ((qs = [] ∧ last = "") ∨ ∃ r q, qs = r ++ [q] ∧ last = q.1) ∧ H' lf = some (.lst vs) ∧ IsOs K H' (qs.map some) vs ∧ Same H H') ⟨[], [], "", _, _, _, rfl, rfl, by simp, .inl ⟨rfl, rfl⟩, hlf0, rfl, s0⟩ (fun i σ H' _ ⟨_, _, _, _, _, _, _, _, _, _, _, _, s⟩ => sql (s _ _ hl)) ?_ ?_
    · clear hlf0 s0
      rintro i x σ H1 hx ⟨qs, vs, last, v3, v4, v5, rfl, em, pw, hlast, hlf, ho, s1⟩
      have hi : i < ys.length := by have := (List.getElem?_eq_some_iff.mp hx).1; rwa [List.length_map] at this
      rw [List.getElem?_map, List.getElem?_eq_getElem hi] at hx
      obtain rfl := Option.some.inj hx
      have hi2 : i < (ys.map cds).length := by rw [List.length_map]; exact hi
      have eyi : (ys.map cds)[i] = cds ys[i] := List.getElem_map _
      have lyi := ley _ (List.getElem_mem hi)
      have myi : cds ys[i] ∈ ys.map cds := List.mem_map_of_mem (List.getElem_mem hi)
      have lvs := ho.len
      have lqs : qs.length = i := by
        have := congrArg List.length em
        simp only [List.length_map, List.length_take] at this
        omega
      rw [List.length_map, lqs] at lvs
      have etk : ((ys.map cds).take (i + 1)).map pairS = qs.map some ++ [pairS (cds ys[i])] := by
        rw [take_succ hi2, List.map_append, em, eyi]; rfl
      have hord : ∀ q2 : Str × Int, pairS (cds ys[i]) = some q2 → ¬ cds last < cds q2.1 → pairsS (ys.map cds) = none := fun q2 h2 h3 => by
        rcases hlast with ⟨rfl, rfl⟩ | ⟨r, q0, rfl, rfl⟩
        · exfalso
          refine h3 ?_
          have := (isNmL_iff.mp (pairS_inv h2).1).1
          show ([] : List Nat) < cds q2.1
          cases e : cds q2.1 with
          | nil => rw [e] at this; simp at this
          | cons c t => exact List.nil_lt_cons c t
        · exact pairsS_order hi2 em (by rw [eyi]; exact h2) h3
      have hgood : ∀ q2 : Str × Int, pairS (cds ys[i]) = some q2 → cds last < cds q2.1 → ((qs ++ [q2]).map fun q => cds q.1).Pairwise (· < ·) := fun q2 h2 h3 => by
        rw [List.map_append, List.pairwise_append]
        refine ⟨pw, by simp, fun a ha b hb => ?_⟩
        rw [List.map_singleton, List.mem_singleton] at hb
        rw [hb]
        rcases hlast with ⟨rfl, rfl⟩ | ⟨r, q0, rfl, rfl⟩
        · simp at ha
        · rw [List.map_append, List.mem_append] at ha
          rcases ha with ha | ha
          · rw [List.map_append, List.pairwise_append] at pw
            exact List.lt_trans (pw.2.2 a ha _ (by simp)) h3
          · rw [List.map_singleton, List.mem_singleton] at ha
            rw [ha]; exact h3
      generalize ys[i] = y at lyi myi etk hord hgood
      have es := split_sp1 y "^" 94 rfl (by decide)
      have ep := pairS_pieces (cds y)
      rw [← es] at ep
      have lsp : (Txt.split y "^").length ≤ y.length + 1 := by
        have := congrArg List.length es
        rw [List.length_map] at this
        rw [this, len_cds]
        exact sp1_len 94 _
      have lme : ∀ x ∈ Txt.split y "^", x.length ≤ 100000 := fun x hx => by
        have : cds x ∈ sp1 94 (cds y) := by rw [← es]; exact List.mem_map_of_mem hx
        have := sp1_mem_len 94 _ _ this
        rw [len_cds] at lyi ⊢
        omega
      have nsp : Txt.split y "^" ≠ [] := by
        obtain ⟨p, ps, e⟩ := sp1_ne 94 (cds y)
        intro w
        rw [w, e] at es
        cases es
      walk_at "h"
      refine ⟨y, _, rfl, rfl, by decide, sz_le (by omega), fun pc npc => ?_⟩
      have s2 : Same H1 (upd H1 pc (.lst ((Txt.split y "^").map V.str))) := same_new npc
      have hpc : (upd H1 pc (.lst ((Txt.split y "^").map V.str))) pc = some (.lst ((Txt.split y "^").map V.str)) := upd_same
      generalize upd H1 pc (.lst ((Txt.split y "^").map V.str)) = H2 at s2 hpc
      generalize Txt.split y "^" = pcs at ep lsp lme nsp hpc
      have hlf2 := s2 _ _ hlf
      have ho2 := ho.keep (same_tup s2)
      have s12 := s1.trans s2
      walk_at "h"
      refine rd_lenL (sql hpc) ?_
      walk_at "h"
      rw [List.length_map]
      obtain ⟨a, rest, rfl⟩ : ∃ a rest, pcs = a :: rest := by
        cases pcs with
        | nil => exact absurd rfl nsp
        | cons a r => exact ⟨a, r, rfl⟩
      have la := lme a List.mem_cons_self
      by_cases c1 : (2 : Int) < ((a :: rest).length : Int)
      · rw [decide_eq_true c1]
        walk_at "h"
        refine qn (pairsS_no myi ?_) H2 s12
        rw [ep]
        cases rest with
        | nil => simp at c1
        | cons b r2 => cases r2 with
          | nil => simp at c1
          | cons _ _ => rfl
      rw [decide_eq_false c1]
      walk_at "h"
      refine rd_ixl (sql hpc) (atI_nat (j := 0) rfl) ?_
      walk_at "h"
      refine ⟨a, rfl, la, ?_⟩
      walk_at "h"
      have hrest : rest = [] ∨ ∃ b, rest = [b] := by
        cases rest with
        | nil => exact .inl rfl
        | cons b r2 => cases r2 with
          | nil => exact .inr ⟨b, rfl⟩
          | cons _ _ => exfalso; apply c1; simp only [List.length_cons]; omega
      cases en : isNmL (cds a) with
      | false =>
        rw [show (!false) = true from rfl]
        walk_at "h"
        refine qn (pairsS_no myi ?_) H2 s12
        rw [ep]
        rcases hrest with rfl | ⟨b, rfl⟩
        · show (if isNmL (cds a) = true then _ else _) = _
          rw [en]; rfl
        · show (if isNmL (cds a) = true then _ else _) = _
          rw [en]; rfl
      | true =>
      rw [show (!true) = false from rfl]
      walk_at "h"
      refine rd_ixl (sql hpc) (atI_nat (j := 0) rfl) ?_
      walk_at "h"
      refine ⟨_, _, rfl, rfl, ?_⟩
      rw [show (!decide (last.cps.toList < a.cps.toList)) = !decide (cds last < cds a) from rfl]
      have hpw : ∃ pw : Int, pairS (cds y) = if pw < 0 then none else some (a, pw) := by
        rcases hrest with rfl | ⟨b, rfl⟩
        · refine ⟨1, ep.trans ?_⟩
          show (if isNmL (cds a) = true then some (mkS (cds a), 1) else none) = _
          rw [en, mk_cds]; rfl
        · refine ⟨leadO 2 (cds b), ep.trans ?_⟩
          show (if isNmL (cds a) = true then (if leadO 2 (cds b) < 0 then none else some (mkS (cds a), leadO 2 (cds b))) else none) = _
          rw [en, mk_cds]; rfl
      by_cases c3 : cds last < cds a
      case neg =>
        rw [decide_eq_false c3]
        walk_at "h"
        obtain ⟨pw', e1⟩ := hpw
        by_cases c4 : pw' < 0
        · rw [if_pos c4] at e1
          exact qn (pairsS_no myi e1) H2 s12
        · rw [if_neg c4] at e1
          exact qn (hord _ e1 c3) H2 s12
      rw [decide_eq_true c3]
      walk_at "h"
      refine rd_cut (fun σ' H' => ∃ pw' : Int, σ' = [some (V.ref l), some (V.ref lf), some (V.str last), some (V.str y), some (V.ref pc), some (V.int pw')] ∧ H' = H2 ∧ pairS (cds y) = if pw' < 0 then none else some (a, pw')) ?_ ?_
      · clear hpw
        walk_at "h"
        refine rd_lenL (sql hpc) ?_
        walk_at "h"
        rw [List.length_map]
        rcases hrest with rfl | ⟨b, rfl⟩
        · rw [show decide ((([a] : List Str).length : Int) = 2) = false from rfl]
          walk_at "h"
          refine ⟨1, rfl, rfl, ep.trans ?_⟩
          show (if isNmL (cds a) = true then some (mkS (cds a), 1) else none) = _
          rw [en, mk_cds]; rfl
        · rw [show decide ((([a, b] : List Str).length : Int) = 2) = true from rfl]
          walk_at "h"
          refine rd_ixl (sql hpc) (atI_nat (j := 1) rfl) ?_
          walk_at "h"
          refine ⟨b, 2, rfl, lme b (by simp), ?_⟩
          walk_at "h"
          refine ⟨_, rfl, rfl, ep.trans ?_⟩
          show (if isNmL (cds a) = true then (if leadO 2 (cds b) < 0 then none else some (mkS (cds a), leadO 2 (cds b))) else none) = _
          rw [en, mk_cds]; rfl
      clear hpw
      rintro σ' H3 ⟨pw', rfl, rfl, e1⟩
      walk_at "h"
      by_cases c4 : pw' < 0
      · rw [decide_eq_true c4]
        rw [if_pos c4] at e1
        walk_at "h"
        exact qn (pairsS_no myi e1) H3 s12
      rw [decide_eq_false c4]
      rw [if_neg c4] at e1
      walk_at "h"
      refine rd_ixl (sql hpc) (atI_nat (j := 0) rfl) ?_
      walk_at "h"
      refine ⟨.inl ⟨rfl, _, sql hlf2⟩, ?_⟩
      walk_at "h"
      refine ⟨sz_le (by simp only [List.length_cons, List.length_nil]; omega), fun u nu => ?_⟩
      have s3 : Same H3 (upd H3 u (.tup [V.str a, V.int pw'])) := same_new nu
      have hu3 : (upd H3 u (.tup [V.str a, V.int pw'])) u = some (.tup [V.str a, V.int pw']) := upd_same
      generalize upd H3 u (.tup [V.str a, V.int pw']) = H4 at s3 hu3
      walk_at "h"
      refine rd_app (s3 _ _ hlf2) (sz_lt (by omega)) ?_
      walk_at "h"
      have tp : Tup K H4 (upd H4 lf (.lst (vs ++ [V.ref u]))) := tup_upd (s3 _ _ hlf2) (fun _ z => nomatch z) (fun _ _ z => nomatch z)
      have ho4 : IsOs K (upd H4 lf (.lst (vs ++ [V.ref u]))) [some (a, pw')] [V.ref u] := ⟨_, [], rfl, ⟨u, rfl, tp _ _ (sqt hu3)⟩, rfl⟩
      refine ⟨qs ++ [(a, pw')], vs ++ [V.ref u], a, _, _, _, rfl, ?_, hgood _ e1 c3, .inr ⟨qs, (a, pw'), rfl, rfl⟩, upd_same, ?_, same_mut (s12.trans s3) nlf⟩
      · rw [etk, e1, List.map_append]; rfl
      · rw [List.map_append]
        exact IsOs.app ho4 (ho2.keep ((same_tup s3).trans tp))
    · rintro σ H1 ⟨qs, vs, last, v3, v4, v5, rfl, em, pw, hlast, hlf, ho, s1⟩
      rw [List.length_map, show (ys.map cds).take ys.length = ys.map cds from List.take_of_length_le (by rw [List.length_map]; exact Nat.le_refl _)] at em
      walk_at "h"
      refine rd_tupL (sql hlf) fun t nt => ?_
      exact q qs (pairsS_of em pw) t _ (s1.trans (same_new nt)) ⟨t, vs, rfl, sqt upd_same, IsKs.keep (tup_new nt) _ _ (isOs_ks ho)⟩
end
end K94
namespace K94
open PySem PySem.Spec PyProof.Rows L2 HH TL
local macro_rules | `(tactic| walk_at "h1") => `(tactic| first
  | with_reducible refine rd_seq ?_ | with_reducible refine rd_asg ?_ | with_reducible refine rd_op ?_
  | ((with_reducible refine' rd_var ?hv ?_); (case hv => exact rfl)) | with_reducible refine rd_c ?_
  | ((with_reducible refine rd_name ?_); dsimp only [List.set_cons_zero, List.set_cons_succ])
  | with_reducible refine rd_I0 ?_ | ((with_reducible refine rd_pow ?_ ?_ ?_ ?_); (· decide); (· decide); (· decide)) | ((with_reducible refine rd_mod ?_ ?_); (· decide)) | ((with_reducible refine rd_mulR ?_ ?_ ?_); (· decide); (· decide)) | ((with_reducible refine rd_divW (n := 64) ?_ ?_ ?_ ?_ ?_); (· decide); (· decide); (· decide); (· decide)) | with_reducible refine rd_addI ?_ | with_reducible refine rd_eqI ?_ | with_reducible refine rd_eqS ?_ | with_reducible refine rd_eqB ?_ | with_reducible refine rd_ltI ?_
  | with_reducible refine rd_callS ?_ | with_reducible refine rd_xf ?_ | with_reducible refine rd_cons ?_ | with_reducible refine rd_nil ?_ | with_reducible refine rd_cb ?_ | with_reducible refine rd_call ?_
  | with_reducible refine rd_ifs ?_ | with_reducible refine rd_test ?_ | with_reducible refine rd_tB ?_ | with_reducible refine rd_blQ ?_ | with_reducible refine iteT ?_ | with_reducible refine iteF ?_ | with_reducible refine iteNotF ?_ | with_reducible refine iteNotT ?_
  | with_reducible refine rd_and ?_ | with_reducible refine rd_or ?_ | with_reducible refine rd_not ?_ | with_reducible refine rd_andV ?_ | with_reducible refine rd_orV ?_ | with_reducible refine rd_notV ?_ | with_reducible refine rd_if ?_
  | with_reducible refine rd_un ?_ | with_reducible refine rd_U ?_ | with_reducible refine rd_sub ?_ | with_reducible refine rd_tup ?_ | with_reducible refine rd_lst ?_
  | with_reducible refine rd_intI ?_ | with_reducible refine rd_absI ?_ | with_reducible refine rd_drop ?_ | with_reducible refine rd_ret ?_ | with_reducible refine rd_retN ?_ | with_reducible refine rd_next ?_ | with_reducible refine rd_bm ?_
  | with_reducible refine rd_tDGet2 ?_ | with_reducible refine rd_tDGet ?_ | with_reducible refine rd_sDPut ?_ | with_reducible refine rd_dnewK ?_ | with_reducible refine rd_nnew ?_ | with_reducible refine rd_nget ?_ | with_reducible refine rd_nget2 ?_ | with_reducible refine rd_npop ?_ | with_reducible refine rd_nput ?_ | with_reducible refine rd_dcn ?_ | with_reducible refine rd_gtup ?_ | with_reducible refine rd_gcons ?_ | with_reducible refine rd_gnil ?_ | with_reducible refine rd_lc ?_ | with_reducible refine rd_yes ?_ | with_reducible refine rd_for ?_ | with_reducible refine rd_iL ?_ | with_reducible refine rd_neS ?_ | with_reducible refine rd_neN ?_ | with_reducible refine rd_neB ?_ | with_reducible refine rd_chain ?_ | with_reducible refine rd_bm0 ?_ | with_reducible refine rd_dc ?_ | with_reducible refine rd_iN ?_ | with_reducible refine rd_iZ ?_ | with_reducible refine rd_ngetF ?_ | with_reducible refine rd_iT ?_ | with_reducible refine rd_iR1 ?_ | with_reducible refine rd_iS ?_ | with_reducible refine rd_leafS ?_ | with_reducible refine rd_sl ?_ | with_reducible refine rd_noPart ?_ | with_reducible refine rd_part ?_ | with_reducible refine rd_leafI ?_)
local macro_rules | `(tactic| walk_at "h") => `(tactic| repeat walk_at "h1")

local macro_rules | `(tactic| walk_at "h1") => `(tactic| first
  | with_reducible refine rd_m1 ?_ | with_reducible refine rd_isS ?_ | with_reducible refine rd_tupZ2 ?_)

section
variable {P : Program} {w : World} {K : PySem.W.Frag} {mg : Str → Option Value} {base : Heap}
theorem ok_lterm {f : Addr} {fd : FuncData} (F : Fun K "_law_term_in" "_law_term_in" s_l_term_in f fd) (T : Bi mg) (G_l_number : Callee P w K mg base 1 "_law_number" ["_law_word_here", "_law_least"] spLNum) (G_l_pairs_in : Callee P w K mg base 2 "_law_pairs_in" ["_law_parts"] (spProdOf K)) : FnOk P w K mg base CX0 3 f fd ["_law_text"] (spLTerm K) := by
  refine F.ok (k := 2) sc_l_term_in (fun vs H Q E h => ?_) (fun cdv A outer s H vs Q E hr h => ?_)
  · obtain ⟨z, rfl, _⟩ := h
    rfl
  · obtain ⟨z, rfl, lz, q, qn⟩ := h
    have hu := hu_of hr
    have hu20 := hu20_of hr
    have hu40 := hu40_of hr
    obtain ⟨f_l_number, fd_l_number, F_l_number, m_l_number, k_l_number, b_l_number⟩ := G_l_number; obtain ⟨f_l_pairs_in, fd_l_pairs_in, F_l_pairs_in, m_l_pairs_in, k_l_pairs_in, b_l_pairs_in⟩ := G_l_pairs_in
    refine ⟨_, (pss_cons (ps_set (i := 1) sc_l_term_in.nd rfl (.inl rfl) (pe_split (pv 0) pe_str))
  (pss_cons (ps_set (i := 2) sc_l_term_in.nd rfl (.inl rfl) (pe_call F_l_number (hr.mono (by decide)) (by rfl) m_l_number k_l_number b_l_number .nil pass0 (pa_cons (pe_ix (ix_listK (K := K)) (pv 1) pe_int (fun _ _ => rfl)) (pa_cons pe_int pa_nil))))
  (pss_cons (ps_if (PW.pt (pw_and (pt_cmpR op_gt (pv 2) pe_int (nomark _)) (pw_and1 (pt_cmpR (op_eqU (K := K) hu40) (pe_callB (call_lenU (P := P) (w := w) (K := K)) (by rfl) T.len_ PySem.boot_len (pa_cons (pv 1) pa_nil)) pe_int (nomark _))))) (pss_one (ps_ret (pe_tup (pa_cons (pv 2) (pa_cons (pe_tup pa_nil) pa_nil))))) pss_nil)
  (pss_cons (ps_if (pt_cmpR (op_eqU (K := K) hu40) (pv 2) pe_int (nomark _)) (pss_one (ps_ret pe_non)) pss_nil)
  (C8.pss_cut (ps_if (pt_cmpR op_gt (pv 2) pe_int (nomark _)) (pss_one (ps_set (i := 3) sc_l_term_in.nd rfl (.inl rfl) (pe_call F_l_pairs_in (hr.mono (by decide)) (by rfl) m_l_pairs_in k_l_pairs_in b_l_pairs_in .nil pass0 (pa_cons (pe_slice (sl_listK (K := K)) (pv 1) (po_some pe_int) po_none) pa_nil)))) (pss_cons (ps_set (i := 2) sc_l_term_in.nd rfl (.inl rfl) pe_int)
  (pss_one (ps_set (i := 3) sc_l_term_in.nd rfl (.inl rfl) (pe_call F_l_pairs_in (hr.mono (by decide)) (by rfl) m_l_pairs_in k_l_pairs_in b_l_pairs_in .nil pass0 (pa_cons (pv 1) pa_nil))))))
  (pss_cons (ps_if (pt_cmpR op_isN1 (pv 3) pe_non (nomark _)) (pss_one (ps_ret pe_non)) pss_nil)
  (pss_one (ps_ret (pe_tup (pa_cons (pv 2) (pa_cons (pv 3) pa_nil))))))))))), ?_⟩
    rw [show L2.start N_l_term_in [V.str z] = [some (V.str z), none, none, none] from rfl]
    (try dsimp only [cxOf, Cx.nox, Cx.wish])
    have es := split_sp1 z "*" 42 rfl (by decide)
    have lsp : (Txt.split z "*").length ≤ z.length + 1 := by
      have := congrArg List.length es
      rw [List.length_map] at this
      rw [this, len_cds]
      exact sp1_len 42 _
    have lme : ∀ x ∈ Txt.split z "*", x.length ≤ 100000 := fun x hx => by
      have : cds x ∈ sp1 42 (cds z) := by rw [← es]; exact List.mem_map_of_mem hx
      have := sp1_mem_len 42 _ _ this
      rw [len_cds] at lz ⊢
      omega
    obtain ⟨p0, r0, ep⟩ : ∃ p0 r0, Txt.split z "*" = p0 :: r0 := by
      obtain ⟨p, ps, e⟩ := sp1_ne 42 (cds z)
      cases h : Txt.split z "*" with
      | nil => rw [h, e] at es; cases es
      | cons a b => exact ⟨a, b, rfl⟩
    have et : termS (cds z) = if 0 < leadS (cds p0) ∧ r0.map cds = [] then some (leadS (cds p0), []) else if leadS (cds p0) = 1 then none else if 0 < leadS (cds p0) then (pairsS (r0.map cds)).map fun q => (leadS (cds p0), q) else (pairsS ((p0 :: r0).map cds)).map fun q => (1, q) := by
      unfold termS
      rw [← es, ep]
      rfl
    walk_at "h"
    refine ⟨z, _, rfl, rfl, by decide, sz_le (by omega), fun pc npc => ?_⟩
    rw [ep] at lsp lme ⊢
    have s1 : Same H (upd H pc (.lst ((p0 :: r0).map V.str))) := same_new npc
    have hpc : (upd H pc (.lst ((p0 :: r0).map V.str))) pc = some (.lst ((p0 :: r0).map V.str)) := upd_same
    generalize upd H pc (.lst ((p0 :: r0).map V.str)) = H1 at s1 hpc
    have lp0 := lme p0 List.mem_cons_self
    walk_at "h"
    refine rd_ixl (sql hpc) (atI_nat (j := 0) rfl) ?_
    walk_at "h"
    refine ⟨p0, 1, rfl, lp0, ?_⟩
    rw [leadO_one]
    walk_at "h"
    generalize leadS (cds p0) = ld at et
    have hres : ∀ (c : Int) (H3 : Hp), Same H H3 → (∀ ps : Tab, termS (cds z) = some (c, ps) → ∀ t H4, Same H3 H4 → IsK K H4 (prodK ps) (.ref t) → ∀ u, H4 u = none → Q (.ref u) (upd H4 u (.tup [V.int c, V.ref t]))) := fun c H3 s3 ps e t H4 s4 kt u nu =>
      q c ps e u t _ ((s3.trans s4).trans (same_new nu)) (sqt upd_same) (kt.keep (tup_new nu))
    have part : ∀ (c0 : 0 < ld), ∃ x, x = 1 ∧ True := fun _ => ⟨1, rfl, trivial⟩
    by_cases c1 : 0 < ld
    · rw [decide_eq_true c1]
      walk_at "h"
      refine rd_lenL (sql hpc) ?_
      walk_at "h"
      rw [List.length_map]
      by_cases c2 : r0 = []
      · subst c2
        rw [show decide ((([p0] : List Str).length : Int) = 1) = true from rfl]
        walk_at "h"
        refine ⟨sz_le (by simp only [List.length_nil]; omega), fun t nt => ?_⟩
        have s2 : Same H1 (upd H1 t (.tup [])) := same_new nt
        have kt : IsK K (upd H1 t (.tup [])) (prodK []) (.ref t) := ⟨t, [], rfl, sqt upd_same, rfl⟩
        generalize upd H1 t (.tup []) = H2 at s2 kt
        walk_at "h"
        refine ⟨sz_le (by simp only [List.length_cons, List.length_nil]; omega), fun u nu => ?_⟩
        exact hres ld H1 s1 [] (by rw [et, if_pos ⟨c1, rfl⟩]) t H2 s2 kt u nu
      have hr0 : ¬ (((p0 :: r0).length : Nat) : Int) = 1 := by
        cases r0 with
        | nil => exact absurd rfl c2
        | cons a b => simp only [List.length_cons]; omega
      have hr1 : ¬ (0 < ld ∧ r0.map cds = []) := fun h => c2 (List.map_eq_nil_iff.mp h.2)
      rw [if_neg hr1] at et
      rw [decide_eq_false hr0]
      walk_at "h"
      by_cases c3 : ld = 1
      · rw [decide_eq_true c3]
        walk_at "h"
        exact qn (by rw [et, if_pos c3]) H1 s1
      rw [decide_eq_false c3]
      rw [if_neg c3, if_pos c1] at et
      walk_at "h"
      refine rd_cut (fun σ' H' => (∃ (ps : Tab) (t : Addr), pairsS (r0.map cds) = some ps ∧ σ' = [some (V.str z), some (V.ref pc), some (V.int ld), some (V.ref t)] ∧ IsK K H' (prodK ps) (.ref t) ∧ Same H H') ∨ (pairsS (r0.map cds) = none ∧ σ' = [some (V.str z), some (V.ref pc), some (V.int ld), some V.non] ∧ Same H H')) ?_ ?_
      · walk_at "h"
        rw [decide_eq_true c1]
        walk_at "h"
        refine rd_slL (sql hpc) fun sl nsl => ?_
        have ecut : cutV ((p0 :: r0).map V.str) (some 1) none = r0.map V.str := by
          rw [List.map_cons, cut_from1]
        rw [ecut]
        have s2 : Same H1 (upd H1 sl (.lst (r0.map V.str))) := same_new nsl
        walk_at "h"
        refine ⟨sl, r0, rfl, upd_same, by simp only [List.length_cons] at lsp; omega, fun x hx => lme x (List.mem_cons_of_mem _ hx), fun ps e t H4 s4 kt => ?_, fun e H4 s4 => ?_⟩
        · walk_at "h"
          exact .inl ⟨ps, t, e, rfl, kt, (s1.trans s2).trans s4⟩
        · walk_at "h"
          exact .inr ⟨e, rfl, (s1.trans s2).trans s4⟩
      rintro σ' H3 (⟨ps, t, e, rfl, kt, s3⟩ | ⟨e, rfl, s3⟩)
      · walk_at "h"
        refine rd_isNr ?_
        walk_at "h"
        refine ⟨sz_le (by simp only [List.length_cons, List.length_nil]; omega), fun u nu => ?_⟩
        exact hres ld H3 s3 ps (by rw [et, e]; rfl) t H3 (fun _ _ h => h) kt u nu
      · walk_at "h"
        refine rd_isNt ?_
        walk_at "h"
        exact qn (by rw [et, e]; rfl) H3 s3
    rw [if_neg (fun h => c1 h.1), if_neg (by omega), if_neg c1] at et
    rw [decide_eq_false c1]
    walk_at "h"
    rw [decide_eq_false (show ¬ ld = 1 by omega)]
    walk_at "h"
    refine rd_cut (fun σ' H' => (∃ (ps : Tab) (t : Addr), pairsS ((p0 :: r0).map cds) = some ps ∧ σ' = [some (V.str z), some (V.ref pc), some (V.int 1), some (V.ref t)] ∧ IsK K H' (prodK ps) (.ref t) ∧ Same H H') ∨ (pairsS ((p0 :: r0).map cds) = none ∧ σ' = [some (V.str z), some (V.ref pc), some (V.int 1), some V.non] ∧ Same H H')) ?_ ?_
    · walk_at "h"
      rw [decide_eq_false c1]
      walk_at "h"
      refine ⟨pc, p0 :: r0, rfl, hpc, by simp only [List.length_cons] at lsp ⊢; omega, lme, fun ps e t H4 s4 kt => ?_, fun e H4 s4 => ?_⟩
      · walk_at "h"
        exact .inl ⟨ps, t, e, rfl, kt, s1.trans s4⟩
      · walk_at "h"
        exact .inr ⟨e, rfl, s1.trans s4⟩
    rintro σ' H3 (⟨ps, t, e, rfl, kt, s3⟩ | ⟨e, rfl, s3⟩)
    · walk_at "h"
      refine rd_isNr ?_
      walk_at "h"
      refine ⟨sz_le (by simp only [List.length_cons, List.length_nil]; omega), fun u nu => ?_⟩
      exact hres 1 H3 s3 ps (by rw [et, e]; rfl) t H3 (fun _ _ h => h) kt u nu
    · walk_at "h"
      refine rd_isNt ?_
      walk_at "h"
      exact qn (by rw [et, e]; rfl) H3 s3
end
end K94
namespace K94
open PySem PySem.Spec PyProof.Rows L2 HH TL
local macro_rules | `(tactic| walk_at "h1") => `(tactic| first
  | with_reducible refine rd_seq ?_ | with_reducible refine rd_asg ?_ | with_reducible refine rd_op ?_
  | ((with_reducible refine' rd_var ?hv ?_); (case hv => exact rfl)) | with_reducible refine rd_c ?_
  | ((with_reducible refine rd_name ?_); dsimp only [List.set_cons_zero, List.set_cons_succ])
  | with_reducible refine rd_I0 ?_ | ((with_reducible refine rd_pow ?_ ?_ ?_ ?_); (· decide); (· decide); (· decide)) | ((with_reducible refine rd_mod ?_ ?_); (· decide)) | ((with_reducible refine rd_mulR ?_ ?_ ?_); (· decide); (· decide)) | ((with_reducible refine rd_divW (n := 64) ?_ ?_ ?_ ?_ ?_); (· decide); (· decide); (· decide); (· decide)) | with_reducible refine rd_addI ?_ | with_reducible refine rd_eqI ?_ | with_reducible refine rd_eqS ?_ | with_reducible refine rd_eqB ?_ | with_reducible refine rd_ltI ?_
  | with_reducible refine rd_callS ?_ | with_reducible refine rd_xf ?_ | with_reducible refine rd_cons ?_ | with_reducible refine rd_nil ?_ | with_reducible refine rd_cb ?_ | with_reducible refine rd_call ?_
  | with_reducible refine rd_ifs ?_ | with_reducible refine rd_test ?_ | with_reducible refine rd_tB ?_ | with_reducible refine rd_blQ ?_ | with_reducible refine iteT ?_ | with_reducible refine iteF ?_ | with_reducible refine iteNotF ?_ | with_reducible refine iteNotT ?_
  | with_reducible refine rd_and ?_ | with_reducible refine rd_or ?_ | with_reducible refine rd_not ?_ | with_reducible refine rd_andV ?_ | with_reducible refine rd_orV ?_ | with_reducible refine rd_notV ?_ | with_reducible refine rd_if ?_
  | with_reducible refine rd_un ?_ | with_reducible refine rd_U ?_ | with_reducible refine rd_sub ?_ | with_reducible refine rd_tup ?_ | with_reducible refine rd_lst ?_
  | with_reducible refine rd_intI ?_ | with_reducible refine rd_absI ?_ | with_reducible refine rd_drop ?_ | with_reducible refine rd_ret ?_ | with_reducible refine rd_retN ?_ | with_reducible refine rd_next ?_ | with_reducible refine rd_bm ?_
  | with_reducible refine rd_tDGet2 ?_ | with_reducible refine rd_tDGet ?_ | with_reducible refine rd_sDPut ?_ | with_reducible refine rd_dnewK ?_ | with_reducible refine rd_nnew ?_ | with_reducible refine rd_nget ?_ | with_reducible refine rd_nget2 ?_ | with_reducible refine rd_npop ?_ | with_reducible refine rd_nput ?_ | with_reducible refine rd_dcn ?_ | with_reducible refine rd_gtup ?_ | with_reducible refine rd_gcons ?_ | with_reducible refine rd_gnil ?_ | with_reducible refine rd_lc ?_ | with_reducible refine rd_yes ?_ | with_reducible refine rd_for ?_ | with_reducible refine rd_iL ?_ | with_reducible refine rd_neS ?_ | with_reducible refine rd_neN ?_ | with_reducible refine rd_neB ?_ | with_reducible refine rd_chain ?_ | with_reducible refine rd_bm0 ?_ | with_reducible refine rd_dc ?_ | with_reducible refine rd_iN ?_ | with_reducible refine rd_iZ ?_ | with_reducible refine rd_ngetF ?_ | with_reducible refine rd_iT ?_ | with_reducible refine rd_iR1 ?_ | with_reducible refine rd_iS ?_ | with_reducible refine rd_leafS ?_ | with_reducible refine rd_sl ?_ | with_reducible refine rd_noPart ?_ | with_reducible refine rd_part ?_ | with_reducible refine rd_leafI ?_)
local macro_rules | `(tactic| walk_at "h") => `(tactic| repeat walk_at "h1")

local macro_rules | `(tactic| walk_at "h1") => `(tactic| first
  | with_reducible refine rd_m1 ?_ | with_reducible refine rd_isS ?_ | with_reducible refine rd_tupZ2 ?_)

section
variable {P : Program} {w : World} {K : PySem.W.Frag} {mg : Str → Option Value} {base : Heap}
theorem ok_lread {C : Addr} {f : Addr} {fd : FuncData} (F : Fun K "_law_read" "_law_read" s_l_read f fd) (T : Bi mg) (X_BadText : ErrAt P w K mg base "BadText" "line" C) (xm : PySem.W.exmOne K (.ref C) (.ref C) = some true) (G_read_product : CalleeX P w K mg base 6 "read_product" ["text"] (spRead K C)) : FnOk P w K mg base CX0 7 f fd ["_law_thing"] (spLRead K) := by
  refine F.ok (k := 6) sc_l_read (fun vs H Q E h => ?_) (fun cdv A outer s H vs Q E hr h => ?_)
  · obtain ⟨v, rfl, _⟩ := h
    rfl
  · obtain ⟨v, rfl, h⟩ := h
    have hu := hu_of hr
    have hu20 := hu20_of hr
    have hu40 := hu40_of hr
    obtain ⟨fI, fdI, E_BadText, FI_BadText, BI_BadText⟩ := X_BadText
    have g_BadText := E_BadText.gC
    obtain ⟨f_read_product, fd_read_product, F_read_product, m_read_product, k_read_product, b_read_product⟩ := G_read_product
    refine ⟨_, (pss_cons (ps_set (i := 1) sc_l_read.nd rfl (.inl rfl) pe_non)
  (pss_cons (ps_set (i := 2) sc_l_read.nd rfl (.inl rfl) pe_non)
  (pss_cons (ps_try_as (i := 3) rfl rfl sc_l_read.nd rfl rfl ⟨by rfl, by decide, .inl g_BadText⟩ takes0 (fun W pn xe tk _ => (pss_one (ps_set (i := 2) sc_l_read.nd rfl (.inl rfl) (pe_callS F_read_product (hr.mono (by decide)) (by rfl) m_read_product k_read_product b_read_product (fun σ => passAt tk σ) (pa_cons (pv 0) pa_nil)))))
    (fun a oe cls d pn hz hf => (pss_one (ps_set (i := 1) sc_l_read.nd rfl (.inl rfl) (pe_xf E_BadText.xf E_BadText.no hz hf (pv 3))))))
  (pss_cons (ps_if (pt_cmpR op_isN1 (pv 2) pe_non (nomark _)) (pss_one (ps_ret (pe_tup (pa_cons pe_str (pa_cons (pv 1) pa_nil))))) pss_nil)
  (pss_one (ps_ret (pe_tup (pa_cons pe_str (pa_cons (pv 2) pa_nil))))))))), ?_⟩
    rw [show L2.start N_l_read [v] = [some v, none, none, none] from rfl]
    (try dsimp only [cxOf, Cx.nox, Cx.wish])
    walk_at "h"
    rcases h with ⟨z, rfl, lz, q, qe⟩ | ⟨ty, ht, hk, qe⟩
    · refine ⟨.str z, rfl, .inl ⟨z, rfl, lz, fun ps hp t H1 s1 kt => ?_, fun hp e H1 s1 he => ?_⟩⟩
      · walk_at "h"
        refine rd_isNr ?_
        walk_at "h"
        refine ⟨sz_le (by simp only [List.length_cons, List.length_nil]; omega), fun u nu => ?_⟩
        exact q ps hp u t _ (s1.trans (same_new nu)) (sqt upd_same) (kt.keep (tup_new nu))
      · refine ⟨true, xm, fun _ a na => ?_, fun z => Bool.noConfusion z⟩
        show tAsg _ _ _ [some (V.str z), some V.non, some V.non, some (V.ref a)] H1
        walk_at "h"
        refine ⟨rfl, rfl, e, _, .int 1, rfl, he, by simp [List.lookup], ?_⟩
        walk_at "h"
        refine rd_isNt ?_
        walk_at "h"
        refine ⟨sz_le (by simp only [List.length_cons, List.length_nil]; omega), fun u nu => ?_⟩
        exact qe hp u _ (s1.trans (same_new nu)) (sqt upd_same)
    · refine ⟨v, rfl, .inr ⟨ty, ht, hk, fun e H1 s1 he => ?_⟩⟩
      refine ⟨true, xm, fun _ a na => ?_, fun z => Bool.noConfusion z⟩
      show tAsg _ _ _ [some v, some V.non, some V.non, some (V.ref a)] H1
      walk_at "h"
      refine ⟨rfl, rfl, e, _, .int 0, rfl, he, by simp [List.lookup], ?_⟩
      walk_at "h"
      refine rd_isNt ?_
      walk_at "h"
      refine ⟨sz_le (by simp only [List.length_cons, List.length_nil]; omega), fun u nu => ?_⟩
      exact qe u _ (s1.trans (same_new nu)) (sqt upd_same)
end
end K94
namespace K94
open PySem PySem.Spec PyProof.Rows L2 HH TL
local macro_rules | `(tactic| walk_at "h1") => `(tactic| first
  | with_reducible refine rd_seq ?_ | with_reducible refine rd_asg ?_ | with_reducible refine rd_op ?_
  | ((with_reducible refine' rd_var ?hv ?_); (case hv => exact rfl)) | with_reducible refine rd_c ?_
  | ((with_reducible refine rd_name ?_); dsimp only [List.set_cons_zero, List.set_cons_succ])
  | with_reducible refine rd_I0 ?_ | ((with_reducible refine rd_pow ?_ ?_ ?_ ?_); (· decide); (· decide); (· decide)) | ((with_reducible refine rd_mod ?_ ?_); (· decide)) | ((with_reducible refine rd_mulR ?_ ?_ ?_); (· decide); (· decide)) | ((with_reducible refine rd_divW (n := 64) ?_ ?_ ?_ ?_ ?_); (· decide); (· decide); (· decide); (· decide)) | with_reducible refine rd_addI ?_ | with_reducible refine rd_eqI ?_ | with_reducible refine rd_eqS ?_ | with_reducible refine rd_eqB ?_ | with_reducible refine rd_ltI ?_
  | with_reducible refine rd_callS ?_ | with_reducible refine rd_xf ?_ | with_reducible refine rd_cons ?_ | with_reducible refine rd_nil ?_ | with_reducible refine rd_cb ?_ | with_reducible refine rd_call ?_
  | with_reducible refine rd_ifs ?_ | with_reducible refine rd_test ?_ | with_reducible refine rd_tB ?_ | with_reducible refine rd_blQ ?_ | with_reducible refine iteT ?_ | with_reducible refine iteF ?_ | with_reducible refine iteNotF ?_ | with_reducible refine iteNotT ?_
  | with_reducible refine rd_and ?_ | with_reducible refine rd_or ?_ | with_reducible refine rd_not ?_ | with_reducible refine rd_andV ?_ | with_reducible refine rd_orV ?_ | with_reducible refine rd_notV ?_ | with_reducible refine rd_if ?_
  | with_reducible refine rd_un ?_ | with_reducible refine rd_U ?_ | with_reducible refine rd_sub ?_ | with_reducible refine rd_tup ?_ | with_reducible refine rd_lst ?_
  | with_reducible refine rd_intI ?_ | with_reducible refine rd_absI ?_ | with_reducible refine rd_drop ?_ | with_reducible refine rd_ret ?_ | with_reducible refine rd_retN ?_ | with_reducible refine rd_next ?_ | with_reducible refine rd_bm ?_
  | with_reducible refine rd_tDGet2 ?_ | with_reducible refine rd_tDGet ?_ | with_reducible refine rd_sDPut ?_ | with_reducible refine rd_dnewK ?_ | with_reducible refine rd_nnew ?_ | with_reducible refine rd_nget ?_ | with_reducible refine rd_nget2 ?_ | with_reducible refine rd_npop ?_ | with_reducible refine rd_nput ?_ | with_reducible refine rd_dcn ?_ | with_reducible refine rd_gtup ?_ | with_reducible refine rd_gcons ?_ | with_reducible refine rd_gnil ?_ | with_reducible refine rd_lc ?_ | with_reducible refine rd_yes ?_ | with_reducible refine rd_for ?_ | with_reducible refine rd_iL ?_ | with_reducible refine rd_neS ?_ | with_reducible refine rd_neN ?_ | with_reducible refine rd_neB ?_ | with_reducible refine rd_chain ?_ | with_reducible refine rd_bm0 ?_ | with_reducible refine rd_dc ?_ | with_reducible refine rd_iN ?_ | with_reducible refine rd_iZ ?_ | with_reducible refine rd_ngetF ?_ | with_reducible refine rd_iT ?_ | with_reducible refine rd_iR1 ?_ | with_reducible refine rd_iS ?_ | with_reducible refine rd_leafS ?_ | with_reducible refine rd_sl ?_ | with_reducible refine rd_noPart ?_ | with_reducible refine rd_part ?_ | with_reducible refine rd_leafI ?_)
local macro_rules | `(tactic| walk_at "h") => `(tactic| repeat walk_at "h1")

local macro_rules | `(tactic| walk_at "h1") => `(tactic| first
  | with_reducible refine rd_m1 ?_ | with_reducible refine rd_isS ?_ | with_reducible refine rd_tupZ2 ?_)

section
variable {P : Program} {w : World} {K : PySem.W.Frag} {mg : Str → Option Value} {base : Heap}
theorem ok_power {f : Addr} {fd : FuncData} (F : Fun K "_law_drawn_power" "_law_drawn_power" s_l_drawn_power f fd) (T : Bi mg) (G_l_draw : Callee P w K mg base 1 "_law_draw" ["_law_dice_here", "_law_many"] spDraw) : FnOk P w K mg base CX0 2 f fd ["_law_dice_here"] spPower := by
  refine F.ok (k := 1) sc_l_drawn_power (fun vs H Q E h => ?_) (fun cdv A outer s H vs Q E hr h => ?_)
  · obtain ⟨p, c, rfl, _⟩ := h
    rfl
  · obtain ⟨p, c, rfl, D, q⟩ := h
    have hu := hu_of hr
    have hu20 := hu20_of hr
    have hu40 := hu40_of hr
    obtain ⟨f_l_draw, fd_l_draw, F_l_draw, m_l_draw, k_l_draw, b_l_draw⟩ := G_l_draw
    refine ⟨_, (pss_cons (ps_set (i := 1) sc_l_drawn_power.nd rfl (.inl rfl) (pe_call F_l_draw (hr.mono (by decide)) (by rfl) m_l_draw k_l_draw b_l_draw .nil pass0 (pa_cons (pv 0) (pa_cons pe_int pa_nil))))
  (pss_cons (ps_if (pt_cmpR (op_eqU (K := K) hu40) (pv 1) pe_int (nomark _)) (pss_one (ps_ret (pe_op (op_addU (K := K)) pe_int (pe_call F_l_draw (hr.mono (by decide)) (by rfl) m_l_draw k_l_draw b_l_draw .nil pass0 (pa_cons (pv 0) (pa_cons (pe_op op_sub (pe_op op_pow pe_int pe_int) pe_int) pa_nil)))))) pss_nil)
  (pss_cons (ps_if (pt_cmpR (op_eqU (K := K) hu40) (pv 1) pe_int (nomark _)) (pss_one (ps_ret (pe_op (op_addU (K := K)) (pe_op op_sub (pe_op op_pow pe_int pe_int) pe_int) (pe_call F_l_draw (hr.mono (by decide)) (by rfl) m_l_draw k_l_draw b_l_draw .nil pass0 (pa_cons (pv 0) (pa_cons pe_int pa_nil)))))) pss_nil)
  (pss_cons (ps_if (pt_cmpR (op_eqU (K := K) hu40) (pv 1) pe_int (nomark _)) (pss_one (ps_ret (pe_op (op_addU (K := K)) pe_int (pe_call F_l_draw (hr.mono (by decide)) (by rfl) m_l_draw k_l_draw b_l_draw .nil pass0 (pa_cons (pv 0) (pa_cons (pe_op op_pow pe_int pe_int) pa_nil)))))) pss_nil)
  (pss_one (ps_ret (pe_op (op_addU (K := K)) pe_int (pe_call F_l_draw (hr.mono (by decide)) (by rfl) m_l_draw k_l_draw b_l_draw .nil pass0 (pa_cons (pv 0) (pa_cons pe_int pa_nil)))))))))), ?_⟩
    rw [show L2.start N_l_drawn_power [V.ref p] = [some (V.ref p), none] from rfl]
    (try dsimp only [cxOf, Cx.nox, Cx.wish])
    walk_at "h"
    refine use_draw D (by decide) (by decide) fun k H1 k0 k1 D1 f1 => ?_
    walk_at "h"
    by_cases c0 : k = 0
    · rw [decide_eq_true c0]
      walk_at "h"
      refine use_draw D1 (by decide) (by decide) fun r H2 r0 r1 D2 f2 => ?_
      walk_at "h"
      rw [show (9 : Int).toNat = 9 from rfl] at r1
      exact q (1 + r) H2 (by omega) (by omega) D2 (f1.trans f2)
    rw [decide_eq_false c0]
    walk_at "h"
    by_cases c1 : k = 1
    · rw [decide_eq_true c1]
      walk_at "h"
      refine use_draw D1 (by decide) (by decide) fun r H2 r0 r1 D2 f2 => ?_
      walk_at "h"
      rw [show (9 : Int).toNat = 9 from rfl]
      exact q _ H2 (by omega) (by omega) D2 (f1.trans f2)
    rw [decide_eq_false c1]
    walk_at "h"
    by_cases c2 : k = 2
    · rw [decide_eq_true c2]
      walk_at "h"
      refine use_draw D1 (by decide) (by decide) fun r H2 r0 r1 D2 f2 => ?_
      walk_at "h"
      rw [show (29 : Int).toNat = 29 from rfl] at r1
      exact q (1 + r) H2 (by omega) (by omega) D2 (f1.trans f2)
    rw [decide_eq_false c2]
    walk_at "h"
    refine use_draw D1 (by decide) (by decide) fun r H2 r0 r1 D2 f2 => ?_
    walk_at "h"
    exact q (1 + r) H2 (by omega) (by omega) D2 (f1.trans f2)
end
end K94
namespace K94
open PySem PySem.Spec PyProof.Rows L2 HH TL
local macro_rules | `(tactic| walk_at "h1") => `(tactic| first
  | with_reducible refine rd_seq ?_ | with_reducible refine rd_asg ?_ | with_reducible refine rd_op ?_
  | ((with_reducible refine' rd_var ?hv ?_); (case hv => exact rfl)) | with_reducible refine rd_c ?_
  | ((with_reducible refine rd_name ?_); dsimp only [List.set_cons_zero, List.set_cons_succ])
  | with_reducible refine rd_I0 ?_ | ((with_reducible refine rd_pow ?_ ?_ ?_ ?_); (· decide); (· decide); (· decide)) | ((with_reducible refine rd_mod ?_ ?_); (· decide)) | ((with_reducible refine rd_mulR ?_ ?_ ?_); (· decide); (· decide)) | ((with_reducible refine rd_divW (n := 64) ?_ ?_ ?_ ?_ ?_); (· decide); (· decide); (· decide); (· decide)) | with_reducible refine rd_addI ?_ | with_reducible refine rd_eqI ?_ | with_reducible refine rd_eqS ?_ | with_reducible refine rd_eqB ?_ | with_reducible refine rd_ltI ?_
  | with_reducible refine rd_callS ?_ | with_reducible refine rd_xf ?_ | with_reducible refine rd_cons ?_ | with_reducible refine rd_nil ?_ | with_reducible refine rd_cb ?_ | with_reducible refine rd_call ?_
  | with_reducible refine rd_ifs ?_ | with_reducible refine rd_test ?_ | with_reducible refine rd_tB ?_ | with_reducible refine rd_blQ ?_ | with_reducible refine iteT ?_ | with_reducible refine iteF ?_ | with_reducible refine iteNotF ?_ | with_reducible refine iteNotT ?_
  | with_reducible refine rd_and ?_ | with_reducible refine rd_or ?_ | with_reducible refine rd_not ?_ | with_reducible refine rd_andV ?_ | with_reducible refine rd_orV ?_ | with_reducible refine rd_notV ?_ | with_reducible refine rd_if ?_
  | with_reducible refine rd_un ?_ | with_reducible refine rd_U ?_ | with_reducible refine rd_sub ?_ | with_reducible refine rd_tup ?_ | with_reducible refine rd_lst ?_
  | with_reducible refine rd_intI ?_ | with_reducible refine rd_absI ?_ | with_reducible refine rd_drop ?_ | with_reducible refine rd_ret ?_ | with_reducible refine rd_retN ?_ | with_reducible refine rd_next ?_ | with_reducible refine rd_bm ?_
  | with_reducible refine rd_tDGet2 ?_ | with_reducible refine rd_tDGet ?_ | with_reducible refine rd_sDPut ?_ | with_reducible refine rd_dnewK ?_ | with_reducible refine rd_nnew ?_ | with_reducible refine rd_nget ?_ | with_reducible refine rd_nget2 ?_ | with_reducible refine rd_npop ?_ | with_reducible refine rd_nput ?_ | with_reducible refine rd_dcn ?_ | with_reducible refine rd_gtup ?_ | with_reducible refine rd_gcons ?_ | with_reducible refine rd_gnil ?_ | with_reducible refine rd_lc ?_ | with_reducible refine rd_yes ?_ | with_reducible refine rd_for ?_ | with_reducible refine rd_iL ?_ | with_reducible refine rd_neS ?_ | with_reducible refine rd_neN ?_ | with_reducible refine rd_neB ?_ | with_reducible refine rd_chain ?_ | with_reducible refine rd_bm0 ?_ | with_reducible refine rd_dc ?_ | with_reducible refine rd_iN ?_ | with_reducible refine rd_iZ ?_ | with_reducible refine rd_ngetF ?_ | with_reducible refine rd_iT ?_ | with_reducible refine rd_iR1 ?_ | with_reducible refine rd_iS ?_ | with_reducible refine rd_leafS ?_ | with_reducible refine rd_sl ?_ | with_reducible refine rd_noPart ?_ | with_reducible refine rd_part ?_ | with_reducible refine rd_leafI ?_)
local macro_rules | `(tactic| walk_at "h") => `(tactic| repeat walk_at "h1")

local macro_rules | `(tactic| walk_at "h1") => `(tactic| first
  | with_reducible refine rd_m1 ?_ | with_reducible refine rd_isS ?_ | with_reducible refine rd_tupZ2 ?_)

section
variable {P : Program} {w : World} {K : PySem.W.Frag} {mg : Str → Option Value} {base : Heap}
theorem ok_spoil {f : Addr} {fd : FuncData} (F : Fun K "_law_spoiled_sign" "_law_spoiled_sign" s_l_spoiled_sign f fd) (T : Bi mg) (G_l_draw : Callee P w K mg base 1 "_law_draw" ["_law_dice_here", "_law_many"] spDraw) : FnOk P w K mg base CX0 2 f fd ["_law_dice_here", "_law_line", "_law_kind"] spSpoil := by
  refine F.ok (k := 1) sc_l_spoiled_sign (fun vs H Q E h => ?_) (fun cdv A outer s H vs Q E hr h => ?_)
  · obtain ⟨p, c, z, kind, rfl, _⟩ := h
    rfl
  · obtain ⟨p, c, z, kind, rfl, D, lz, q⟩ := h
    have hu := hu_of hr
    have hu20 := hu20_of hr
    have hu40 := hu40_of hr
    obtain ⟨f_l_draw, fd_l_draw, F_l_draw, m_l_draw, k_l_draw, b_l_draw⟩ := G_l_draw
    refine ⟨_, (pss_cons (ps_set (i := 3) sc_l_spoiled_sign.nd rfl (.inl rfl) pe_str)
  (pss_cons (ps_set (i := 4) sc_l_spoiled_sign.nd rfl (.inl rfl) (pe_ix ix_str (pv 3) (pe_call F_l_draw (hr.mono (by decide)) (by rfl) m_l_draw k_l_draw b_l_draw .nil pass0 (pa_cons (pv 0) (pa_cons (pe_callB (call_lenU (P := P) (w := w) (K := K)) (by rfl) T.len_ PySem.boot_len (pa_cons (pv 3) pa_nil)) pa_nil))) (fun _ _ => rfl)))
  (pss_cons (ps_set (i := 5) sc_l_spoiled_sign.nd rfl (.inl rfl) (pe_call F_l_draw (hr.mono (by decide)) (by rfl) m_l_draw k_l_draw b_l_draw .nil pass0 (pa_cons (pv 0) (pa_cons (pe_op (op_addU (K := K)) (pe_callB (call_lenU (P := P) (w := w) (K := K)) (by rfl) T.len_ PySem.boot_len (pa_cons (pv 1) pa_nil)) pe_int) pa_nil))))
  (pss_cons (ps_if (pt_cmpR (op_eqU (K := K) hu40) (pv 2) pe_int (nomark _)) (pss_one (ps_ret (pe_op (op_addU (K := K)) (pe_op (op_addU (K := K)) (pe_slice sl_str (pv 1) po_none (po_some (pv 5))) (pv 4)) (pe_slice sl_str (pv 1) (po_some (pe_op (op_addU (K := K)) (pv 5) pe_int)) po_none)))) pss_nil)
  (pss_cons (ps_if (pt_cmpR (op_eqU (K := K) hu40) (pv 2) pe_int (nomark _)) (pss_one (ps_ret (pe_op (op_addU (K := K)) (pe_op (op_addU (K := K)) (pe_slice sl_str (pv 1) po_none (po_some (pv 5))) (pv 4)) (pe_slice sl_str (pv 1) (po_some (pv 5)) po_none)))) pss_nil)
  (pss_one (ps_ret (pe_op (op_addU (K := K)) (pe_slice sl_str (pv 1) po_none (po_some (pv 5))) (pe_slice sl_str (pv 1) (po_some (pe_op (op_addU (K := K)) (pv 5) pe_int)) po_none))))))))), ?_⟩
    rw [show L2.start N_l_spoiled_sign [V.ref p, V.str z, V.int kind] = [some (V.ref p), some (V.str z), some (V.int kind), none, none, none] from rfl]
    (try dsimp only [cxOf, Cx.nox, Cx.wish])
    walk_at "h"
    refine rd_lenS (sz_le (by decide)) ?_
    walk_at "h"
    refine use_draw D (by decide) (by decide) fun k H1 k0 k1 D1 f1 => ?_
    refine rd_sign (by decide) k0 k1 fun a => ?_
    walk_at "h"
    refine rd_lenS (sz_le (by omega)) ?_
    walk_at "h"
    refine use_draw D1 (by omega) (by omega) fun at_ H2 a0 a1 D2 f2 => ?_
    have f12 := f1.trans f2
    have lu := len_upto z a0
    have lf := len_from z a0
    have lf1 := len_from z (show 0 ≤ at_ + 1 by omega)
    have l1 : (⟨#[a]⟩ : Str).length = 1 := rfl
    walk_at "h"
    by_cases c0 : kind = 0
    · rw [decide_eq_true c0]
      walk_at "h"
      refine rd_slS (sz_le (by omega)) ?_
      walk_at "h"
      refine rd_addS (sz_le (by omega)) ?_
      walk_at "h"
      refine rd_slS (sz_le (by omega)) ?_
      refine rd_addS (sz_le (by rw [len_app]; omega)) ?_
      exact q _ H2 (by rw [len_app, len_app]; omega) D2 f12
    rw [decide_eq_false c0]
    walk_at "h"
    by_cases c1 : kind = 1
    · rw [decide_eq_true c1]
      walk_at "h"
      refine rd_slS (sz_le (by omega)) ?_
      walk_at "h"
      refine rd_addS (sz_le (by omega)) ?_
      walk_at "h"
      refine rd_slS (sz_le (by omega)) ?_
      refine rd_addS (sz_le (by rw [len_app]; omega)) ?_
      exact q _ H2 (by rw [len_app, len_app]; omega) D2 f12
    rw [decide_eq_false c1]
    walk_at "h"
    refine rd_slS (sz_le (by omega)) ?_
    walk_at "h"
    refine rd_slS (sz_le (by omega)) ?_
    refine rd_addS (sz_le (by omega)) ?_
    exact q _ H2 (by rw [len_app]; omega) D2 f12
end
end K94
namespace K94
open PySem PySem.Spec PyProof.Rows L2 HH TL
local macro_rules | `(tactic| walk_at "h1") => `(tactic| first
  | with_reducible refine rd_seq ?_ | with_reducible refine rd_asg ?_ | with_reducible refine rd_op ?_
  | ((with_reducible refine' rd_var ?hv ?_); (case hv => exact rfl)) | with_reducible refine rd_c ?_
  | ((with_reducible refine rd_name ?_); dsimp only [List.set_cons_zero, List.set_cons_succ])
  | with_reducible refine rd_I0 ?_ | ((with_reducible refine rd_pow ?_ ?_ ?_ ?_); (· decide); (· decide); (· decide)) | ((with_reducible refine rd_mod ?_ ?_); (· decide)) | ((with_reducible refine rd_mulR ?_ ?_ ?_); (· decide); (· decide)) | ((with_reducible refine rd_divW (n := 64) ?_ ?_ ?_ ?_ ?_); (· decide); (· decide); (· decide); (· decide)) | with_reducible refine rd_addI ?_ | with_reducible refine rd_eqI ?_ | with_reducible refine rd_eqS ?_ | with_reducible refine rd_eqB ?_ | with_reducible refine rd_ltI ?_
  | with_reducible refine rd_callS ?_ | with_reducible refine rd_xf ?_ | with_reducible refine rd_cons ?_ | with_reducible refine rd_nil ?_ | with_reducible refine rd_cb ?_ | with_reducible refine rd_call ?_
  | with_reducible refine rd_ifs ?_ | with_reducible refine rd_test ?_ | with_reducible refine rd_tB ?_ | with_reducible refine rd_blQ ?_ | with_reducible refine iteT ?_ | with_reducible refine iteF ?_ | with_reducible refine iteNotF ?_ | with_reducible refine iteNotT ?_
  | with_reducible refine rd_and ?_ | with_reducible refine rd_or ?_ | with_reducible refine rd_not ?_ | with_reducible refine rd_andV ?_ | with_reducible refine rd_orV ?_ | with_reducible refine rd_notV ?_ | with_reducible refine rd_if ?_
  | with_reducible refine rd_un ?_ | with_reducible refine rd_U ?_ | with_reducible refine rd_sub ?_ | with_reducible refine rd_tup ?_ | with_reducible refine rd_lst ?_
  | with_reducible refine rd_intI ?_ | with_reducible refine rd_absI ?_ | with_reducible refine rd_drop ?_ | with_reducible refine rd_ret ?_ | with_reducible refine rd_retN ?_ | with_reducible refine rd_next ?_ | with_reducible refine rd_bm ?_
  | with_reducible refine rd_tDGet2 ?_ | with_reducible refine rd_tDGet ?_ | with_reducible refine rd_sDPut ?_ | with_reducible refine rd_dnewK ?_ | with_reducible refine rd_nnew ?_ | with_reducible refine rd_nget ?_ | with_reducible refine rd_nget2 ?_ | with_reducible refine rd_npop ?_ | with_reducible refine rd_nput ?_ | with_reducible refine rd_dcn ?_ | with_reducible refine rd_gtup ?_ | with_reducible refine rd_gcons ?_ | with_reducible refine rd_gnil ?_ | with_reducible refine rd_lc ?_ | with_reducible refine rd_yes ?_ | with_reducible refine rd_for ?_ | with_reducible refine rd_iL ?_ | with_reducible refine rd_neS ?_ | with_reducible refine rd_neN ?_ | with_reducible refine rd_neB ?_ | with_reducible refine rd_chain ?_ | with_reducible refine rd_bm0 ?_ | with_reducible refine rd_dc ?_ | with_reducible refine rd_iN ?_ | with_reducible refine rd_iZ ?_ | with_reducible refine rd_ngetF ?_ | with_reducible refine rd_iT ?_ | with_reducible refine rd_iR1 ?_ | with_reducible refine rd_iS ?_ | with_reducible refine rd_leafS ?_ | with_reducible refine rd_sl ?_ | with_reducible refine rd_noPart ?_ | with_reducible refine rd_part ?_ | with_reducible refine rd_leafI ?_)
local macro_rules | `(tactic| walk_at "h") => `(tactic| repeat walk_at "h1")

local macro_rules | `(tactic| walk_at "h1") => `(tactic| first
  | with_reducible refine rd_m1 ?_ | with_reducible refine rd_isS ?_ | with_reducible refine rd_tupZ2 ?_)

section
variable {P : Program} {w : World} {K : PySem.W.Frag} {mg : Str → Option Value} {base : Heap}
theorem ok_menu {f : Addr} {fd : FuncData} (F : Fun K "_law_text_of_menu" "_law_text_of_menu" s_l_text_of_menu f fd) (T : Bi mg) (G_l_draw : Callee P w K mg base 1 "_law_draw" ["_law_dice_here", "_law_many"] spDraw) : FnOk P w K mg base CX0 2 f fd ["_law_dice_here", "_law_name", "_law_other"] spMenu := by
  refine F.ok (k := 1) sc_l_text_of_menu (fun vs H Q E h => ?_) (fun cdv A outer s H vs Q E hr h => ?_)
  · obtain ⟨p, c, a, b, rfl, _⟩ := h
    rfl
  · obtain ⟨p, c, a, b, rfl, D, la, lb, q⟩ := h
    have hu := hu_of hr
    have hu20 := hu20_of hr
    have hu40 := hu40_of hr
    obtain ⟨f_l_draw, fd_l_draw, F_l_draw, m_l_draw, k_l_draw, b_l_draw⟩ := G_l_draw
    refine ⟨_, (pss_cons (ps_set (i := 3) sc_l_text_of_menu.nd rfl (.inl rfl) (pe_lst (pa_cons pe_str (pa_cons pe_str (pa_cons pe_str (pa_cons pe_str (pa_cons pe_str (pa_cons (pe_op (op_addU (K := K)) pe_str (pv 1)) (pa_cons (pe_op (op_addU (K := K)) (pv 1) pe_str) (pa_cons (pe_op (op_addU (K := K)) (pv 1) pe_str) (pa_cons (pe_op (op_addU (K := K)) (pv 1) pe_str) (pa_cons (pe_op (op_addU (K := K)) (pv 1) pe_str) (pa_cons pe_str (pa_cons pe_str (pa_cons pe_str (pa_cons pe_str (pa_cons pe_str (pa_cons pe_str (pa_cons (pe_op (op_addU (K := K)) (pe_op (op_addU (K := K)) (pv 1) pe_str) (pv 1)) (pa_cons (pe_op (op_addU (K := K)) (pe_op (op_addU (K := K)) (pv 1) pe_str) (pv 2)) (pa_cons (pe_op (op_addU (K := K)) (pv 1) pe_str) (pa_cons (pe_op (op_addU (K := K)) (pv 1) pe_str) (pa_cons pe_str (pa_cons (pe_op (op_addU (K := K)) pe_str (pv 1)) (pa_cons (pe_op (op_addU (K := K)) (pe_op (op_addU (K := K)) (pv 1) pe_str) (pv 2)) (pa_cons (pe_op (op_addU (K := K)) (pv 1) pe_str) (pa_cons (pe_op (op_addU (K := K)) pe_str (pv 1)) (pa_cons (pe_op (op_addU (K := K)) (pe_op (op_addU (K := K)) (pv 1) pe_str) (pv 2)) (pa_cons (pe_op (op_addU (K := K)) (pe_op (op_addU (K := K)) (pv 2) pe_str) (pv 1)) (pa_cons (pe_op (op_addU (K := K)) (pv 1) pe_str) (pa_cons (pe_op (op_addU (K := K)) (pe_op (op_addU (K := K)) (pv 1) pe_str) (pv 2)) (pa_cons (pe_op (op_addU (K := K)) (pe_op (op_addU (K := K)) (pv 1) pe_str) (pe_op op_mulStr pe_str pe_int)) (pa_cons (pe_op op_mulStr pe_str pe_int) (pa_cons (pe_op (op_addU (K := K)) (pe_op (op_addU (K := K)) (pv 1) pe_str) (pe_op op_mulStr pe_str pe_int)) pa_nil))))))))))))))))))))))))))))))))))
  (pss_one (ps_ret (pe_ix (ix_listK (K := K)) (pv 3) (pe_call F_l_draw (hr.mono (by decide)) (by rfl) m_l_draw k_l_draw b_l_draw .nil pass0 (pa_cons (pv 0) (pa_cons (pe_callB (call_lenU (P := P) (w := w) (K := K)) (by rfl) T.len_ PySem.boot_len (pa_cons (pv 3) pa_nil)) pa_nil))) (fun _ _ => rfl))))), ?_⟩
    rw [show L2.start N_l_text_of_menu [V.ref p, V.str a, V.str b] = [some (V.ref p), some (V.str a), some (V.str b), none] from rfl]
    (try dsimp only [cxOf, Cx.nox, Cx.wish])
    walk_at "h"
    repeat (refine rd_addS (sz_le (by first | omega | (simp only [len_app, show (Str.ofString "1*").length = 2 from rfl, show (Str.ofString "*1").length = 2 from rfl, show (Str.ofString "^1").length = 2 from rfl, show (Str.ofString "^0").length = 2 from rfl, show (Str.ofString "^").length = 1 from rfl, show (Str.ofString "*").length = 1 from rfl, show (Str.ofString "**").length = 2 from rfl, show (Str.ofString "^2^2").length = 4 from rfl, show (Str.ofString "^02").length = 3 from rfl, show (Str.ofString "2*").length = 2 from rfl, show (Str.ofString "+").length = 1 from rfl, show (Str.ofString "\n").length = 1 from rfl, show (Str.ofString "#*").length = 2 from rfl, show (Str.ofString " ").length = 1 from rfl, show (Str.ofString "^2*").length = 3 from rfl]; omega))) ?_; walk_at "h")
    refine ⟨"9", 5000, rfl, rfl, rfl, by decide, by decide, fun u1 lu1 => ?_⟩
    refine rd_addS (sz_le (by simp only [len_app, show (Str.ofString "1*").length = 2 from rfl, show (Str.ofString "*1").length = 2 from rfl, show (Str.ofString "^1").length = 2 from rfl, show (Str.ofString "^0").length = 2 from rfl, show (Str.ofString "^").length = 1 from rfl, show (Str.ofString "*").length = 1 from rfl, show (Str.ofString "**").length = 2 from rfl, show (Str.ofString "^2^2").length = 4 from rfl, show (Str.ofString "^02").length = 3 from rfl, show (Str.ofString "2*").length = 2 from rfl, show (Str.ofString "+").length = 1 from rfl, show (Str.ofString "\n").length = 1 from rfl, show (Str.ofString "#*").length = 2 from rfl, show (Str.ofString " ").length = 1 from rfl, show (Str.ofString "^2*").length = 3 from rfl]; omega)) ?_
    walk_at "h"
    refine ⟨"9", 5000, rfl, rfl, rfl, by decide, by decide, fun u2 lu2 => ?_⟩
    walk_at "h"
    refine rd_addS (sz_le (by simp only [len_app, show (Str.ofString "1*").length = 2 from rfl, show (Str.ofString "*1").length = 2 from rfl, show (Str.ofString "^1").length = 2 from rfl, show (Str.ofString "^0").length = 2 from rfl, show (Str.ofString "^").length = 1 from rfl, show (Str.ofString "*").length = 1 from rfl, show (Str.ofString "**").length = 2 from rfl, show (Str.ofString "^2^2").length = 4 from rfl, show (Str.ofString "^02").length = 3 from rfl, show (Str.ofString "2*").length = 2 from rfl, show (Str.ofString "+").length = 1 from rfl, show (Str.ofString "\n").length = 1 from rfl, show (Str.ofString "#*").length = 2 from rfl, show (Str.ofString " ").length = 1 from rfl, show (Str.ofString "^2*").length = 3 from rfl]; omega)) ?_
    walk_at "h"
    refine ⟨"0", 5000, rfl, rfl, rfl, by decide, by decide, fun u3 lu3 => ?_⟩
    refine rd_addS (sz_le (by simp only [len_app, show (Str.ofString "1*").length = 2 from rfl, show (Str.ofString "*1").length = 2 from rfl, show (Str.ofString "^1").length = 2 from rfl, show (Str.ofString "^0").length = 2 from rfl, show (Str.ofString "^").length = 1 from rfl, show (Str.ofString "*").length = 1 from rfl, show (Str.ofString "**").length = 2 from rfl, show (Str.ofString "^2^2").length = 4 from rfl, show (Str.ofString "^02").length = 3 from rfl, show (Str.ofString "2*").length = 2 from rfl, show (Str.ofString "+").length = 1 from rfl, show (Str.ofString "\n").length = 1 from rfl, show (Str.ofString "#*").length = 2 from rfl, show (Str.ofString " ").length = 1 from rfl, show (Str.ofString "^2*").length = 3 from rfl]; omega)) ?_
    walk_at "h"
    refine ⟨sz_le (by show (32 : Nat) ≤ _; decide), fun l nl => ?_⟩
    generalize hL : HO.lst (_ : List V) = o
    have hO : ∃ M : List Str, o = .lst (M.map V.str) ∧ M.length = 32 ∧ ∀ y ∈ M, y.length ≤ 6000 := by
      rw [← hL]
      refine lst_of ?_ rfl
      repeat (refine List.forall_mem_cons.mpr ⟨⟨_, rfl, by first | decide | omega | (simp only [len_app, show (Str.ofString "1*").length = 2 from rfl, show (Str.ofString "*1").length = 2 from rfl, show (Str.ofString "^1").length = 2 from rfl, show (Str.ofString "^0").length = 2 from rfl, show (Str.ofString "^").length = 1 from rfl, show (Str.ofString "*").length = 1 from rfl, show (Str.ofString "**").length = 2 from rfl, show (Str.ofString "^2^2").length = 4 from rfl, show (Str.ofString "^02").length = 3 from rfl, show (Str.ofString "2*").length = 2 from rfl, show (Str.ofString "+").length = 1 from rfl, show (Str.ofString "\n").length = 1 from rfl, show (Str.ofString "#*").length = 2 from rfl, show (Str.ofString " ").length = 1 from rfl, show (Str.ofString "^2*").length = 3 from rfl]; omega)⟩, ?_⟩)
      exact fun _ h => nomatch h
    clear hL
    obtain ⟨M, rfl, lM, hM⟩ := hO
    have hl : (upd H l (.lst (M.map V.str))) l = some (.lst (M.map V.str)) := upd_same
    have s1 : Same H (upd H l (.lst (M.map V.str))) := same_new nl
    have lp := (D.new nl).1
    have D1 := D.keep s1
    generalize upd H l (.lst (M.map V.str)) = H1 at hl s1 D1
    walk_at "h"
    refine rd_lenL (sql hl) ?_
    walk_at "h"
    rw [List.length_map, lM]
    refine use_draw D1 (by decide) (by decide) fun k H2 k0 k1 D2 f2 => ?_
    obtain ⟨j, rfl⟩ := Int.eq_ofNat_of_zero_le k0
    have hj : j < M.length := by omega
    refine rd_ixl (sql (f2 _ _ lp hl)) (atI_nat (j := j) (by rw [List.getElem?_map, List.getElem?_eq_getElem hj]; rfl)) ?_
    exact q _ H2 (hM _ (List.getElem_mem hj)) D2 ((Fr.of s1).trans f2)
end
end K94
namespace K94
open PySem PySem.Spec PyProof.Rows L2 HH TL
local macro_rules | `(tactic| walk_at "h1") => `(tactic| first
  | with_reducible refine rd_seq ?_ | with_reducible refine rd_asg ?_ | with_reducible refine rd_op ?_
  | ((with_reducible refine' rd_var ?hv ?_); (case hv => exact rfl)) | with_reducible refine rd_c ?_
  | ((with_reducible refine rd_name ?_); dsimp only [List.set_cons_zero, List.set_cons_succ])
  | with_reducible refine rd_I0 ?_ | ((with_reducible refine rd_pow ?_ ?_ ?_ ?_); (· decide); (· decide); (· decide)) | ((with_reducible refine rd_mod ?_ ?_); (· decide)) | ((with_reducible refine rd_mulR ?_ ?_ ?_); (· decide); (· decide)) | ((with_reducible refine rd_divW (n := 64) ?_ ?_ ?_ ?_ ?_); (· decide); (· decide); (· decide); (· decide)) | with_reducible refine rd_addI ?_ | with_reducible refine rd_eqI ?_ | with_reducible refine rd_eqS ?_ | with_reducible refine rd_eqB ?_ | with_reducible refine rd_ltI ?_
  | with_reducible refine rd_callS ?_ | with_reducible refine rd_xf ?_ | with_reducible refine rd_cons ?_ | with_reducible refine rd_nil ?_ | with_reducible refine rd_cb ?_ | with_reducible refine rd_call ?_
  | with_reducible refine rd_ifs ?_ | with_reducible refine rd_test ?_ | with_reducible refine rd_tB ?_ | with_reducible refine rd_blQ ?_ | with_reducible refine iteT ?_ | with_reducible refine iteF ?_ | with_reducible refine iteNotF ?_ | with_reducible refine iteNotT ?_
  | with_reducible refine rd_and ?_ | with_reducible refine rd_or ?_ | with_reducible refine rd_not ?_ | with_reducible refine rd_andV ?_ | with_reducible refine rd_orV ?_ | with_reducible refine rd_notV ?_ | with_reducible refine rd_if ?_
  | with_reducible refine rd_un ?_ | with_reducible refine rd_U ?_ | with_reducible refine rd_sub ?_ | with_reducible refine rd_tup ?_ | with_reducible refine rd_lst ?_
  | with_reducible refine rd_intI ?_ | with_reducible refine rd_absI ?_ | with_reducible refine rd_drop ?_ | with_reducible refine rd_ret ?_ | with_reducible refine rd_retN ?_ | with_reducible refine rd_next ?_ | with_reducible refine rd_bm ?_
  | with_reducible refine rd_tDGet2 ?_ | with_reducible refine rd_tDGet ?_ | with_reducible refine rd_sDPut ?_ | with_reducible refine rd_dnewK ?_ | with_reducible refine rd_nnew ?_ | with_reducible refine rd_nget ?_ | with_reducible refine rd_nget2 ?_ | with_reducible refine rd_npop ?_ | with_reducible refine rd_nput ?_ | with_reducible refine rd_dcn ?_ | with_reducible refine rd_gtup ?_ | with_reducible refine rd_gcons ?_ | with_reducible refine rd_gnil ?_ | with_reducible refine rd_lc ?_ | with_reducible refine rd_yes ?_ | with_reducible refine rd_for ?_ | with_reducible refine rd_iL ?_ | with_reducible refine rd_neS ?_ | with_reducible refine rd_neN ?_ | with_reducible refine rd_neB ?_ | with_reducible refine rd_chain ?_ | with_reducible refine rd_bm0 ?_ | with_reducible refine rd_dc ?_ | with_reducible refine rd_iN ?_ | with_reducible refine rd_iZ ?_ | with_reducible refine rd_ngetF ?_ | with_reducible refine rd_iT ?_ | with_reducible refine rd_iR1 ?_ | with_reducible refine rd_iS ?_ | with_reducible refine rd_leafS ?_ | with_reducible refine rd_sl ?_ | with_reducible refine rd_noPart ?_ | with_reducible refine rd_part ?_ | with_reducible refine rd_leafI ?_)
local macro_rules | `(tactic| walk_at "h") => `(tactic| repeat walk_at "h1")

local macro_rules | `(tactic| walk_at "h1") => `(tactic| first
  | with_reducible refine rd_m1 ?_ | with_reducible refine rd_isS ?_ | with_reducible refine rd_tupZ2 ?_)

section
variable {P : Program} {w : World} {K : PySem.W.Frag} {mg : Str → Option Value} {base : Heap}
theorem ok_answers {f : Addr} {fd : FuncData} (F : Fun K "_law_answers" "_law_answers" s_l_answers f fd) (T : Bi mg) (G_l_term_in : Callee P w K mg base 3 "_law_term_in" ["_law_text"] (spLTerm K)) (G_l_read : Callee P w K mg base 7 "_law_read" ["_law_thing"] (spLRead K)) (G_l_is_integer : Callee P w K mg base 1 "_law_is_integer" ["_law_thing"] spIsInt) (G_l_same : Callee P w K mg base 4 "_law_same" ["_law_one", "_law_other"] (spSame K 3)) (G_product_text : Callee P w K mg base 1 "product_text" ["product"] (spPText K)) : FnOk P w K mg base CX0 8 f fd ["_law_text"] spAnswers := by
  refine F.ok (k := 7) sc_l_answers (fun vs H Q E h => ?_) (fun cdv A outer s H vs Q E hr h => ?_)
  · obtain ⟨z, rfl, _⟩ := h
    rfl
  · obtain ⟨z, rfl, lz, q⟩ := h
    have hu := hu_of hr
    have hu20 := hu20_of hr
    have hu40 := hu40_of hr
    obtain ⟨f_l_term_in, fd_l_term_in, F_l_term_in, m_l_term_in, k_l_term_in, b_l_term_in⟩ := G_l_term_in; obtain ⟨f_l_read, fd_l_read, F_l_read, m_l_read, k_l_read, b_l_read⟩ := G_l_read; obtain ⟨f_l_is_integer, fd_l_is_integer, F_l_is_integer, m_l_is_integer, k_l_is_integer, b_l_is_integer⟩ := G_l_is_integer; obtain ⟨f_product_text, fd_product_text, F_product_text, m_product_text, k_product_text, b_product_text⟩ := G_product_text; obtain ⟨f_l_same, fd_l_same, F_l_same, m_l_same, k_l_same, b_l_same⟩ := G_l_same
    refine ⟨_, (pss_cons (ps_set (i := 1) sc_l_answers.nd rfl (.inl rfl) (pe_call F_l_term_in (hr.mono (by decide)) (by rfl) m_l_term_in k_l_term_in b_l_term_in .nil pass0 (pa_cons (pv 0) pa_nil)))
  (pss_cons (ps_set (i := 2) sc_l_answers.nd rfl (.inl rfl) (pe_call F_l_read (hr.mono (by decide)) (by rfl) m_l_read k_l_read b_l_read .nil pass0 (pa_cons (pv 0) pa_nil)))
  (pss_cons (ps_if (PW.pt (pw_or (pt_cmpR op_isN1 (pv 1) pe_non (nomark _)) (pw_or1 (pt_cmpR op_ne (pe_ix (ix_tupK (K := K)) (pv 1) pe_int (fun _ _ => rfl)) pe_int (nomark _))))) (pss_one (ps_ret (pe_and (pe_cmpR (op_eqU (K := K) hu40) (pe_ix (ix_tupK (K := K)) (pv 2) pe_int (fun _ _ => rfl)) pe_str (nomark _)) (pe_and (pe_call F_l_is_integer (hr.mono (by decide)) (by rfl) m_l_is_integer k_l_is_integer b_l_is_integer .nil pass0 (pa_cons (pe_ix (ix_tupK (K := K)) (pv 2) pe_int (fun _ _ => rfl)) pa_nil)) (pe_one (pe_cmpR (op_eqU (K := K) hu40) (pe_ix (ix_tupK (K := K)) (pv 2) pe_int (fun _ _ => rfl)) pe_int (nomark _))))))) pss_nil)
  (pss_one (ps_ret (pe_and (pe_cmpR (op_eqU (K := K) hu40) (pe_ix (ix_tupK (K := K)) (pv 2) pe_int (fun _ _ => rfl)) pe_str (nomark _)) (pe_and (pe_call F_l_same (hr.mono (by decide)) (by rfl) m_l_same k_l_same b_l_same .nil pass0 (pa_cons (pe_ix (ix_tupK (K := K)) (pv 2) pe_int (fun _ _ => rfl)) (pa_cons (pe_ix (ix_tupK (K := K)) (pv 1) pe_int (fun _ _ => rfl)) pa_nil))) (pe_one (pe_cmpR (op_eqU (K := K) hu40) (pe_call F_product_text (hr.mono (by decide)) (by rfl) m_product_text k_product_text b_product_text .nil pass0 (pa_cons (pe_ix (ix_tupK (K := K)) (pv 2) pe_int (fun _ _ => rfl)) pa_nil)) (pv 0) (nomark _)))))))))), ?_⟩
    rw [show L2.start N_l_answers [V.str z] = [some (V.str z), none, none] from rfl]
    (try dsimp only [cxOf, Cx.nox, Cx.wish])
    have pt := prodS_term (cds z)
    walk_at "h"
    refine ⟨z, rfl, by omega, fun c ps et u t H1 s1 su kt => ?_, fun et H1 s1 => ?_⟩
    · rw [et] at pt
      replace pt : prodS (cds z) = if c = 1 then some ps else none := pt
      walk_at "h"
      refine ⟨.str z, rfl, .inl ⟨z, rfl, by omega, fun ps2 e2 u2 t2 H2 s2 su2 kt2 => ?_, fun e2 u2 H2 s2 su2 => ?_⟩⟩
      · rw [e2] at pt
        by_cases c1 : c = 1
        case neg => rw [if_neg c1] at pt; cases pt
        rw [if_pos c1] at pt
        obtain rfl := Option.some.inj pt
        obtain ⟨ht, hq, _⟩ := prodS_inv e2
        walk_at "h"
        refine rd_isNr ?_
        walk_at "h"
        refine rd_ixt (same_tup s2 _ _ su) (atI_nat (j := 0) rfl) ?_
        walk_at "h"
        rw [show (!decide (c = 1)) = false by rw [decide_eq_true c1]; rfl]
        walk_at "h"
        refine rd_ixt su2 (atI_nat (j := 0) rfl) ?_
        walk_at "h"
        rw [show decide (Str.ofString "read" = Str.ofString "read") = true from decide_eq_true rfl]
        walk_at "h"
        refine rd_ixt su2 (atI_nat (j := 1) rfl) ?_
        walk_at "h"
        refine rd_ixt (same_tup s2 _ _ su) (atI_nat (j := 1) rfl) ?_
        walk_at "h"
        refine ⟨prodK ps2, .ref t2, .ref t, rfl, kt2, kt.keep (same_tup s2), by have := prodK_depth ps2; omega, wide2_prod (by have := prodS_len e2; rw [← len_cds] at this; omega), fun H3 s3 => ?_⟩
        walk_at "h"
        refine rd_ixt (same_tup s3 _ _ su2) (atI_nat (j := 1) rfl) ?_
        walk_at "h"
        refine ⟨t2, ps2, rfl, kt2.keep (same_tup s3), ?_, fun x hx => ?_, fun H4 s4 => ?_⟩
        · have := prodS_len e2
          rw [← len_cds] at this
          omega
        · obtain ⟨a, b, d⟩ := hq x hx
          rw [len_cds]
          exact ⟨(isNmL_iff.mp a).2.1, b, by omega⟩
        · walk_at "h"
          have ez : mkS (textP ps2) = z := by rw [ht, mk_cds]
          rw [decide_eq_true ez]
          exact q H4 (((s1.trans s2).trans s3).trans s4)
      · rw [e2] at pt
        walk_at "h"
        refine rd_isNr ?_
        walk_at "h"
        refine rd_ixt (same_tup s2 _ _ su) (atI_nat (j := 0) rfl) ?_
        walk_at "h"
        have c1 : ¬ c = 1 := fun w => by rw [if_pos w] at pt; cases pt
        rw [show (!decide (c = 1)) = true by rw [decide_eq_false c1]; rfl]
        walk_at "h"
        refine rd_ixt su2 (atI_nat (j := 0) rfl) ?_
        walk_at "h"
        rw [show decide (Str.ofString "text" = Str.ofString "text") = true from decide_eq_true rfl]
        walk_at "h"
        refine rd_ixt su2 (atI_nat (j := 1) rfl) ?_
        walk_at "h"
        refine use_isInt ?_
        walk_at "h"
        refine rd_ixt su2 (atI_nat (j := 1) rfl) ?_
        walk_at "h"
        exact q H2 (s1.trans s2)
    · rw [et] at pt
      replace pt : prodS (cds z) = none := pt
      walk_at "h"
      refine ⟨.str z, rfl, .inl ⟨z, rfl, by omega, fun ps2 e2 => (by rw [pt] at e2; cases e2), fun e2 u2 H2 s2 su2 => ?_⟩⟩
      walk_at "h"
      refine rd_isNt ?_
      walk_at "h"
      refine rd_ixt su2 (atI_nat (j := 0) rfl) ?_
      walk_at "h"
      rw [show decide (Str.ofString "text" = Str.ofString "text") = true from decide_eq_true rfl]
      walk_at "h"
      refine rd_ixt su2 (atI_nat (j := 1) rfl) ?_
      walk_at "h"
      refine use_isInt ?_
      walk_at "h"
      refine rd_ixt su2 (atI_nat (j := 1) rfl) ?_
      walk_at "h"
      exact q H2 (s1.trans s2)
end
end K94
namespace K94
open PySem PySem.Spec PyProof.Rows L2 HH TL
local macro_rules | `(tactic| walk_at "h1") => `(tactic| first
  | with_reducible refine rd_seq ?_ | with_reducible refine rd_asg ?_ | with_reducible refine rd_op ?_
  | ((with_reducible refine' rd_var ?hv ?_); (case hv => exact rfl)) | with_reducible refine rd_c ?_
  | ((with_reducible refine rd_name ?_); dsimp only [List.set_cons_zero, List.set_cons_succ])
  | with_reducible refine rd_I0 ?_ | ((with_reducible refine rd_pow ?_ ?_ ?_ ?_); (· decide); (· decide); (· decide)) | ((with_reducible refine rd_mod ?_ ?_); (· decide)) | ((with_reducible refine rd_mulR ?_ ?_ ?_); (· decide); (· decide)) | ((with_reducible refine rd_divW (n := 64) ?_ ?_ ?_ ?_ ?_); (· decide); (· decide); (· decide); (· decide)) | with_reducible refine rd_addI ?_ | with_reducible refine rd_eqI ?_ | with_reducible refine rd_eqS ?_ | with_reducible refine rd_eqB ?_ | with_reducible refine rd_ltI ?_
  | with_reducible refine rd_callS ?_ | with_reducible refine rd_xf ?_ | with_reducible refine rd_cons ?_ | with_reducible refine rd_nil ?_ | with_reducible refine rd_cb ?_ | with_reducible refine rd_call ?_
  | with_reducible refine rd_ifs ?_ | with_reducible refine rd_test ?_ | with_reducible refine rd_tB ?_ | with_reducible refine rd_blQ ?_ | with_reducible refine iteT ?_ | with_reducible refine iteF ?_ | with_reducible refine iteNotF ?_ | with_reducible refine iteNotT ?_
  | with_reducible refine rd_and ?_ | with_reducible refine rd_or ?_ | with_reducible refine rd_not ?_ | with_reducible refine rd_andV ?_ | with_reducible refine rd_orV ?_ | with_reducible refine rd_notV ?_ | with_reducible refine rd_if ?_
  | with_reducible refine rd_un ?_ | with_reducible refine rd_U ?_ | with_reducible refine rd_sub ?_ | with_reducible refine rd_tup ?_ | with_reducible refine rd_lst ?_
  | with_reducible refine rd_intI ?_ | with_reducible refine rd_absI ?_ | with_reducible refine rd_drop ?_ | with_reducible refine rd_ret ?_ | with_reducible refine rd_retN ?_ | with_reducible refine rd_next ?_ | with_reducible refine rd_bm ?_
  | with_reducible refine rd_tDGet2 ?_ | with_reducible refine rd_tDGet ?_ | with_reducible refine rd_sDPut ?_ | with_reducible refine rd_dnewK ?_ | with_reducible refine rd_nnew ?_ | with_reducible refine rd_nget ?_ | with_reducible refine rd_nget2 ?_ | with_reducible refine rd_npop ?_ | with_reducible refine rd_nput ?_ | with_reducible refine rd_dcn ?_ | with_reducible refine rd_gtup ?_ | with_reducible refine rd_gcons ?_ | with_reducible refine rd_gnil ?_ | with_reducible refine rd_lc ?_ | with_reducible refine rd_yes ?_ | with_reducible refine rd_for ?_ | with_reducible refine rd_iL ?_ | with_reducible refine rd_neS ?_ | with_reducible refine rd_neN ?_ | with_reducible refine rd_neB ?_ | with_reducible refine rd_chain ?_ | with_reducible refine rd_bm0 ?_ | with_reducible refine rd_dc ?_ | with_reducible refine rd_iN ?_ | with_reducible refine rd_iZ ?_ | with_reducible refine rd_ngetF ?_ | with_reducible refine rd_iT ?_ | with_reducible refine rd_iR1 ?_ | with_reducible refine rd_iS ?_ | with_reducible refine rd_leafS ?_ | with_reducible refine rd_sl ?_ | with_reducible refine rd_noPart ?_ | with_reducible refine rd_part ?_ | with_reducible refine rd_leafI ?_)
local macro_rules | `(tactic| walk_at "h") => `(tactic| repeat walk_at "h1")

local macro_rules | `(tactic| walk_at "h1") => `(tactic| first
  | with_reducible refine rd_m1 ?_ | with_reducible refine rd_isS ?_ | with_reducible refine rd_tupZ2 ?_)

section
variable {P : Program} {w : World} {K : PySem.W.Frag} {mg : Str → Option Value} {base : Heap}
def spLaw (K : PySem.W.Frag) : Sp := fun vs H Q _ => ∃ (a : Addr) (ns : List Int), vs = [.ref a] ∧ SqL K H a (ns.map V.int) ∧ ns.length ≤ 63 ∧ ∀ H', Q (.bl true) H'
theorem ok_law {f : Addr} {fd : FuncData} (F : Fun K "law" "law" s_law f fd) (T : Bi mg) (G_l_dice : Callee P w K mg base 1 "_law_dice" ["_law_script"] (spDice K)) (G_l_draw : Callee P w K mg base 1 "_law_draw" ["_law_dice_here", "_law_many"] spDraw)
    (G_l_names : Callee P w K mg base 3 "_law_names" ["_law_dice_here", "_law_many"] spNames) (G_l_drawn_power : Callee P w K mg base 2 "_law_drawn_power" ["_law_dice_here"] spPower)
    (G_product_text : Callee P w K mg base 1 "product_text" ["product"] (spPText K)) (G_l_product_text : Callee P w K mg base 2 "_law_product_text" ["_law_product"] (spPText K)) (G_l_read : Callee P w K mg base 7 "_law_read" ["_law_thing"] (spLRead K))
    (G_l_same : Callee P w K mg base 4 "_law_same" ["_law_one", "_law_other"] (spSame K 3)) (G_l_spoiled_sign : Callee P w K mg base 2 "_law_spoiled_sign" ["_law_dice_here", "_law_line", "_law_kind"] spSpoil)
    (G_l_text_of_menu : Callee P w K mg base 2 "_law_text_of_menu" ["_law_dice_here", "_law_name", "_law_other"] spMenu) (G_l_answers : Callee P w K mg base 8 "_law_answers" ["_law_text"] spAnswers) (G_l_is_integer : Callee P w K mg base 1 "_law_is_integer" ["_law_thing"] spIsInt) :
    FnOk P w K mg base CX0 9 f fd ["_law_script"] (spLaw K) := by
  refine F.ok (k := 8) sc_law (fun vs H Q E h => ?_) (fun cdv A outer s H vs Q E hr h => ?_)
  · obtain ⟨a, ns, rfl, _⟩ := h
    rfl
  · obtain ⟨a, ns, rfl, ha, hl, q⟩ := h
    have hu := hu_of hr
    have hu20 := hu20_of hr
    have hu40 := hu40_of hr
    have hu64 := hu64_of hr
    obtain ⟨f_l_dice, fd_l_dice, F_l_dice, m_l_dice, k_l_dice, b_l_dice⟩ := G_l_dice; obtain ⟨f_l_draw, fd_l_draw, F_l_draw, m_l_draw, k_l_draw, b_l_draw⟩ := G_l_draw; obtain ⟨f_l_names, fd_l_names, F_l_names, m_l_names, k_l_names, b_l_names⟩ := G_l_names; obtain ⟨f_l_drawn_power, fd_l_drawn_power, F_l_drawn_power, m_l_drawn_power, k_l_drawn_power, b_l_drawn_power⟩ := G_l_drawn_power; obtain ⟨f_product_text, fd_product_text, F_product_text, m_product_text, k_product_text, b_product_text⟩ := G_product_text; obtain ⟨f_l_product_text, fd_l_product_text, F_l_product_text, m_l_product_text, k_l_product_text, b_l_product_text⟩ := G_l_product_text; obtain ⟨f_l_read, fd_l_read, F_l_read, m_l_read, k_l_read, b_l_read⟩ := G_l_read; obtain ⟨f_l_same, fd_l_same, F_l_same, m_l_same, k_l_same, b_l_same⟩ := G_l_same; obtain ⟨f_l_spoiled_sign, fd_l_spoiled_sign, F_l_spoiled_sign, m_l_spoiled_sign, k_l_spoiled_sign, b_l_spoiled_sign⟩ := G_l_spoiled_sign; obtain ⟨f_l_text_of_menu, fd_l_text_of_menu, F_l_text_of_menu, m_l_text_of_menu, k_l_text_of_menu, b_l_text_of_menu⟩ := G_l_text_of_menu; obtain ⟨f_l_answers, fd_l_answers, F_l_answers, m_l_answers, k_l_answers, b_l_answers⟩ := G_l_answers; obtain ⟨f_l_is_integer, fd_l_is_integer, F_l_is_integer, m_l_is_integer, k_l_is_integer, b_l_is_integer⟩ := G_l_is_integer
    refine ⟨_, (pss_cons (ps_set (i := 1) sc_law.nd rfl (.inl rfl) (pe_call F_l_dice (hr.mono (by decide)) (by rfl) m_l_dice k_l_dice b_l_dice .nil pass0 (pa_cons (pv 0) pa_nil)))
  (pss_cons (ps_set (i := 2) sc_law.nd rfl (.inl rfl) (pe_lst (pa_cons (pe_call F_l_draw (hr.mono (by decide)) (by rfl) m_l_draw k_l_draw b_l_draw .nil pass0 (pa_cons (pv 1) (pa_cons pe_int pa_nil))) (pa_cons (pe_call F_l_draw (hr.mono (by decide)) (by rfl) m_l_draw k_l_draw b_l_draw .nil pass0 (pa_cons (pv 1) (pa_cons pe_int pa_nil))) pa_nil))))
  (pss_cons (ps_set (i := 3) sc_law.nd rfl (.inl rfl) (pe_call F_l_names (hr.mono (by decide)) (by rfl) m_l_names k_l_names b_l_names .nil pass0 (pa_cons (pv 1) (pa_cons pe_int pa_nil))))
  (pss_cons (ps_set (i := 4) sc_law.nd rfl (.inl rfl) (pe_tup pa_nil))
  (pss_cons (ps_for PassesOwn.never rfl (pi_list (pv 3)) (pg_name (i := 5) sc_law.nd rfl (.inl rfl))
    (pss_one (ps_if (pt_cmpR op_gt (pe_call F_l_draw (hr.mono (by decide)) (by rfl) m_l_draw k_l_draw b_l_draw .nil pass0 (pa_cons (pv 1) (pa_cons pe_int pa_nil))) pe_int (nomark _)) (pss_one (ps_set (i := 4) sc_law.nd rfl (.inl rfl) (pe_op (op_catAK (K := K)) (pv 4) (pe_tup (pa_cons (pe_tup (pa_cons (pv 5) (pa_cons (pe_call F_l_drawn_power (hr.mono (by decide)) (by rfl) m_l_drawn_power k_l_drawn_power b_l_drawn_power .nil pass0 (pa_cons (pv 1) pa_nil)) pa_nil))) pa_nil))))) pss_nil)))
  (pss_cons (ps_set (i := 6) sc_law.nd rfl (.inl rfl) (pe_call F_product_text (hr.mono (by decide)) (by rfl) m_product_text k_product_text b_product_text .nil pass0 (pa_cons (pv 4) pa_nil)))
  (pss_cons (ps_if (PW.pt (pw_or (pt_not (pt_val (pe_callB (call_isiK (K := K)) (by rfl) T.isinstance_ (by decide +kernel) (pa_cons (pv 6) (pa_cons (pe_bltn (v := .ty "str") (by rfl) T.str_ (by decide +kernel) rfl) pa_nil))))) (pw_or1 (pt_cmpR op_ne (pv 6) (pe_call F_l_product_text (hr.mono (by decide)) (by rfl) m_l_product_text k_l_product_text b_l_product_text .nil pass0 (pa_cons (pv 4) pa_nil)) (nomark _))))) (pss_one (ps_ret pe_bl)) pss_nil)
  (pss_cons (ps_set (i := 7) sc_law.nd rfl (.inl rfl) (pe_call F_l_read (hr.mono (by decide)) (by rfl) m_l_read k_l_read b_l_read .nil pass0 (pa_cons (pv 6) pa_nil)))
  (pss_cons (ps_set (i := 9) sc_law.nd rfl (.inl rfl) (pe_cmpR (op_eqU (K := K) hu40) (pe_callB (call_lenU (P := P) (w := w) (K := K)) (by rfl) T.len_ PySem.boot_len (pa_cons (pe_lc (own := [("_law_pair", 8)]) rfl sc_law.nd (pi_tup (pv 4)) (blkOk_by (N := N_law) (sc := defScope s_law) (by decide +kernel)) (fun _ _ _ _ _ => (pg_name (i := 8) sc_law.nd rfl (.inl rfl))) (fun _ _ _ _ _ => (pts_one (pt_cmpR op_ge (pe_ix (ix_tupK (K := K)) (pv 8) pe_int (fun _ _ => rfl)) (pe_op op_pow pe_int pe_int) (nomark _)))) (fun _ _ _ _ _ => (pv 8))) pa_nil)) pe_int (nomark _)))
  (pss_cons (ps_if (PW.pt (pw_and (pt_val (pv 9)) (pw_and1 (PW.pt (pw_or (pt_cmpR op_ne (pe_ix (ix_tupK (K := K)) (pv 7) pe_int (fun _ _ => rfl)) pe_str (nomark _)) (pw_or1 (pt_not (pt_val (pe_call F_l_same (hr.mono (by decide)) (by rfl) m_l_same k_l_same b_l_same .nil pass0 (pa_cons (pe_ix (ix_tupK (K := K)) (pv 7) pe_int (fun _ _ => rfl)) (pa_cons (pv 4) pa_nil))))))))))) (pss_one (ps_ret pe_bl)) pss_nil)
  (pss_cons (ps_if (PW.pt (pw_and (pt_not (pt_val (pv 9))) (pw_and1 (pt_cmpR (op_neP (K := K) hu64) (pv 7) (pe_tup (pa_cons pe_str (pa_cons pe_int pa_nil))) (nomark _))))) (pss_one (ps_ret pe_bl)) pss_nil)
  (pss_cons (ps_for PassesOwn.never rfl (pi_list (pv 2)) (pg_name (i := 10) sc_law.nd rfl (.inl rfl))
    (pss_one (ps_if (pt_cmpR (op_ltU (K := K) hu40) (pv 10) pe_int (nomark _)) (pss_one (ps_set (i := 6) sc_law.nd rfl (.inl rfl) (pe_call F_l_spoiled_sign (hr.mono (by decide)) (by rfl) m_l_spoiled_sign k_l_spoiled_sign b_l_spoiled_sign .nil pass0 (pa_cons (pv 1) (pa_cons (pv 6) (pa_cons (pv 10) pa_nil)))))) pss_nil)))
  (pss_cons (ps_set (i := 11) sc_law.nd rfl (.inl rfl) (pe_call F_l_text_of_menu (hr.mono (by decide)) (by rfl) m_l_text_of_menu k_l_text_of_menu b_l_text_of_menu .nil pass0 (pa_cons (pv 1) (pa_cons (pe_ix (ix_listK (K := K)) (pv 3) (pe_call F_l_draw (hr.mono (by decide)) (by rfl) m_l_draw k_l_draw b_l_draw .nil pass0 (pa_cons (pv 1) (pa_cons pe_int pa_nil))) (fun _ _ => rfl)) (pa_cons (pe_ix (ix_listK (K := K)) (pv 3) (pe_call F_l_draw (hr.mono (by decide)) (by rfl) m_l_draw k_l_draw b_l_draw .nil pass0 (pa_cons (pv 1) (pa_cons pe_int pa_nil))) (fun _ _ => rfl)) pa_nil)))))
  (pss_cons (ps_if (PW.pt (pw_or (pt_not (pt_val (pe_call F_l_answers (hr.mono (by decide)) (by rfl) m_l_answers k_l_answers b_l_answers .nil pass0 (pa_cons (pv 6) pa_nil)))) (pw_or1 (pt_not (pt_val (pe_call F_l_answers (hr.mono (by decide)) (by rfl) m_l_answers k_l_answers b_l_answers .nil pass0 (pa_cons (pv 11) pa_nil))))))) (pss_one (ps_ret pe_bl)) pss_nil)
  (pss_cons (ps_set (i := 12) sc_law.nd rfl (.inl rfl) (pe_lst (pa_cons pe_non (pa_cons pe_int (pa_cons pe_int (pa_cons pe_bl (pa_cons (pv 4) (pa_cons (pe_lst (pa_cons (pv 6) pa_nil)) (pa_cons pe_dnewK (pa_cons (pe_disp (pps_cons (pv 6) pe_int pps_nil) (by rfl) rfl (by simp) (by decide)) (pa_cons (pe_tup (pa_cons (pv 6) pa_nil)) pa_nil)))))))))))
  (pss_cons (ps_set (i := 7) sc_law.nd rfl (.inl rfl) (pe_call F_l_read (hr.mono (by decide)) (by rfl) m_l_read k_l_read b_l_read .nil pass0 (pa_cons (pe_ix (ix_listK (K := K)) (pv 12) (pe_call F_l_draw (hr.mono (by decide)) (by rfl) m_l_draw k_l_draw b_l_draw .nil pass0 (pa_cons (pv 1) (pa_cons (pe_callB (call_lenU (P := P) (w := w) (K := K)) (by rfl) T.len_ PySem.boot_len (pa_cons (pv 12) pa_nil)) pa_nil))) (fun _ _ => rfl)) pa_nil)))
  (pss_one (ps_ret (pe_and (pe_cmpR (op_eqU (K := K) hu40) (pe_ix (ix_tupK (K := K)) (pv 7) pe_int (fun _ _ => rfl)) pe_str (nomark _)) (pe_and (pe_call F_l_is_integer (hr.mono (by decide)) (by rfl) m_l_is_integer k_l_is_integer b_l_is_integer .nil pass0 (pa_cons (pe_ix (ix_tupK (K := K)) (pv 7) pe_int (fun _ _ => rfl)) pa_nil)) (pe_one (pe_cmpR (op_eqU (K := K) hu40) (pe_ix (ix_tupK (K := K)) (pv 7) pe_int (fun _ _ => rfl)) pe_int (nomark _))))))))))))))))))))))), ?_⟩
    rw [show L2.start N_law [V.ref a] = [some (V.ref a), none, none, none, none, none, none, none, none, none, none, none, none] from rfl]
    (try dsimp only [cxOf, Cx.nox, Cx.wish])
    walk_at "h"
    refine use_dice ha hl fun p c H1 np D1 s1 => ?_
    walk_at "h"
    refine use_draw D1 (by decide) (by decide) fun ka H2 ka0 ka1 D2 f2 => ?_
    walk_at "h"
    refine use_draw D2 (by decide) (by decide) fun kb H3 kb0 kb1 D3 f3 => ?_
    walk_at "h"
    refine ⟨sz_le (by simp only [List.length_cons, List.length_nil]; omega), fun kl nkl => ?_⟩
    have s4 : Same H3 (upd H3 kl (.lst [V.int ka, V.int kb])) := same_new nkl
    have hkl : (upd H3 kl (.lst [V.int ka, V.int kb])) kl = some (.lst [V.int ka, V.int kb]) := upd_same
    have klp := (D3.new nkl).1
    have D4 := D3.keep s4
    generalize upd H3 kl (.lst [V.int ka, V.int kb]) = H4 at s4 hkl D4
    walk_at "h"
    refine use_names D4 (by decide) (by decide) fun ys nl H5 ly ny nnl hnl D5 f5 => ?_
    have nlp : nl ≠ p := fun e => by
      obtain ⟨_, h⟩ := D4.lst
      rw [e, h] at nnl; cases nnl
    have hkl5 := f5 _ _ klp hkl
    clear s4 D4 hkl nkl D3 D2 D1 nnl
    walk_at "h"
    refine ⟨sz_le (by simp only [List.length_nil]; omega), fun t0 nt0 => ?_⟩
    have s6 : Same H5 (upd H5 t0 (.tup [])) := same_new nt0
    have kt0 : IsK K (upd H5 t0 (.tup [])) (prodK []) (.ref t0) := ⟨t0, [], rfl, sqt upd_same, rfl⟩
    have D6 := D5.keep s6
    have hnl6 := s6 _ _ hnl
    have hkl6 := s6 _ _ hkl5
    generalize upd H5 t0 (.tup []) = H6 at s6 kt0 D6 hnl6 hkl6
    clear s6 D5 hnl hkl5 nt0
    walk_at "h"
    refine rd_leafL (sql hnl6) ?_
    refine for_list (xs := ys.map V.str) (fun i σ H' => ∃ (ps : Tab) (t : Addr) (v5 : Option V), σ = [some (V.ref a), some (V.ref p), some (V.ref kl), some (V.ref nl), some (V.ref t), v5, none, none, none, none, none, none, none] ∧ IsK K H' (prodK ps) (.ref t) ∧ (ps.map (·.1)).Sublist (ys.take i) ∧ (∀ q ∈ ps, 1 ≤ q.2 ∧ q.2 ≤ 10 ^ 30) ∧ DiceAt H' p c ∧ H' nl = some (.lst (ys.map V.str)) ∧ H' kl = some (.lst [V.int ka, V.int kb])) ⟨[], t0, _, rfl, kt0, by simp, by simp, D6, hnl6, hkl6⟩ (fun i σ H' _ ⟨_, _, _, _, _, _, _, _, h, _⟩ => sql h) ?_ ?_
    · clear kt0 D6 hnl6 hkl6
      rintro i x σ H7 hx ⟨ps, t, v5, rfl, kt, sub, vp, D7, hnl7, hkl7⟩
      have hi : i < ys.length := by have := (List.getElem?_eq_some_iff.mp hx).1; rwa [List.length_map] at this
      rw [List.getElem?_map, List.getElem?_eq_getElem hi] at hx
      obtain rfl := Option.some.inj hx
      have etk := take_succ hi
      have lps : ps.length ≤ i := by
        have := sub.length_le
        rw [List.length_map, List.length_take] at this
        omega
      generalize ys[i] = z at etk
      walk_at "h"
      refine use_draw D7 (by decide) (by decide) fun k H8 k0 k1 D8 f8 => ?_
      have kt8 := kt.keep (f8.tup D7.lst.choose_spec)
      have hnl8 := f8 _ _ nlp hnl7
      have hkl8 := f8 _ _ klp hkl7
      walk_at "h"
      by_cases ck : 0 < k
      · rw [decide_eq_true ck]
        walk_at "h"
        refine ⟨p, c, rfl, D8, fun r H9 r0 r1 D9 f9 => ?_⟩
        have kt9 := kt8.keep (f9.tup D8.lst.choose_spec)
        have hnl9 := f9 _ _ nlp hnl8
        have hkl9 := f9 _ _ klp hkl8
        walk_at "h"
        refine ⟨sz_le (by simp only [List.length_cons, List.length_nil]; omega), fun p1 np1 => ?_⟩
        have e1 : Same H9 (upd H9 p1 (.tup [V.str z, V.int r])) := same_new np1
        have hp1 : (upd H9 p1 (.tup [V.str z, V.int r])) p1 = some (.tup [V.str z, V.int r]) := upd_same
        generalize upd H9 p1 (.tup [V.str z, V.int r]) = H10 at e1 hp1
        walk_at "h"
        refine ⟨sz_le (by simp only [List.length_cons, List.length_nil]; omega), fun p2 np2 => ?_⟩
        have e2 : Same H10 (upd H10 p2 (.tup [V.ref p1])) := same_new np2
        have hp2 : (upd H10 p2 (.tup [V.ref p1])) p2 = some (.tup [V.ref p1]) := upd_same
        have hp1' := e2 _ _ hp1
        generalize upd H10 p2 (.tup [V.ref p1]) = H11 at e2 hp2 hp1'
        have e12 := e1.trans e2
        obtain ⟨_, vs, et, st, kv, nv⟩ := prod_at (kt9.keep (same_tup e12))
        obtain rfl := V.ref.inj et
        refine rd_catA st (sqt hp2) (by simp only [List.length_cons, List.length_nil]; omega) fun r2 H12 hr2 s12 => ?_
        walk_at "h"
        have e9 := e12.trans s12
        refine ⟨ps ++ [(z, r)], r2, _, rfl, ⟨r2, _, rfl, hr2, ?_⟩, ?_, fun q hq => ?_, D9.keep e9, e9 _ _ hnl9, e9 _ _ hkl9⟩
        · rw [List.map_append]
          exact IsKs.app (IsKs.keep (same_tup s12) _ _ kv) ⟨_, [], rfl, ⟨p1, _, rfl, sqt (s12 _ _ hp1'), ⟨_, _, rfl, rfl, _, _, rfl, rfl, rfl⟩⟩, rfl⟩
        · rw [etk, List.map_append]
          exact List.Sublist.append sub (List.Sublist.refl _)
        · rcases List.mem_append.mp hq with h | h
          · exact vp q h
          · rw [List.mem_singleton.mp h]; exact ⟨r0, r1⟩
      · rw [decide_eq_false ck]
        walk_at "h"
        exact ⟨ps, t, _, rfl, kt8, by rw [etk]; exact sub.trans (List.sublist_append_left _ _), vp, D8, hnl8, hkl8⟩
    clear kt0 D6 hnl6 hkl6
    rintro σ' H7 ⟨ps, t, v5, rfl, kt, sub, vp, D7, hnl7, hkl7⟩
    rw [List.length_map, List.take_length] at sub
    have lps : ps.length ≤ 4 := by
      have := sub.length_le
      rw [List.length_map] at this
      omega
    have hnm : ∀ q ∈ ps, isNmL (cds q.1) = true ∧ 1 ≤ q.2 := fun q hq => by
      have hy := sub.subset (List.mem_map_of_mem hq)
      obtain ⟨a1, a2, a3⟩ := ny.1 _ hy
      rw [len_cds] at a1 a2
      exact ⟨isNmL_iff.mpr ⟨a1, a2, a3⟩, (vp q hq).1⟩
    have hpw : (ps.map fun q => cds q.1).Pairwise (· < ·) := by
      have h1 : (ps.map (·.1)).Pairwise SLt := (strict_of (sorted_pw ny.2.2) ny.2.1).sublist sub
      have h2 := List.pairwise_map.mp h1
      exact List.pairwise_map.mpr h2
    have hpt : ∀ q ∈ ps, q.1.length ≤ 8 ∧ 1 ≤ q.2 ∧ q.2 ≤ 10 ^ 30 := fun q hq => by
      rw [len_cds]
      exact ⟨(isNmL_iff.mp (hnm q hq).1).2.1, vp q hq⟩
    have hP := prodS_T hnm hpw
    have ltx : (textP ps).length ≤ 200 := textP_len hpt lps
    walk_at "h"
    refine ⟨t, ps, rfl, kt, by omega, hpt, fun H8 s8 => ?_⟩
    walk_at "h"
    refine rd_isi (.base (.str _)) rfl ?_
    walk_at "h"
    refine ⟨t, ps, rfl, kt.keep (same_tup s8), by omega, hpt, fun H9 s9 => ?_⟩
    walk_at "h"
    rw [show (!decide (mkS (textP ps) = mkS (textP ps))) = false by rw [decide_eq_true rfl]; rfl]
    have s89 := s8.trans s9
    have D9 := D7.keep s89
    have kt9 := kt.keep (same_tup (K := K) s89)
    have hnl9 := s89 _ _ hnl7
    have hkl9 := s89 _ _ hkl7
    clear s8 s9 s89 D7 kt hnl7 hkl7 H7 H8
    have lz9 : (mkS (textP ps)).length ≤ 200 := by rw [len_cds, cds_mk]; exact ltx
    walk_at "h"
    refine use_lread (by omega) (fun ps2 e2 u7 t7 H10 s10 su7 kt7 => ?_) (fun e2 u7 H10 s10 su7 => ?_)
    · rw [cds_mk, hP] at e2
      by_cases ball : ps.all (fun q => decide (q.2 < 10 ^ 9)) = true
      case neg => rw [if_neg ball] at e2; cases e2
      rw [if_pos ball] at e2
      obtain rfl := Option.some.inj e2
      have hb : (ps.filter fun q => decide (10 ^ 9 ≤ q.2)).length = 0 := by
        rw [List.length_eq_zero_iff, List.filter_eq_nil_iff]
        intro q hq w
        have := of_decide_eq_true (List.all_eq_true.mp ball q hq)
        have := of_decide_eq_true w
        omega
      walk_at "h"
      obtain ⟨_, vs, et, st, kv, nv⟩ := prod_at (kt9.keep (same_tup (K := K) s10))
      obtain rfl := V.ref.inj et
      refine rd_leafT st ?_
      intro D nD
      refine lc_tupW (xs := vs) [some (V.ref a), some (V.ref p), some (V.ref kl), some (V.ref nl), some (V.ref t), v5, some (V.str (mkS (textP ps))), some (V.ref u7), none, none, none, none, none] rfl (fun i H' => Same H10 H' ∧ ∃ ts : List V, H' D = some (.lst ts) ∧ ts.length = ((ps.take i).filter fun q => decide (10 ^ 9 ≤ q.2)).length) ⟨same_new nD, [], upd_same, rfl⟩ (fun i H' _ h => same_tup h.1 _ _ st) ?_ ?_
      · rintro i x H11 hx ⟨s2, ts, hD, lts⟩
        have hi : i < ps.length := by rw [← nv]; exact (List.getElem?_eq_some_iff.mp hx).1
        obtain ⟨u, rfl, su⟩ := pair_get kv hi hx
        have ef := filt_step1 (fun q : Str × Int => decide (10 ^ 9 ≤ q.2)) ps hi
        have lfi : ((ps.take i).filter fun q => decide (10 ^ 9 ≤ q.2)).length ≤ 4 := by
          have h1 := List.length_filter_le (fun q : Str × Int => decide (10 ^ 9 ≤ q.2)) (ps.take i)
          rw [List.length_take] at h1
          omega
        walk_at "h"
        refine ⟨rfl, ?_⟩
        walk_at "h"
        refine rd_ixt (same_tup s2 _ _ su) (atI_nat (j := 1) rfl) ?_
        walk_at "h"
        rw [show Int.toNat 9 = 9 from rfl]
        by_cases cq : (10 : Int) ^ 9 ≤ ps[i].2
        · rw [decide_eq_true cq]
          walk_at "h"
          refine ⟨ts, hD, sz_lt (by omega), same_mut s2 nD, _, upd_same, ?_⟩
          rw [ef, if_pos (decide_eq_true cq), List.length_append, List.length_append, lts]
          rfl
        · rw [decide_eq_false cq]
          walk_at "h"
          refine ⟨s2, ts, hD, ?_⟩
          rw [ef, if_neg (by rw [decide_eq_false cq]; decide), List.append_nil]
          exact lts
      rintro H11 ⟨s2, ts, hD, lts⟩
      rw [nv, List.take_length] at lts
      walk_at "h"
      refine rd_lenL (sql hD) ?_
      walk_at "h"
      rw [hb] at lts
      rw [show decide ((ts.length : Int) = 0) = true from decide_eq_true (by omega)]
      have s11 := s10.trans s2
      have su11 := same_tup (K := K) s2 _ _ su7
      have kt11 := kt7.keep (same_tup (K := K) s2)
      walk_at "h"
      refine rd_ixt su11 (atI_nat (j := 0) rfl) ?_
      walk_at "h"
      rw [show (!decide (Str.ofString "read" = Str.ofString "read")) = false from rfl]
      walk_at "h"
      refine rd_ixt su11 (atI_nat (j := 1) rfl) ?_
      walk_at "h"
      refine ⟨prodK ps, .ref t7, .ref t, rfl, kt11, kt9.keep (same_tup s11), by have := prodK_depth ps; omega, wide2_prod (by omega), fun H12 s12 => ?_⟩
      have s912 := s11.trans s12
      have D12 := D9.keep s912
      have kt12 := kt9.keep (same_tup (K := K) s912)
      have hnl12 := s912 _ _ hnl9
      have hkl12 := s912 _ _ hkl9
      walk_at "h"
      refine rd_leafL (sql hkl12) ?_
      refine for_list (xs := [V.int ka, V.int kb]) (fun i σ H' => ∃ (z : Str) (v10 : Option V), σ = [some (V.ref a), some (V.ref p), some (V.ref kl), some (V.ref nl), some (V.ref t), v5, some (V.str z), some (V.ref u7), none, some (V.bl true), v10, none, none] ∧ z.length ≤ 200 + i ∧ IsK K H' (prodK ps) (.ref t) ∧ DiceAt H' p c ∧ H' nl = some (.lst (ys.map V.str)) ∧ H' kl = some (.lst [V.int ka, V.int kb])) ⟨mkS (textP ps), _, rfl, lz9, kt12, D12, hnl12, hkl12⟩ (fun i σ H' _ ⟨_, _, _, _, _, _, _, h⟩ => sql h) ?_ ?_
      · clear D12 kt12 hnl12 hkl12
        rintro i x σ H13 hx ⟨z, v10, rfl, lz, kt13, D13, hnl13, hkl13⟩
        have hi2 : i < 2 := (List.getElem?_eq_some_iff.mp hx).1
        obtain ⟨k, rfl⟩ : ∃ k : Int, x = .int k := by
          match i, hi2, hx with
          | 0, _, hx => exact ⟨ka, (Option.some.inj hx).symm⟩
          | 1, _, hx => exact ⟨kb, (Option.some.inj hx).symm⟩
        walk_at "h"
        by_cases ck : k < 3
        · rw [decide_eq_true ck]
          walk_at "h"
          refine ⟨p, c, z, k, rfl, D13, by omega, fun z' H14 lz' D14 f14 => ?_⟩
          walk_at "h"
          exact ⟨z', _, rfl, by omega, kt13.keep (f14.tup D13.lst.choose_spec), D14, f14 _ _ nlp hnl13, f14 _ _ klp hkl13⟩
        · rw [decide_eq_false ck]
          walk_at "h"
          exact ⟨z, _, rfl, by omega, kt13, D13, hnl13, hkl13⟩
      clear D12 kt12 hnl12 hkl12
      rintro σ' H13 ⟨z, v10, rfl, lz, kt13, D13, hnl13, hkl13⟩
      replace lz : z.length ≤ 202 := lz
      walk_at "h"
      refine use_draw D13 (by decide) (by decide) fun r1 H14 r10 r11 D14 f14 => ?_
      obtain ⟨j1, rfl⟩ := Int.eq_ofNat_of_zero_le r10
      have hj1 : j1 < ys.length := by omega
      have hnl14 := f14 _ _ nlp hnl13
      refine rd_ixl (sql hnl14) (atI_nat (j := j1) (by rw [List.getElem?_map, List.getElem?_eq_getElem hj1]; rfl)) ?_
      walk_at "h"
      refine use_draw D14 (by decide) (by decide) fun r2 H15 r20 r21 D15 f15 => ?_
      obtain ⟨j2, rfl⟩ := Int.eq_ofNat_of_zero_le r20
      have hj2 : j2 < ys.length := by omega
      have hnl15 := f15 _ _ nlp hnl14
      refine rd_ixl (sql hnl15) (atI_nat (j := j2) (by rw [List.getElem?_map, List.getElem?_eq_getElem hj2]; rfl)) ?_
      walk_at "h"
      refine ⟨p, c, ys[j1], ys[j2], rfl, D15, (ny.1 _ (List.getElem_mem hj1)).2.1, (ny.1 _ (List.getElem_mem hj2)).2.1, fun mz H16 lmz D16 f16 => ?_⟩
      have kt16 := ((kt13.keep (f14.tup D13.lst.choose_spec)).keep (f15.tup D14.lst.choose_spec)).keep (f16.tup D15.lst.choose_spec)
      walk_at "h"
      refine ⟨z, rfl, by omega, fun H17 s17 => ?_⟩
      walk_at "h"
      refine ⟨mz, rfl, by omega, fun H18 s18 => ?_⟩
      have s1618 := s17.trans s18
      have D18 := D16.keep s1618
      have kt18 := kt16.keep (same_tup (K := K) s1618)
      walk_at "h"
      refine ⟨sz_le (by simp only [List.length_cons, List.length_nil]; omega), fun a1 na1 => ?_⟩
      have g1 := same_new (o := .lst [V.str z]) na1
      have ha1 : (upd H18 a1 (.lst [V.str z])) a1 = some (.lst [V.str z]) := upd_same
      generalize upd H18 a1 (.lst [V.str z]) = H19 at g1 ha1
      walk_at "h"
      intro a2 na2
      have g2 := same_new (o := .dK []) na2
      have ha2 : (upd H19 a2 (.dK [])) a2 = some (.dK []) := upd_same
      generalize upd H19 a2 (.dK []) = H20 at g2 ha2
      walk_at "h"
      intro a3 na3
      have g3 := same_new (o := .dK []) na3
      have ha3 : (upd H20 a3 (.dK [])) a3 = some (.dK []) := upd_same
      have g3' : ∀ o : HO, Same H20 (upd (upd H20 a3 (.dK [])) a3 o) := fun o => same_mut g3 na3
      generalize upd H20 a3 (.dK []) = H21 at g3 ha3 g3'
      refine rd_tp1 ?_
      walk_at "h"
      refine ⟨ha3, [(Sum.inr z, .int 1)], rfl, by simp, ?_⟩
      have g4 := g3' (.dK (mergeK [] [((Sum.inr z : Key), V.int 1)]))
      have ha4 : (upd H21 a3 (.dK (mergeK [] [((Sum.inr z : Key), V.int 1)]))) a3 = some (.dK (mergeK [] [((Sum.inr z : Key), V.int 1)])) := upd_same
      generalize upd H21 a3 (.dK (mergeK [] [((Sum.inr z : Key), V.int 1)])) = H22 at g4 ha4
      walk_at "h"
      refine ⟨sz_le (by simp only [List.length_cons, List.length_nil]; omega), fun a5 na5 => ?_⟩
      have g5 := same_new (o := .tup [V.str z]) na5
      have ha5 : (upd H22 a5 (.tup [V.str z])) a5 = some (.tup [V.str z]) := upd_same
      generalize upd H22 a5 (.tup [V.str z]) = H23 at g5 ha5
      walk_at "h"
      refine ⟨sz_le (by simp only [List.length_cons, List.length_nil]; omega), fun a6 na6 => ?_⟩
      have g6 := same_new (o := .lst [V.non, V.int 1, V.int 0, V.bl true, V.ref t, V.ref a1, V.ref a2, V.ref a3, V.ref a5]) na6
      have ha6 : (upd H23 a6 (.lst [V.non, V.int 1, V.int 0, V.bl true, V.ref t, V.ref a1, V.ref a2, V.ref a3, V.ref a5])) a6 = some (.lst [V.non, V.int 1, V.int 0, V.bl true, V.ref t, V.ref a1, V.ref a2, V.ref a3, V.ref a5]) := upd_same
      generalize upd H23 a6 (.lst [V.non, V.int 1, V.int 0, V.bl true, V.ref t, V.ref a1, V.ref a2, V.ref a3, V.ref a5]) = H24 at g6 ha6
      have g56 := g5.trans g6
      have D24 := D18.keep ((g1.trans g2).trans (g4.trans g56))
      have kt24 := kt18.keep (same_tup (K := K) ((g1.trans g2).trans (g4.trans g56)))
      have x1 := ((g2.trans (g4.trans g56))) _ _ ha1
      have x2 := (g4.trans g56) _ _ ha2
      have x3 := g56 _ _ ha4
      have x5 := g6 _ _ ha5
      have npx : ∀ {x : Addr} {o : HO}, H24 x = some o → (∀ xs, o = .lst xs → xs.length ≠ 5) → x ≠ p := fun {x o} hx ho e => by
        obtain ⟨cells, pos, pend, seed, cnt, h, _⟩ := D24
        rw [e, h] at hx
        exact ho _ (Option.some.inj hx).symm rfl
      walk_at "h"
      refine rd_lenL (sql ha6) ?_
      walk_at "h"
      refine use_draw D24 (by simp only [List.length_cons, List.length_nil]; omega) (by simp only [List.length_cons, List.length_nil]; omega) fun k H25 k0 k1 D25 f25 => ?_
      replace k1 : k < 9 := k1
      have x6 := f25 _ _ (npx ha6 (fun xs e w => by cases e; simp at w)) ha6
      have y1 := f25 _ _ (npx x1 (fun xs e w => by cases e; simp at w)) x1
      have y2 := f25 _ _ (npx x2 (fun xs e => nomatch e)) x2
      have y3 := f25 _ _ (npx x3 (fun xs e => nomatch e)) x3
      have y5 := f25 _ _ (npx x5 (fun xs e => nomatch e)) x5
      have ky := kt24.keep (f25.tup D24.lst.choose_spec)
      obtain ⟨_, tvs, tet, tst, _, _⟩ := prod_at ky
      obtain rfl := V.ref.inj tet
      have hty : ∃ (v : V) (ty : String), atI [V.non, V.int 1, V.int 0, V.bl true, V.ref t, V.ref a1, V.ref a2, V.ref a3, V.ref a5] k = some v ∧ TyX K H25 v (.type ty) ∧ kitB ty "str" = some false := by
        obtain rfl | rfl | rfl | rfl | rfl | rfl | rfl | rfl | rfl : k = 0 ∨ k = 1 ∨ k = 2 ∨ k = 3 ∨ k = 4 ∨ k = 5 ∨ k = 6 ∨ k = 7 ∨ k = 8 := by omega
        · exact ⟨_, _, rfl, .base .non, rfl⟩
        · exact ⟨_, _, rfl, .base (.int 1), rfl⟩
        · exact ⟨_, _, rfl, .base (.int 0), rfl⟩
        · exact ⟨_, _, rfl, .base (.bl true), rfl⟩
        · exact ⟨_, _, rfl, sqt_ty tst, rfl⟩
        · exact ⟨_, _, rfl, .base (.lst y1), rfl⟩
        · exact ⟨_, _, rfl, .base (.dK y2), rfl⟩
        · exact ⟨_, _, rfl, .base (.dK y3), rfl⟩
        · exact ⟨_, _, rfl, .base (.tup y5), rfl⟩
      obtain ⟨v, ty, hat, htx, hkx⟩ := hty
      refine rd_ixl (sql x6) hat ?_
      walk_at "h"
      refine use_lread0 htx hkx fun u9 H26 s26 su9 => ?_
      walk_at "h"
      refine rd_ixt su9 (atI_nat (j := 0) rfl) ?_
      walk_at "h"
      rw [show decide (Str.ofString "text" = Str.ofString "text") = true from decide_eq_true rfl]
      walk_at "h"
      refine rd_ixt su9 (atI_nat (j := 1) rfl) ?_
      walk_at "h"
      refine use_isInt ?_
      walk_at "h"
      refine rd_ixt su9 (atI_nat (j := 1) rfl) ?_
      walk_at "h"
      exact q H26
    · rw [cds_mk, hP] at e2
      by_cases ball : ps.all (fun q => decide (q.2 < 10 ^ 9)) = true
      case pos => rw [if_pos ball] at e2; cases e2
      have hb : (ps.filter fun q => decide (10 ^ 9 ≤ q.2)).length ≠ 0 := by
        intro w
        rw [List.length_eq_zero_iff, List.filter_eq_nil_iff] at w
        refine ball (List.all_eq_true.mpr fun q hq => decide_eq_true ?_)
        have := w q hq
        simp only [decide_eq_true_eq] at this
        omega
      walk_at "h"
      obtain ⟨_, vs, et, st, kv, nv⟩ := prod_at (kt9.keep (same_tup (K := K) s10))
      obtain rfl := V.ref.inj et
      refine rd_leafT st ?_
      intro D nD
      refine lc_tupW (xs := vs) [some (V.ref a), some (V.ref p), some (V.ref kl), some (V.ref nl), some (V.ref t), v5, some (V.str (mkS (textP ps))), some (V.ref u7), none, none, none, none, none] rfl (fun i H' => Same H10 H' ∧ ∃ ts : List V, H' D = some (.lst ts) ∧ ts.length = ((ps.take i).filter fun q => decide (10 ^ 9 ≤ q.2)).length) ⟨same_new nD, [], upd_same, rfl⟩ (fun i H' _ h => same_tup h.1 _ _ st) ?_ ?_
      · rintro i x H11 hx ⟨s2, ts, hD, lts⟩
        have hi : i < ps.length := by rw [← nv]; exact (List.getElem?_eq_some_iff.mp hx).1
        obtain ⟨u, rfl, su⟩ := pair_get kv hi hx
        have ef := filt_step1 (fun q : Str × Int => decide (10 ^ 9 ≤ q.2)) ps hi
        have lfi : ((ps.take i).filter fun q => decide (10 ^ 9 ≤ q.2)).length ≤ 4 := by
          have h1 := List.length_filter_le (fun q : Str × Int => decide (10 ^ 9 ≤ q.2)) (ps.take i)
          rw [List.length_take] at h1
          omega
        walk_at "h"
        refine ⟨rfl, ?_⟩
        walk_at "h"
        refine rd_ixt (same_tup s2 _ _ su) (atI_nat (j := 1) rfl) ?_
        walk_at "h"
        rw [show Int.toNat 9 = 9 from rfl]
        by_cases cq : (10 : Int) ^ 9 ≤ ps[i].2
        · rw [decide_eq_true cq]
          walk_at "h"
          refine ⟨ts, hD, sz_lt (by omega), same_mut s2 nD, _, upd_same, ?_⟩
          rw [ef, if_pos (decide_eq_true cq), List.length_append, List.length_append, lts]
          rfl
        · rw [decide_eq_false cq]
          walk_at "h"
          refine ⟨s2, ts, hD, ?_⟩
          rw [ef, if_neg (by rw [decide_eq_false cq]; decide), List.append_nil]
          exact lts
      rintro H11 ⟨s2, ts, hD, lts⟩
      rw [nv, List.take_length] at lts
      walk_at "h"
      refine rd_lenL (sql hD) ?_
      walk_at "h"
      rw [show decide ((ts.length : Int) = 0) = false from decide_eq_false (by omega)]
      have s11 := s10.trans s2
      have su11 := same_tup (K := K) s2 _ _ su7
      walk_at "h"
      refine ⟨sz_le (by simp only [List.length_cons, List.length_nil]; omega), fun u8 nu8 => ?_⟩
      have s12 := same_new (o := .tup [V.str "text", V.int 1]) nu8
      have hu8 : (upd H11 u8 (.tup [V.str "text", V.int 1])) u8 = some (.tup [V.str "text", V.int 1]) := upd_same
      generalize upd H11 u8 (.tup [V.str "text", V.int 1]) = H12 at s12 hu8
      have s912 := s11.trans s12
      refine ⟨.tuple [.str "text", .int 1], .tuple [.str "text", .int 1], .tup (same_tup s12 _ _ su11) (.cons (.str _) (.cons (.int _) .nil)), .tup (sqt hu8) (.cons (.str _) (.cons (.int _) .nil)), by decide +kernel, by decide +kernel, ?_⟩
      rw [show (!PyData.eqv (.tuple [.str "text", .int 1]) (.tuple [.str "text", .int 1])) = false by simp [PyData.eqv, PyData.eqvAll]]
      have D12 := D9.keep s912
      have kt12 := kt9.keep (same_tup (K := K) s912)
      have hnl12 := s912 _ _ hnl9
      have hkl12 := s912 _ _ hkl9
      walk_at "h"
      refine rd_leafL (sql hkl12) ?_
      refine for_list (xs := [V.int ka, V.int kb]) (fun i σ H' => ∃ (z : Str) (v10 : Option V), σ = [some (V.ref a), some (V.ref p), some (V.ref kl), some (V.ref nl), some (V.ref t), v5, some (V.str z), some (V.ref u7), none, some (V.bl false), v10, none, none] ∧ z.length ≤ 200 + i ∧ IsK K H' (prodK ps) (.ref t) ∧ DiceAt H' p c ∧ H' nl = some (.lst (ys.map V.str)) ∧ H' kl = some (.lst [V.int ka, V.int kb])) ⟨mkS (textP ps), _, rfl, lz9, kt12, D12, hnl12, hkl12⟩ (fun i σ H' _ ⟨_, _, _, _, _, _, _, h⟩ => sql h) ?_ ?_
      · clear D12 kt12 hnl12 hkl12
        rintro i x σ H13 hx ⟨z, v10, rfl, lz, kt13, D13, hnl13, hkl13⟩
        have hi2 : i < 2 := (List.getElem?_eq_some_iff.mp hx).1
        obtain ⟨k, rfl⟩ : ∃ k : Int, x = .int k := by
          match i, hi2, hx with
          | 0, _, hx => exact ⟨ka, (Option.some.inj hx).symm⟩
          | 1, _, hx => exact ⟨kb, (Option.some.inj hx).symm⟩
        walk_at "h"
        by_cases ck : k < 3
        · rw [decide_eq_true ck]
          walk_at "h"
          refine ⟨p, c, z, k, rfl, D13, by omega, fun z' H14 lz' D14 f14 => ?_⟩
          walk_at "h"
          exact ⟨z', _, rfl, by omega, kt13.keep (f14.tup D13.lst.choose_spec), D14, f14 _ _ nlp hnl13, f14 _ _ klp hkl13⟩
        · rw [decide_eq_false ck]
          walk_at "h"
          exact ⟨z, _, rfl, by omega, kt13, D13, hnl13, hkl13⟩
      clear D12 kt12 hnl12 hkl12
      rintro σ' H13 ⟨z, v10, rfl, lz, kt13, D13, hnl13, hkl13⟩
      replace lz : z.length ≤ 202 := lz
      walk_at "h"
      refine use_draw D13 (by decide) (by decide) fun r1 H14 r10 r11 D14 f14 => ?_
      obtain ⟨j1, rfl⟩ := Int.eq_ofNat_of_zero_le r10
      have hj1 : j1 < ys.length := by omega
      have hnl14 := f14 _ _ nlp hnl13
      refine rd_ixl (sql hnl14) (atI_nat (j := j1) (by rw [List.getElem?_map, List.getElem?_eq_getElem hj1]; rfl)) ?_
      walk_at "h"
      refine use_draw D14 (by decide) (by decide) fun r2 H15 r20 r21 D15 f15 => ?_
      obtain ⟨j2, rfl⟩ := Int.eq_ofNat_of_zero_le r20
      have hj2 : j2 < ys.length := by omega
      have hnl15 := f15 _ _ nlp hnl14
      refine rd_ixl (sql hnl15) (atI_nat (j := j2) (by rw [List.getElem?_map, List.getElem?_eq_getElem hj2]; rfl)) ?_
      walk_at "h"
      refine ⟨p, c, ys[j1], ys[j2], rfl, D15, (ny.1 _ (List.getElem_mem hj1)).2.1, (ny.1 _ (List.getElem_mem hj2)).2.1, fun mz H16 lmz D16 f16 => ?_⟩
      have kt16 := ((kt13.keep (f14.tup D13.lst.choose_spec)).keep (f15.tup D14.lst.choose_spec)).keep (f16.tup D15.lst.choose_spec)
      walk_at "h"
      refine ⟨z, rfl, by omega, fun H17 s17 => ?_⟩
      walk_at "h"
      refine ⟨mz, rfl, by omega, fun H18 s18 => ?_⟩
      have s1618 := s17.trans s18
      have D18 := D16.keep s1618
      have kt18 := kt16.keep (same_tup (K := K) s1618)
      walk_at "h"
      refine ⟨sz_le (by simp only [List.length_cons, List.length_nil]; omega), fun a1 na1 => ?_⟩
      have g1 := same_new (o := .lst [V.str z]) na1
      have ha1 : (upd H18 a1 (.lst [V.str z])) a1 = some (.lst [V.str z]) := upd_same
      generalize upd H18 a1 (.lst [V.str z]) = H19 at g1 ha1
      walk_at "h"
      intro a2 na2
      have g2 := same_new (o := .dK []) na2
      have ha2 : (upd H19 a2 (.dK [])) a2 = some (.dK []) := upd_same
      generalize upd H19 a2 (.dK []) = H20 at g2 ha2
      walk_at "h"
      intro a3 na3
      have g3 := same_new (o := .dK []) na3
      have ha3 : (upd H20 a3 (.dK [])) a3 = some (.dK []) := upd_same
      have g3' : ∀ o : HO, Same H20 (upd (upd H20 a3 (.dK [])) a3 o) := fun o => same_mut g3 na3
      generalize upd H20 a3 (.dK []) = H21 at g3 ha3 g3'
      refine rd_tp1 ?_
      walk_at "h"
      refine ⟨ha3, [(Sum.inr z, .int 1)], rfl, by simp, ?_⟩
      have g4 := g3' (.dK (mergeK [] [((Sum.inr z : Key), V.int 1)]))
      have ha4 : (upd H21 a3 (.dK (mergeK [] [((Sum.inr z : Key), V.int 1)]))) a3 = some (.dK (mergeK [] [((Sum.inr z : Key), V.int 1)])) := upd_same
      generalize upd H21 a3 (.dK (mergeK [] [((Sum.inr z : Key), V.int 1)])) = H22 at g4 ha4
      walk_at "h"
      refine ⟨sz_le (by simp only [List.length_cons, List.length_nil]; omega), fun a5 na5 => ?_⟩
      have g5 := same_new (o := .tup [V.str z]) na5
      have ha5 : (upd H22 a5 (.tup [V.str z])) a5 = some (.tup [V.str z]) := upd_same
      generalize upd H22 a5 (.tup [V.str z]) = H23 at g5 ha5
      walk_at "h"
      refine ⟨sz_le (by simp only [List.length_cons, List.length_nil]; omega), fun a6 na6 => ?_⟩
      have g6 := same_new (o := .lst [V.non, V.int 1, V.int 0, V.bl true, V.ref t, V.ref a1, V.ref a2, V.ref a3, V.ref a5]) na6
      have ha6 : (upd H23 a6 (.lst [V.non, V.int 1, V.int 0, V.bl true, V.ref t, V.ref a1, V.ref a2, V.ref a3, V.ref a5])) a6 = some (.lst [V.non, V.int 1, V.int 0, V.bl true, V.ref t, V.ref a1, V.ref a2, V.ref a3, V.ref a5]) := upd_same
      generalize upd H23 a6 (.lst [V.non, V.int 1, V.int 0, V.bl true, V.ref t, V.ref a1, V.ref a2, V.ref a3, V.ref a5]) = H24 at g6 ha6
      have g56 := g5.trans g6
      have D24 := D18.keep ((g1.trans g2).trans (g4.trans g56))
      have kt24 := kt18.keep (same_tup (K := K) ((g1.trans g2).trans (g4.trans g56)))
      have x1 := ((g2.trans (g4.trans g56))) _ _ ha1
      have x2 := (g4.trans g56) _ _ ha2
      have x3 := g56 _ _ ha4
      have x5 := g6 _ _ ha5
      have npx : ∀ {x : Addr} {o : HO}, H24 x = some o → (∀ xs, o = .lst xs → xs.length ≠ 5) → x ≠ p := fun {x o} hx ho e => by
        obtain ⟨cells, pos, pend, seed, cnt, h, _⟩ := D24
        rw [e, h] at hx
        exact ho _ (Option.some.inj hx).symm rfl
      walk_at "h"
      refine rd_lenL (sql ha6) ?_
      walk_at "h"
      refine use_draw D24 (by simp only [List.length_cons, List.length_nil]; omega) (by simp only [List.length_cons, List.length_nil]; omega) fun k H25 k0 k1 D25 f25 => ?_
      replace k1 : k < 9 := k1
      have x6 := f25 _ _ (npx ha6 (fun xs e w => by cases e; simp at w)) ha6
      have y1 := f25 _ _ (npx x1 (fun xs e w => by cases e; simp at w)) x1
      have y2 := f25 _ _ (npx x2 (fun xs e => nomatch e)) x2
      have y3 := f25 _ _ (npx x3 (fun xs e => nomatch e)) x3
      have y5 := f25 _ _ (npx x5 (fun xs e => nomatch e)) x5
      have ky := kt24.keep (f25.tup D24.lst.choose_spec)
      obtain ⟨_, tvs, tet, tst, _, _⟩ := prod_at ky
      obtain rfl := V.ref.inj tet
      have hty : ∃ (v : V) (ty : String), atI [V.non, V.int 1, V.int 0, V.bl true, V.ref t, V.ref a1, V.ref a2, V.ref a3, V.ref a5] k = some v ∧ TyX K H25 v (.type ty) ∧ kitB ty "str" = some false := by
        obtain rfl | rfl | rfl | rfl | rfl | rfl | rfl | rfl | rfl : k = 0 ∨ k = 1 ∨ k = 2 ∨ k = 3 ∨ k = 4 ∨ k = 5 ∨ k = 6 ∨ k = 7 ∨ k = 8 := by omega
        · exact ⟨_, _, rfl, .base .non, rfl⟩
        · exact ⟨_, _, rfl, .base (.int 1), rfl⟩
        · exact ⟨_, _, rfl, .base (.int 0), rfl⟩
        · exact ⟨_, _, rfl, .base (.bl true), rfl⟩
        · exact ⟨_, _, rfl, sqt_ty tst, rfl⟩
        · exact ⟨_, _, rfl, .base (.lst y1), rfl⟩
        · exact ⟨_, _, rfl, .base (.dK y2), rfl⟩
        · exact ⟨_, _, rfl, .base (.dK y3), rfl⟩
        · exact ⟨_, _, rfl, .base (.tup y5), rfl⟩
      obtain ⟨v, ty, hat, htx, hkx⟩ := hty
      refine rd_ixl (sql x6) hat ?_
      walk_at "h"
      refine use_lread0 htx hkx fun u9 H26 s26 su9 => ?_
      walk_at "h"
      refine rd_ixt su9 (atI_nat (j := 0) rfl) ?_
      walk_at "h"
      rw [show decide (Str.ofString "text" = Str.ofString "text") = true from decide_eq_true rfl]
      walk_at "h"
      refine rd_ixt su9 (atI_nat (j := 1) rfl) ?_
      walk_at "h"
      refine use_isInt ?_
      walk_at "h"
      refine rd_ixt su9 (atI_nat (j := 1) rfl) ?_
      walk_at "h"
      exact q H26

end
end K94
namespace K94
open PySem PySem.Spec PyProof.Rows L2 HH TL
theorem all_mk {l : PySem.W.OpenLaw} {w : World} {K : PySem.W.Frag} {h : Heap} {mg : Str → Option Value} {fa : Addr} (X : K.In h) (G : h.Ns mainGlobals mg) (hfa : mg "law" = some (.ref fa))
    {f0 f1 f2 f3 f4 f5 f6 f7 f8 f9 f10 f11 f12 f13 f14 f15 f16 f17 f18 f19 f20 f21 f22 f23 f24 f25 : Addr} {od0 an0 od1 an1 od2 an2 od3 an3 od4 an4 od5 an5 od6 an6 od7 an7 od8 an8 od9 an9 od10 an10 od11 an11 od12 an12 od13 an13 od14 an14 od15 an15 od16 an16 od17 an17 od18 an18 od19 an19 od20 an20 od21 an21 od22 an22 od23 an23 od24 an24 od25 an25 : Option Addr} {sl0 sl1 sl2 sl3 sl4 sl5 sl6 sl7 sl8 sl9 sl10 sl11 sl12 sl13 sl14 sl15 sl16 sl17 sl18 sl19 sl20 sl21 sl22 sl23 sl24 sl25 : Array (Option Value)} {oc0 kV0 dc0 pm0 cd0 ct0 oc1 kV1 dc1 pm1 cd1 ct1 oc2 kV2 dc2 pm2 cd2 ct2 oc3 kV3 dc3 pm3 cd3 ct3 oc4 kV4 dc4 pm4 cd4 ct4 oc5 kV5 dc5 pm5 cd5 ct5 oc6 kV6 dc6 pm6 cd6 ct6 oc7 kV7 dc7 pm7 cd7 ct7 oc8 kV8 dc8 pm8 cd8 ct8 oc9 kV9 dc9 pm9 cd9 ct9 oc10 kV10 dc10 pm10 cd10 ct10 oc11 kV11 dc11 pm11 cd11 ct11 oc12 kV12 dc12 pm12 cd12 ct12 oc13 kV13 dc13 pm13 cd13 ct13 oc14 kV14 dc14 pm14 cd14 ct14 oc15 kV15 dc15 pm15 cd15 ct15 oc16 kV16 dc16 pm16 cd16 ct16 oc17 kV17 dc17 pm17 cd17 ct17 oc18 kV18 dc18 pm18 cd18 ct18 oc19 kV19 dc19 pm19 cd19 ct19 oc20 kV20 dc20 pm20 cd20 ct20 oc21 kV21 dc21 pm21 cd21 ct21 oc22 kV22 dc22 pm22 cd22 ct22 oc23 kV23 dc23 pm23 cd23 ct23 oc24 kV24 dc24 pm24 cd24 ct24 oc25 kV25 dc25 pm25 cd25 ct25 : Value}
    {C fi N : Addr} {nm q : Str} {bs bm : List Value} {sn : List Str} {sub : List Value} {ab : Bool} {col : Option Bool} {dd odi ani : Option Addr} {m0 m1 m2 m3 m5 : Option Value} {oci kVi dci pmi cdi cti : Value} {sli : Array (Option Value)} {t8 t9 : Tok}
    (e8 : PySem.W.nsIn K mainGlobals "LONGEST_NAME" = some (some (.int 8 t8))) (e9 : PySem.W.nsIn K mainGlobals "LONGEST_NUMBER" = some (some (.int 9 t9)))
    (eC : PySem.W.nsIn K mainGlobals "BadText" = some (some (.ref C))) (xL : K.lookup C = some (excClassObj nm q C N bs bm true sn sub ab col dd m0 m1 m2 m3 m5 "ValueError.__new__")) (xR : PySem.HandSPX.refsVE bm = true)
    (sa : PySem.W.findIn K (.ref C) "__setattr__" = some (some (.builtin "object.__setattr__"))) (ga : PySem.W.findIn K (.ref C) "__getattribute__" = some (some (.builtin "BaseException.__getattribute__"))) (gg : PySem.W.findIn K (.ref C) "__getattr__" = some none) (nb : PySem.W.findIn K (.ref C) "line" = some none)
    (ai : PySem.W.findIn K (.ref C) "__init__" = some (some (.ref fi))) (ti : PySem.W.typeIn K (.ref fi) = some (.type "function"))
    (li : K.lookup fi = some ⟨oci, odi, .func (PySem.W.fnOf "__init__" "BadText.__init__" (defArgs s_BadText___init__) (defBody s_BadText___init__) (defScope s_BadText___init__) .none kVi dci pmi ani cdi cti), sli⟩) (ci : PySem.W.codeIn K cdi "BadText.__init__" = true) (ki : PySem.W.keepIn K (.ref fi) = true)
    (kC : PySem.W.keepIn K (.ref C) = true) (xC : PySem.W.subIn K (.ref C) (.type "BaseException") = some true) (tC : PySem.W.typeIn K (.ref C) = some (.type "type")) (hC : PySem.W.hasDictIn K C = true)
    (at_ : PySem.W.findIn K (.ref C) "__class__" = some (some (.builtin "object.__class__"))) (gt : PySem.W.specialIn K (.builtin "object.__class__") "__get__" = some (some (.builtin "getset_descriptor.__get__"))) (tk : PySem.W.takesIn K (.builtin "object.__class__") = some true) (mr : PySem.W.mroIn K C (.type "object") = some true)
    (sH : PySem.W.subIn K (.ref C) (.ref C) = some true)
    (a0 : PySem.W.nsIn K mainGlobals "is_name" = some (some (.ref f0))) (l0 : K.lookup f0 = some ⟨oc0, od0, .func (PySem.W.fnOf "is_name" "is_name" (defArgs s_is_name) (defBody s_is_name) (defScope s_is_name) .none kV0 dc0 pm0 an0 cd0 ct0), sl0⟩) (c0 : PySem.W.codeIn K cd0 "is_name" = true) (k0 : PySem.W.keepIn K (.ref f0) = true)
    (a1 : PySem.W.nsIn K mainGlobals "ascending" = some (some (.ref f1))) (l1 : K.lookup f1 = some ⟨oc1, od1, .func (PySem.W.fnOf "ascending" "ascending" (defArgs s_ascending) (defBody s_ascending) (defScope s_ascending) .none kV1 dc1 pm1 an1 cd1 ct1), sl1⟩) (c1 : PySem.W.codeIn K cd1 "ascending" = true) (k1 : PySem.W.keepIn K (.ref f1) = true)
    (a2 : PySem.W.nsIn K mainGlobals "number_in" = some (some (.ref f2))) (l2 : K.lookup f2 = some ⟨oc2, od2, .func (PySem.W.fnOf "number_in" "number_in" (defArgs s_number_in) (defBody s_number_in) (defScope s_number_in) .none kV2 dc2 pm2 an2 cd2 ct2), sl2⟩) (c2 : PySem.W.codeIn K cd2 "number_in" = true) (k2 : PySem.W.keepIn K (.ref f2) = true)
    (a3 : PySem.W.nsIn K mainGlobals "product_in" = some (some (.ref f3))) (l3 : K.lookup f3 = some ⟨oc3, od3, .func (PySem.W.fnOf "product_in" "product_in" (defArgs s_product_in) (defBody s_product_in) (defScope s_product_in) .none kV3 dc3 pm3 an3 cd3 ct3), sl3⟩) (c3 : PySem.W.codeIn K cd3 "product_in" = true) (k3 : PySem.W.keepIn K (.ref f3) = true)
    (a4 : PySem.W.nsIn K mainGlobals "_product_of" = some (some (.ref f4))) (l4 : K.lookup f4 = some ⟨oc4, od4, .func (PySem.W.fnOf "_product_of" "_product_of" (defArgs s__product_of) (defBody s__product_of) (defScope s__product_of) .none kV4 dc4 pm4 an4 cd4 ct4), sl4⟩) (c4 : PySem.W.codeIn K cd4 "_product_of" = true) (k4 : PySem.W.keepIn K (.ref f4) = true)
    (a5 : PySem.W.nsIn K mainGlobals "_pair_in" = some (some (.ref f5))) (l5 : K.lookup f5 = some ⟨oc5, od5, .func (PySem.W.fnOf "_pair_in" "_pair_in" (defArgs s__pair_in) (defBody s__pair_in) (defScope s__pair_in) .none kV5 dc5 pm5 an5 cd5 ct5), sl5⟩) (c5 : PySem.W.codeIn K cd5 "_pair_in" = true) (k5 : PySem.W.keepIn K (.ref f5) = true)
    (a6 : PySem.W.nsIn K mainGlobals "product_text" = some (some (.ref f6))) (l6 : K.lookup f6 = some ⟨oc6, od6, .func (PySem.W.fnOf "product_text" "product_text" (defArgs s_product_text) (defBody s_product_text) (defScope s_product_text) .none kV6 dc6 pm6 an6 cd6 ct6), sl6⟩) (c6 : PySem.W.codeIn K cd6 "product_text" = true) (k6 : PySem.W.keepIn K (.ref f6) = true)
    (a7 : PySem.W.nsIn K mainGlobals "read_product" = some (some (.ref f7))) (l7 : K.lookup f7 = some ⟨oc7, od7, .func (PySem.W.fnOf "read_product" "read_product" (defArgs s_read_product) (defBody s_read_product) (defScope s_read_product) .none kV7 dc7 pm7 an7 cd7 ct7), sl7⟩) (c7 : PySem.W.codeIn K cd7 "read_product" = true) (k7 : PySem.W.keepIn K (.ref f7) = true)
    (a8 : PySem.W.nsIn K mainGlobals "_law_dice" = some (some (.ref f8))) (l8 : K.lookup f8 = some ⟨oc8, od8, .func (PySem.W.fnOf "_law_dice" "_law_dice" (defArgs s_l_dice) (defBody s_l_dice) (defScope s_l_dice) .none kV8 dc8 pm8 an8 cd8 ct8), sl8⟩) (c8 : PySem.W.codeIn K cd8 "_law_dice" = true) (k8 : PySem.W.keepIn K (.ref f8) = true)
    (a9 : PySem.W.nsIn K mainGlobals "_law_draw" = some (some (.ref f9))) (l9 : K.lookup f9 = some ⟨oc9, od9, .func (PySem.W.fnOf "_law_draw" "_law_draw" (defArgs s_l_draw) (defBody s_l_draw) (defScope s_l_draw) .none kV9 dc9 pm9 an9 cd9 ct9), sl9⟩) (c9 : PySem.W.codeIn K cd9 "_law_draw" = true) (k9 : PySem.W.keepIn K (.ref f9) = true)
    (a10 : PySem.W.nsIn K mainGlobals "_law_word" = some (some (.ref f10))) (l10 : K.lookup f10 = some ⟨oc10, od10, .func (PySem.W.fnOf "_law_word" "_law_word" (defArgs s_l_word) (defBody s_l_word) (defScope s_l_word) .none kV10 dc10 pm10 an10 cd10 ct10), sl10⟩) (c10 : PySem.W.codeIn K cd10 "_law_word" = true) (k10 : PySem.W.keepIn K (.ref f10) = true)
    (a11 : PySem.W.nsIn K mainGlobals "_law_names" = some (some (.ref f11))) (l11 : K.lookup f11 = some ⟨oc11, od11, .func (PySem.W.fnOf "_law_names" "_law_names" (defArgs s_l_names) (defBody s_l_names) (defScope s_l_names) .none kV11 dc11 pm11 an11 cd11 ct11), sl11⟩) (c11 : PySem.W.codeIn K cd11 "_law_names" = true) (k11 : PySem.W.keepIn K (.ref f11) = true)
    (a12 : PySem.W.nsIn K mainGlobals "_law_is_integer" = some (some (.ref f12))) (l12 : K.lookup f12 = some ⟨oc12, od12, .func (PySem.W.fnOf "_law_is_integer" "_law_is_integer" (defArgs s_l_is_integer) (defBody s_l_is_integer) (defScope s_l_is_integer) .none kV12 dc12 pm12 an12 cd12 ct12), sl12⟩) (c12 : PySem.W.codeIn K cd12 "_law_is_integer" = true) (k12 : PySem.W.keepIn K (.ref f12) = true)
    (a13 : PySem.W.nsIn K mainGlobals "_law_same" = some (some (.ref f13))) (l13 : K.lookup f13 = some ⟨oc13, od13, .func (PySem.W.fnOf "_law_same" "_law_same" (defArgs s_l_same) (defBody s_l_same) (defScope s_l_same) .none kV13 dc13 pm13 an13 cd13 ct13), sl13⟩) (c13 : PySem.W.codeIn K cd13 "_law_same" = true) (k13 : PySem.W.keepIn K (.ref f13) = true)
    (a14 : PySem.W.nsIn K mainGlobals "_law_pair_text" = some (some (.ref f14))) (l14 : K.lookup f14 = some ⟨oc14, od14, .func (PySem.W.fnOf "_law_pair_text" "_law_pair_text" (defArgs s_l_pair_text) (defBody s_l_pair_text) (defScope s_l_pair_text) .none kV14 dc14 pm14 an14 cd14 ct14), sl14⟩) (c14 : PySem.W.codeIn K cd14 "_law_pair_text" = true) (k14 : PySem.W.keepIn K (.ref f14) = true)
    (a15 : PySem.W.nsIn K mainGlobals "_law_product_text" = some (some (.ref f15))) (l15 : K.lookup f15 = some ⟨oc15, od15, .func (PySem.W.fnOf "_law_product_text" "_law_product_text" (defArgs s_l_product_text) (defBody s_l_product_text) (defScope s_l_product_text) .none kV15 dc15 pm15 an15 cd15 ct15), sl15⟩) (c15 : PySem.W.codeIn K cd15 "_law_product_text" = true) (k15 : PySem.W.keepIn K (.ref f15) = true)
    (a16 : PySem.W.nsIn K mainGlobals "_law_is_name" = some (some (.ref f16))) (l16 : K.lookup f16 = some ⟨oc16, od16, .func (PySem.W.fnOf "_law_is_name" "_law_is_name" (defArgs s_l_is_name) (defBody s_l_is_name) (defScope s_l_is_name) .none kV16 dc16 pm16 an16 cd16 ct16), sl16⟩) (c16 : PySem.W.codeIn K cd16 "_law_is_name" = true) (k16 : PySem.W.keepIn K (.ref f16) = true)
    (a17 : PySem.W.nsIn K mainGlobals "_law_number" = some (some (.ref f17))) (l17 : K.lookup f17 = some ⟨oc17, od17, .func (PySem.W.fnOf "_law_number" "_law_number" (defArgs s_l_number) (defBody s_l_number) (defScope s_l_number) .none kV17 dc17 pm17 an17 cd17 ct17), sl17⟩) (c17 : PySem.W.codeIn K cd17 "_law_number" = true) (k17 : PySem.W.keepIn K (.ref f17) = true)
    (a18 : PySem.W.nsIn K mainGlobals "_law_pairs_in" = some (some (.ref f18))) (l18 : K.lookup f18 = some ⟨oc18, od18, .func (PySem.W.fnOf "_law_pairs_in" "_law_pairs_in" (defArgs s_l_pairs_in) (defBody s_l_pairs_in) (defScope s_l_pairs_in) .none kV18 dc18 pm18 an18 cd18 ct18), sl18⟩) (c18 : PySem.W.codeIn K cd18 "_law_pairs_in" = true) (k18 : PySem.W.keepIn K (.ref f18) = true)
    (a19 : PySem.W.nsIn K mainGlobals "_law_term_in" = some (some (.ref f19))) (l19 : K.lookup f19 = some ⟨oc19, od19, .func (PySem.W.fnOf "_law_term_in" "_law_term_in" (defArgs s_l_term_in) (defBody s_l_term_in) (defScope s_l_term_in) .none kV19 dc19 pm19 an19 cd19 ct19), sl19⟩) (c19 : PySem.W.codeIn K cd19 "_law_term_in" = true) (k19 : PySem.W.keepIn K (.ref f19) = true)
    (a20 : PySem.W.nsIn K mainGlobals "_law_spoiled_sign" = some (some (.ref f20))) (l20 : K.lookup f20 = some ⟨oc20, od20, .func (PySem.W.fnOf "_law_spoiled_sign" "_law_spoiled_sign" (defArgs s_l_spoiled_sign) (defBody s_l_spoiled_sign) (defScope s_l_spoiled_sign) .none kV20 dc20 pm20 an20 cd20 ct20), sl20⟩) (c20 : PySem.W.codeIn K cd20 "_law_spoiled_sign" = true) (k20 : PySem.W.keepIn K (.ref f20) = true)
    (a21 : PySem.W.nsIn K mainGlobals "_law_read" = some (some (.ref f21))) (l21 : K.lookup f21 = some ⟨oc21, od21, .func (PySem.W.fnOf "_law_read" "_law_read" (defArgs s_l_read) (defBody s_l_read) (defScope s_l_read) .none kV21 dc21 pm21 an21 cd21 ct21), sl21⟩) (c21 : PySem.W.codeIn K cd21 "_law_read" = true) (k21 : PySem.W.keepIn K (.ref f21) = true)
    (a22 : PySem.W.nsIn K mainGlobals "_law_drawn_power" = some (some (.ref f22))) (l22 : K.lookup f22 = some ⟨oc22, od22, .func (PySem.W.fnOf "_law_drawn_power" "_law_drawn_power" (defArgs s_l_drawn_power) (defBody s_l_drawn_power) (defScope s_l_drawn_power) .none kV22 dc22 pm22 an22 cd22 ct22), sl22⟩) (c22 : PySem.W.codeIn K cd22 "_law_drawn_power" = true) (k22 : PySem.W.keepIn K (.ref f22) = true)
    (a23 : PySem.W.nsIn K mainGlobals "_law_text_of_menu" = some (some (.ref f23))) (l23 : K.lookup f23 = some ⟨oc23, od23, .func (PySem.W.fnOf "_law_text_of_menu" "_law_text_of_menu" (defArgs s_l_text_of_menu) (defBody s_l_text_of_menu) (defScope s_l_text_of_menu) .none kV23 dc23 pm23 an23 cd23 ct23), sl23⟩) (c23 : PySem.W.codeIn K cd23 "_law_text_of_menu" = true) (k23 : PySem.W.keepIn K (.ref f23) = true)
    (a24 : PySem.W.nsIn K mainGlobals "_law_answers" = some (some (.ref f24))) (l24 : K.lookup f24 = some ⟨oc24, od24, .func (PySem.W.fnOf "_law_answers" "_law_answers" (defArgs s_l_answers) (defBody s_l_answers) (defScope s_l_answers) .none kV24 dc24 pm24 an24 cd24 ct24), sl24⟩) (c24 : PySem.W.codeIn K cd24 "_law_answers" = true) (k24 : PySem.W.keepIn K (.ref f24) = true)
    (a25 : PySem.W.nsIn K mainGlobals "law" = some (some (.ref f25))) (l25 : K.lookup f25 = some ⟨oc25, od25, .func (PySem.W.fnOf "law" "law" (defArgs s_law) (defBody s_law) (defScope s_law) .none kV25 dc25 pm25 an25 cd25 ct25), sl25⟩) (c25 : PySem.W.codeIn K cd25 "law" = true) (k25 : PySem.W.keepIn K (.ref f25) = true)
    (z0 : PySem.W.nsIn K mainGlobals "len" = some none)
    (z1 : PySem.W.nsIn K mainGlobals "int" = some none)
    (z2 : PySem.W.nsIn K mainGlobals "abs" = some none)
    (z3 : PySem.W.nsIn K mainGlobals "range" = some none)
    (z4 : PySem.W.nsIn K mainGlobals "sorted" = some none)
    (z5 : PySem.W.nsIn K mainGlobals "tuple" = some none)
    (z6 : PySem.W.nsIn K mainGlobals "list" = some none)
    (z7 : PySem.W.nsIn K mainGlobals "all" = some none)
    (z8 : PySem.W.nsIn K mainGlobals "any" = some none)
    (z9 : PySem.W.nsIn K mainGlobals "isinstance" = some none)
    (z10 : PySem.W.nsIn K mainGlobals "bool" = some none)
    (z11 : PySem.W.nsIn K mainGlobals "str" = some none)
    (z12 : PySem.W.nsIn K mainGlobals "dict" = some none)
    (z13 : PySem.W.nsIn K mainGlobals "min" = some none)
    (z14 : PySem.W.nsIn K mainGlobals "max" = some none)
    (z15 : PySem.W.nsIn K mainGlobals "zip" = some none)
    (z16 : PySem.W.nsIn K mainGlobals "enumerate" = some none) :
    ∃ fd : FuncData, (∀ (s : Shared) (v : Value), BindsTo s fd ⟨[v], []⟩ [("_law_script", v)]) ∧ ∀ base : Heap, K.In base → base.Ns mainGlobals mg → FnOk l.prog w K mg base CX0 9 fa fd ["_law_script"] (spLaw K) := by
  have e := hfa.symm.trans (PySem.W.mg_of X G a25)
  cases e
  have T : Bi mg := ⟨PySem.W.mg_none_of X G z0, PySem.W.mg_none_of X G z1, PySem.W.mg_none_of X G z2, PySem.W.mg_none_of X G z3, PySem.W.mg_none_of X G z4, PySem.W.mg_none_of X G z5, PySem.W.mg_none_of X G z6, PySem.W.mg_none_of X G z7, PySem.W.mg_none_of X G z8, PySem.W.mg_none_of X G z9, PySem.W.mg_none_of X G z10, PySem.W.mg_none_of X G z11, PySem.W.mg_none_of X G z12, PySem.W.mg_none_of X G z13, PySem.W.mg_none_of X G z14, PySem.W.mg_none_of X G z15, PySem.W.mg_none_of X G z16⟩
  have F_is_name := fun_mk (st := s_is_name) l0 c0 k0
  have B_is_name := F_is_name.binds (ps := ["thing"]) fun _ _ _ _ _ _ us hl => match us, hl with | [_], _ => rfl
  have F_ascending := fun_mk (st := s_ascending) l1 c1 k1
  have B_ascending := F_ascending.binds (ps := ["things"]) fun _ _ _ _ _ _ us hl => match us, hl with | [_], _ => rfl
  have F_number_in := fun_mk (st := s_number_in) l2 c2 k2
  have B_number_in := F_number_in.binds (ps := ["text"]) fun _ _ _ _ _ _ us hl => match us, hl with | [_], _ => rfl
  have F_product_in := fun_mk (st := s_product_in) l3 c3 k3
  have B_product_in := F_product_in.binds (ps := ["text"]) fun _ _ _ _ _ _ us hl => match us, hl with | [_], _ => rfl
  have F__product_of := fun_mk (st := s__product_of) l4 c4 k4
  have B__product_of := F__product_of.binds (ps := ["factors"]) fun _ _ _ _ _ _ us hl => match us, hl with | [_], _ => rfl
  have F__pair_in := fun_mk (st := s__pair_in) l5 c5 k5
  have B__pair_in := F__pair_in.binds (ps := ["text"]) fun _ _ _ _ _ _ us hl => match us, hl with | [_], _ => rfl
  have F_product_text := fun_mk (st := s_product_text) l6 c6 k6
  have B_product_text := F_product_text.binds (ps := ["product"]) fun _ _ _ _ _ _ us hl => match us, hl with | [_], _ => rfl
  have F_read_product := fun_mk (st := s_read_product) l7 c7 k7
  have B_read_product := F_read_product.binds (ps := ["text"]) fun _ _ _ _ _ _ us hl => match us, hl with | [_], _ => rfl
  have F_l_dice := fun_mk (st := s_l_dice) l8 c8 k8
  have B_l_dice := F_l_dice.binds (ps := ["_law_script"]) fun _ _ _ _ _ _ us hl => match us, hl with | [_], _ => rfl
  have F_l_draw := fun_mk (st := s_l_draw) l9 c9 k9
  have B_l_draw := F_l_draw.binds (ps := ["_law_dice_here", "_law_many"]) fun _ _ _ _ _ _ us hl => match us, hl with | [_, _], _ => rfl
  have F_l_word := fun_mk (st := s_l_word) l10 c10 k10
  have B_l_word := F_l_word.binds (ps := ["_law_dice_here", "_law_most"]) fun _ _ _ _ _ _ us hl => match us, hl with | [_, _], _ => rfl
  have F_l_names := fun_mk (st := s_l_names) l11 c11 k11
  have B_l_names := F_l_names.binds (ps := ["_law_dice_here", "_law_many"]) fun _ _ _ _ _ _ us hl => match us, hl with | [_, _], _ => rfl
  have F_l_is_integer := fun_mk (st := s_l_is_integer) l12 c12 k12
  have B_l_is_integer := F_l_is_integer.binds (ps := ["_law_thing"]) fun _ _ _ _ _ _ us hl => match us, hl with | [_], _ => rfl
  have F_l_same := fun_mk (st := s_l_same) l13 c13 k13
  have B_l_same := F_l_same.binds (ps := ["_law_one", "_law_other"]) fun _ _ _ _ _ _ us hl => match us, hl with | [_, _], _ => rfl
  have F_l_pair_text := fun_mk (st := s_l_pair_text) l14 c14 k14
  have B_l_pair_text := F_l_pair_text.binds (ps := ["_law_pair"]) fun _ _ _ _ _ _ us hl => match us, hl with | [_], _ => rfl
  have F_l_product_text := fun_mk (st := s_l_product_text) l15 c15 k15
  have B_l_product_text := F_l_product_text.binds (ps := ["_law_product"]) fun _ _ _ _ _ _ us hl => match us, hl with | [_], _ => rfl
  have F_l_is_name := fun_mk (st := s_l_is_name) l16 c16 k16
  have B_l_is_name := F_l_is_name.binds (ps := ["_law_word_here"]) fun _ _ _ _ _ _ us hl => match us, hl with | [_], _ => rfl
  have F_l_number := fun_mk (st := s_l_number) l17 c17 k17
  have B_l_number := F_l_number.binds (ps := ["_law_word_here", "_law_least"]) fun _ _ _ _ _ _ us hl => match us, hl with | [_, _], _ => rfl
  have F_l_pairs_in := fun_mk (st := s_l_pairs_in) l18 c18 k18
  have B_l_pairs_in := F_l_pairs_in.binds (ps := ["_law_parts"]) fun _ _ _ _ _ _ us hl => match us, hl with | [_], _ => rfl
  have F_l_term_in := fun_mk (st := s_l_term_in) l19 c19 k19
  have B_l_term_in := F_l_term_in.binds (ps := ["_law_text"]) fun _ _ _ _ _ _ us hl => match us, hl with | [_], _ => rfl
  have F_l_spoiled_sign := fun_mk (st := s_l_spoiled_sign) l20 c20 k20
  have B_l_spoiled_sign := F_l_spoiled_sign.binds (ps := ["_law_dice_here", "_law_line", "_law_kind"]) fun _ _ _ _ _ _ us hl => match us, hl with | [_, _, _], _ => rfl
  have F_l_read := fun_mk (st := s_l_read) l21 c21 k21
  have B_l_read := F_l_read.binds (ps := ["_law_thing"]) fun _ _ _ _ _ _ us hl => match us, hl with | [_], _ => rfl
  have F_l_drawn_power := fun_mk (st := s_l_drawn_power) l22 c22 k22
  have B_l_drawn_power := F_l_drawn_power.binds (ps := ["_law_dice_here"]) fun _ _ _ _ _ _ us hl => match us, hl with | [_], _ => rfl
  have F_l_text_of_menu := fun_mk (st := s_l_text_of_menu) l23 c23 k23
  have B_l_text_of_menu := F_l_text_of_menu.binds (ps := ["_law_dice_here", "_law_name", "_law_other"]) fun _ _ _ _ _ _ us hl => match us, hl with | [_, _, _], _ => rfl
  have F_l_answers := fun_mk (st := s_l_answers) l24 c24 k24
  have B_l_answers := F_l_answers.binds (ps := ["_law_text"]) fun _ _ _ _ _ _ us hl => match us, hl with | [_], _ => rfl
  have F_law := fun_mk (st := s_law) l25 c25 k25
  have ox : OexC K C := ⟨⟨nm, q, N, bs, bm, sn, sub, ab, col, dd, m0, m1, m2, m3, m5, xL, xR⟩, sa, xC, tC, kC⟩
  have E : ErrC K mg "BadText" "line" C fi := ⟨ox, PySem.W.mg_of X G eC, ai, ti, nb, ⟨ga, gg, xC, hC⟩, at_, gt, tk, mr⟩
  have F_init := fun_mk (st := s_BadText___init__) li ci ki
  have B_init := F_init.binds (ps := ["self", "line"]) fun _ _ _ _ _ _ us hl => match us, hl with | [_, _], _ => rfl
  have xm := PySem.W.exm_ref xC hC tC sH
  refine ⟨PySem.W.fnOf "law" "law" (defArgs s_law) (defBody s_law) (defScope s_law) .none kV25 dc25 pm25 an25 cd25 ct25, fun s v => .of_eq rfl, fun base _ _ => ?_⟩
  have X_BadText : ErrAt l.prog w K mg base "BadText" "line" C := ⟨fi, _, E, ok_init F_init ox nb, B_init⟩
  have G_l_dice : Callee l.prog w K mg base 1 "_law_dice" ["_law_script"] (spDice K) := ⟨_, _, ok_dice F_l_dice T, PySem.W.mg_of X G a8, F_l_dice.kp, B_l_dice⟩
  have G_l_draw : Callee l.prog w K mg base 1 "_law_draw" ["_law_dice_here", "_law_many"] spDraw := ⟨_, _, ok_draw F_l_draw T, PySem.W.mg_of X G a9, F_l_draw.kp, B_l_draw⟩
  have G_l_word : Callee l.prog w K mg base 2 "_law_word" ["_law_dice_here", "_law_most"] spWord := ⟨_, _, ok_word F_l_word T G_l_draw, PySem.W.mg_of X G a10, F_l_word.kp, B_l_word⟩
  have G_l_names : Callee l.prog w K mg base 3 "_law_names" ["_law_dice_here", "_law_many"] spNames := ⟨_, _, ok_names F_l_names T G_l_draw G_l_word, PySem.W.mg_of X G a11, F_l_names.kp, B_l_names⟩
  have G_isint : Callee l.prog w K mg base 1 "_law_is_integer" ["_law_thing"] spIsInt := ⟨_, _, ok_isint F_l_is_integer T, PySem.W.mg_of X G a12, F_l_is_integer.kp, B_l_is_integer⟩
  have G_same : Callee l.prog w K mg base 4 "_law_same" ["_law_one", "_law_other"] (spSame K 3) := ⟨_, _, ok_same F_l_same T (PySem.W.mg_of X G a13) F_l_same.kp B_l_same 3, PySem.W.mg_of X G a13, F_l_same.kp, B_l_same⟩
  have G_isname : Callee l.prog w K mg base 1 "is_name" ["thing"] spIsName := ⟨_, _, ok_isname F_is_name T ⟨_, PySem.W.mg_of X G e8⟩, PySem.W.mg_of X G a0, F_is_name.kp, B_is_name⟩
  have G_numin : Callee l.prog w K mg base 1 "number_in" ["text"] spNumIn := ⟨_, _, ok_numin F_number_in T ⟨_, PySem.W.mg_of X G e9⟩, PySem.W.mg_of X G a2, F_number_in.kp, B_number_in⟩
  have G_pairin : Callee l.prog w K mg base 2 "_pair_in" ["text"] (spPairIn K) := ⟨_, _, ok_pairin F__pair_in T G_isname G_numin, PySem.W.mg_of X G a5, F__pair_in.kp, B__pair_in⟩
  have G_asc : Callee l.prog w K mg base 1 "ascending" ["things"] spAsc := ⟨_, _, ok_asc F_ascending T, PySem.W.mg_of X G a1, F_ascending.kp, B_ascending⟩
  have G_prodof : Callee l.prog w K mg base 3 "_product_of" ["factors"] (spProdOf K) := ⟨_, _, ok_prodof F__product_of T G_pairin G_asc, PySem.W.mg_of X G a4, F__product_of.kp, B__product_of⟩
  have G_prodin : Callee l.prog w K mg base 4 "product_in" ["text"] (spProdIn K) := ⟨_, _, ok_prodin F_product_in T G_prodof, PySem.W.mg_of X G a3, F_product_in.kp, B_product_in⟩
  have G_ptext : Callee l.prog w K mg base 1 "product_text" ["product"] (spPText K) := ⟨_, _, ok_ptext F_product_text T, PySem.W.mg_of X G a6, F_product_text.kp, B_product_text⟩
  have G_read : CalleeX l.prog w K mg base 6 "read_product" ["text"] (spRead K C) := ⟨_, _, ok_read F_read_product T X_BadText G_prodin, PySem.W.mg_of X G a7, F_read_product.kp, B_read_product⟩
  have G_lpair : Callee l.prog w K mg base 1 "_law_pair_text" ["_law_pair"] (spLPair K) := ⟨_, _, ok_lpair F_l_pair_text T, PySem.W.mg_of X G a14, F_l_pair_text.kp, B_l_pair_text⟩
  have G_lptext : Callee l.prog w K mg base 2 "_law_product_text" ["_law_product"] (spPText K) := ⟨_, _, ok_lptext F_l_product_text T G_lpair, PySem.W.mg_of X G a15, F_l_product_text.kp, B_l_product_text⟩
  have G_lname : Callee l.prog w K mg base 1 "_law_is_name" ["_law_word_here"] spLName := ⟨_, _, ok_lname F_l_is_name T, PySem.W.mg_of X G a16, F_l_is_name.kp, B_l_is_name⟩
  have G_lnum : Callee l.prog w K mg base 1 "_law_number" ["_law_word_here", "_law_least"] spLNum := ⟨_, _, ok_lnum F_l_number T, PySem.W.mg_of X G a17, F_l_number.kp, B_l_number⟩
  have G_lpairs : Callee l.prog w K mg base 2 "_law_pairs_in" ["_law_parts"] (spProdOf K) := ⟨_, _, ok_lpairs F_l_pairs_in T G_lname G_lnum, PySem.W.mg_of X G a18, F_l_pairs_in.kp, B_l_pairs_in⟩
  have G_lterm : Callee l.prog w K mg base 3 "_law_term_in" ["_law_text"] (spLTerm K) := ⟨_, _, ok_lterm F_l_term_in T G_lnum G_lpairs, PySem.W.mg_of X G a19, F_l_term_in.kp, B_l_term_in⟩
  have G_lread : Callee l.prog w K mg base 7 "_law_read" ["_law_thing"] (spLRead K) := ⟨_, _, ok_lread F_l_read T X_BadText xm G_read, PySem.W.mg_of X G a21, F_l_read.kp, B_l_read⟩
  have G_power : Callee l.prog w K mg base 2 "_law_drawn_power" ["_law_dice_here"] spPower := ⟨_, _, ok_power F_l_drawn_power T G_l_draw, PySem.W.mg_of X G a22, F_l_drawn_power.kp, B_l_drawn_power⟩
  have G_spoil : Callee l.prog w K mg base 2 "_law_spoiled_sign" ["_law_dice_here", "_law_line", "_law_kind"] spSpoil := ⟨_, _, ok_spoil F_l_spoiled_sign T G_l_draw, PySem.W.mg_of X G a20, F_l_spoiled_sign.kp, B_l_spoiled_sign⟩
  have G_menu : Callee l.prog w K mg base 2 "_law_text_of_menu" ["_law_dice_here", "_law_name", "_law_other"] spMenu := ⟨_, _, ok_menu F_l_text_of_menu T G_l_draw, PySem.W.mg_of X G a23, F_l_text_of_menu.kp, B_l_text_of_menu⟩
  have G_answers : Callee l.prog w K mg base 8 "_law_answers" ["_law_text"] spAnswers := ⟨_, _, ok_answers F_l_answers T G_lterm G_lread G_isint G_same G_ptext, PySem.W.mg_of X G a24, F_l_answers.kp, B_l_answers⟩
  exact ok_law F_law T G_l_dice G_l_draw G_l_names G_power G_ptext G_lptext G_lread G_same G_spoil G_menu G_answers G_isint
end K94
open PySem PySem.W PyProof.Rows
set_option maxRecDepth 100000 in
set_option maxHeartbeats 0 in
theorem PySem.Challenge.cw_howhigh_k94_product_texts_there_and_back_holds : PySem.Challenge.rw_howhigh_k94_product_texts_there_and_back.Holds := by
  w_on; o_law; k_head; (case hw => w_witness2)
  k_fill
  refine L2.walk_of (l := PySem.Challenge.rw_howhigh_k94_product_texts_there_and_back) (n := 63) (k := 9) (x := "_law_script") (CX := fun _ => L2.CX0) (sp := fun w => K94.spLaw _) rfl (by decide) rfl ⟨rfl, by decide, by decide⟩ (fun w h Y => PySem.W.kIn_of Y) ?F (fun _ _ a ns hl _ hS => ⟨a, ns, rfl, hS, hl, fun _ => rfl⟩) (fun _ _ _ _ _ h => h)
  case F =>
    intro w mg fa h KX G hmg
    refine' K94.all_mk KX G hmg ?e8 ?e9 ?eC ?xL ?xR ?sa ?ga ?gg ?nb ?ai ?ti ?li ?ci ?ki ?kC ?xC ?tC ?hC ?at_ ?gt ?tk ?mr ?sH ?a0 ?l0 ?c0 ?k0 ?a1 ?l1 ?c1 ?k1 ?a2 ?l2 ?c2 ?k2 ?a3 ?l3 ?c3 ?k3 ?a4 ?l4 ?c4 ?k4 ?a5 ?l5 ?c5 ?k5 ?a6 ?l6 ?c6 ?k6 ?a7 ?l7 ?c7 ?k7 ?a8 ?l8 ?c8 ?k8 ?a9 ?l9 ?c9 ?k9 ?a10 ?l10 ?c10 ?k10 ?a11 ?l11 ?c11 ?k11 ?a12 ?l12 ?c12 ?k12 ?a13 ?l13 ?c13 ?k13 ?a14 ?l14 ?c14 ?k14 ?a15 ?l15 ?c15 ?k15 ?a16 ?l16 ?c16 ?k16 ?a17 ?l17 ?c17 ?k17 ?a18 ?l18 ?c18 ?k18 ?a19 ?l19 ?c19 ?k19 ?a20 ?l20 ?c20 ?k20 ?a21 ?l21 ?c21 ?k21 ?a22 ?l22 ?c22 ?k22 ?a23 ?l23 ?c23 ?k23 ?a24 ?l24 ?c24 ?k24 ?a25 ?l25 ?c25 ?k25 ?z0 ?z1 ?z2 ?z3 ?z4 ?z5 ?z6 ?z7 ?z8 ?z9 ?z10 ?z11 ?z12 ?z13 ?z14 ?z15 ?z16
    (case e8 => k_is); (case e9 => k_is)
    (case eC => k_is); (case xL => k_is); (case xR => first | rfl | k_is); (case sa => k_is); (case ga => k_is); (case gg => k_is); (case nb => k_is)
    (case ai => k_is); (case ti => k_is); (case li => k_is); (case ci => k_is); (case ki => k_is); (case kC => k_is); (case xC => k_is); (case tC => k_is); (case hC => k_is)
    (case at_ => k_is); (case gt => k_is); (case tk => k_is); (case mr => k_is); (case sH => k_is)
    (case a0 => k_is); (case l0 => k_is); (case c0 => k_is); (case k0 => k_is); (case a1 => k_is); (case l1 => k_is); (case c1 => k_is); (case k1 => k_is)
    (case a2 => k_is); (case l2 => k_is); (case c2 => k_is); (case k2 => k_is); (case a3 => k_is); (case l3 => k_is); (case c3 => k_is); (case k3 => k_is)
    (case a4 => k_is); (case l4 => k_is); (case c4 => k_is); (case k4 => k_is); (case a5 => k_is); (case l5 => k_is); (case c5 => k_is); (case k5 => k_is)
    (case a6 => k_is); (case l6 => k_is); (case c6 => k_is); (case k6 => k_is); (case a7 => k_is); (case l7 => k_is); (case c7 => k_is); (case k7 => k_is)
    (case a8 => k_is); (case l8 => k_is); (case c8 => k_is); (case k8 => k_is); (case a9 => k_is); (case l9 => k_is); (case c9 => k_is); (case k9 => k_is)
    (case a10 => k_is); (case l10 => k_is); (case c10 => k_is); (case k10 => k_is); (case a11 => k_is); (case l11 => k_is); (case c11 => k_is); (case k11 => k_is)
    (case a12 => k_is); (case l12 => k_is); (case c12 => k_is); (case k12 => k_is); (case a13 => k_is); (case l13 => k_is); (case c13 => k_is); (case k13 => k_is)
    (case a14 => k_is); (case l14 => k_is); (case c14 => k_is); (case k14 => k_is); (case a15 => k_is); (case l15 => k_is); (case c15 => k_is); (case k15 => k_is)
    (case a16 => k_is); (case l16 => k_is); (case c16 => k_is); (case k16 => k_is); (case a17 => k_is); (case l17 => k_is); (case c17 => k_is); (case k17 => k_is)
    (case a18 => k_is); (case l18 => k_is); (case c18 => k_is); (case k18 => k_is); (case a19 => k_is); (case l19 => k_is); (case c19 => k_is); (case k19 => k_is)
    (case a20 => k_is); (case l20 => k_is); (case c20 => k_is); (case k20 => k_is); (case a21 => k_is); (case l21 => k_is); (case c21 => k_is); (case k21 => k_is)
    (case a22 => k_is); (case l22 => k_is); (case c22 => k_is); (case k22 => k_is); (case a23 => k_is); (case l23 => k_is); (case c23 => k_is); (case k23 => k_is)
    (case a24 => k_is); (case l24 => k_is); (case c24 => k_is); (case k24 => k_is); (case a25 => k_is); (case l25 => k_is); (case c25 => k_is); (case k25 => k_is)
    (case z0 => k_is); (case z1 => k_is); (case z2 => k_is); (case z3 => k_is); (case z4 => k_is); (case z5 => k_is); (case z6 => k_is); (case z7 => k_is)
    (case z8 => k_is); (case z9 => k_is); (case z10 => k_is); (case z11 => k_is); (case z12 => k_is); (case z13 => k_is); (case z14 => k_is); (case z15 => k_is)
    (case z16 => k_is)
