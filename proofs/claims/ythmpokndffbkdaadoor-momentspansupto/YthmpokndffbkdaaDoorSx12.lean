/-
  Plain facts and the decimal of the law MomentSpells.
-/
import Derived.Test.YthmpokndffbkdaaDoorTx12
import Derived.Test.YthmpokndffbkdaaDoorMomentOrderW
namespace Go.Proofs.YthmpokndffbkdaaDoor
open Go.RowKit
set_option linter.unusedVariables false
theorem conv_one (z : Nat) (w : World) : (convert 47 9 (.slice (some ⟨w.heap.size, 0, none⟩) 1 1)).run Tryd.prog (w.alloc (.cells #[.int .u8 (48 + (z : Int))] 5)) = .ok (.string (strOfNums [48 + (z : Int)])) (w.alloc (.cells #[.int .u8 (48 + (z : Int))] 5)) := by
  refine run_convert_bytes_arg _ 47 5 Tryd.underlying47 Tryd.underlying5 w.heap.size 0 1 1 [48 + (z : Int)] rfl (fun i hi => ?_) 9 Tryd.underlying9
  rw [Nat.zero_add, World.cell?_alloc_new]
  obtain rfl : i = 0 := by omega
  rfl
theorem bl_one (z : Nat) (h : z ≤ 9) : Sums.bl (strOfNums [48 + (z : Int)]) = [48 + z] := by
  have e : strOfNums [48 + (z : Int)] = nums [48 + z] := rfl
  rw [e, bl_nums _ (by intro x hx; simp only [List.mem_cons, List.not_mem_nil, or_false] at hx; omega)]
def cF (c0 c1 c2 c3 c4 : Nat) (i : Nat) : Nat := if i = 0 then c0 else if i = 1 then c1 else if i = 2 then c2 else if i = 3 then c3 else c4
def tpre (c : Nat → Nat) : Nat → List Nat
  | 0 => []
  | i + 1 => tpre c i ++ (if 0 < c i then dec (c i) ++ uname i else [])
def spre (c : Nat → Nat) : Nat → Nat
  | 0 => 0
  | i + 1 => spre c i + c i * unum i
theorem tpre_tx (c : Nat → Nat) : tpre c 5 = txF c 5 0 := by
  simp only [tpre, txF, List.nil_append, List.append_nil, List.append_assoc]
theorem spre_sm (c : Nat → Nat) : spre c 5 = smF c 5 0 := by
  simp [spre, smF, Nat.add_assoc]
theorem tpre_len (c : Nat → Nat) (hc : ∀ i, c i ≤ 253402300799999) (i : Nat) : (tpre c i).length ≤ 17 * i := by
  induction i with
  | zero => exact Nat.le_refl _
  | succ i ih =>
    rw [tpre, List.length_append]
    split
    · rw [List.length_append]
      have h2 := dec_short _ (hc i)
      have h3 : (uname i).length ≤ 2 := by unfold uname; split; decide; split; decide; split; decide; split; decide; decide
      omega
    · simp only [List.length_nil]; omega
theorem tx_ascii (c : Nat → Nat) (i : Nat) : ∀ z ∈ tpre c i, z < 128 := by
  induction i with
  | zero => intro z hz; cases hz
  | succ i ih =>
    intro z hz
    rw [tpre] at hz
    rcases List.mem_append.1 hz with h | h
    · exact ih z h
    · split at h
      · rcases List.mem_append.1 h with h | h
        · have := dec_dig (c i + 1) (c i) (Nat.lt_succ_self _) z h; omega
        · have : ∀ z ∈ uname i, z < 128 := by unfold uname; split; decide; split; decide; split; decide; split; decide; decide
          exact this z h
      · cases h
theorem spT_ascii (n : Nat) : ∀ z ∈ spT n 5, z < 128 := by
  rw [spT_tx, ← tpre_tx]
  exact tx_ascii _ 5
/-- the law's three rows -/
structure SpM (A B C : Nat) (c0 c1 c2 c3 c4 : Nat) (w : World) : Prop where
  a : w.heap[A]? = some (.cells #[.int .i64 (c0 : Int), .int .i64 (c1 : Int), .int .i64 (c2 : Int), .int .i64 (c3 : Int), .int .i64 (c4 : Int)] 3 (0, 0))
  b : w.heap[B]? = some (.cells #[.string ⟨#[100]⟩, .string ⟨#[104]⟩, .string ⟨#[109]⟩, .string ⟨#[115]⟩, .string ⟨#[109, 115]⟩] 9 (0, 0))
  c : w.heap[C]? = some (.cells #[.int .i64 86400000, .int .i64 3600000, .int .i64 60000, .int .i64 1000, .int .i64 1] 3 (0, 0))
theorem SpM.below {A B C : Nat} {c0 c1 c2 c3 c4 : Nat} {w w' : World} (h : SpM A B C c0 c1 c2 c3 c4 w) (k : Below w.heap.size w w') : SpM A B C c0 c1 c2 c3 c4 w' :=
  ⟨(k.block A (Array.getElem?_eq_some_iff.1 h.a).1).trans h.a, (k.block B (Array.getElem?_eq_some_iff.1 h.b).1).trans h.b, (k.block C (Array.getElem?_eq_some_iff.1 h.c).1).trans h.c⟩
end Go.Proofs.YthmpokndffbkdaaDoor
