/-
  block: packing, and a head as an array. Conditions: as each says.
-/
import Derived.Test.YtlplbnlfajdcbaaGreatDoorMgA
import Derived.Test.YtlplbnlfajdcbaaGreatDoorLzPd
namespace Blk
open Code Sums
end Blk
namespace Go.Proofs.YtlplbnlfajdcbaaGreatDoor
open Go.RowKit
set_option linter.unusedVariables false
theorem nums_app (a b : List Nat) (ha : ∀ z ∈ a, z < 256) (hb : ∀ z ∈ b, z < 256) : nums a ++ nums b = nums (a ++ b) := by
  apply Sums.bl_inj
  rw [Sums.bl_append, bl_nums a ha, bl_nums b hb, bl_nums]
  intro z hz
  rcases List.mem_append.1 hz with h | h
  · exact ha z h
  · exact hb z h
theorem app_nums (s : ByteArray) (b : List Nat) (hb : ∀ z ∈ b, z < 256) : s ++ nums b = nums (Sums.bl s ++ b) := by
  have := nums_app (Sums.bl s) b (Sums.bl_byt s) hb
  rw [nums_bl] at this
  exact this
/-- a sum as four bytes -/
def smL (l : List Nat) : List Nat := fixL 4 (Sums.crcL l)
theorem smL_byt (l : List Nat) : ∀ z ∈ smL l, z < 256 := fixL_byt _ _
theorem smL_len (l : List Nat) : (smL l).length = 4 := fixL_len _ _
theorem fixR_ok (n k : Nat) (h1 : 1 ≤ k) (h8 : k ≤ 8) (h : n < 256 ^ k) : fixR n (k : Int) = .returned (.tuple #[.string (nums (fixL k n)), .int .i64 0]) := by
  unfold fixR
  rw [if_neg (by omega), Int.toNat_natCast, Nat.div_eq_of_lt h, if_neg (by omega)]
set_option maxHeartbeats 1000000 in
theorem bfixed_any (n k : Nat) (w : World) (h1 : 1 ≤ k) (h8 : k ≤ 8) (h : n < 256 ^ k) :
    Calls Tryz.prog 55 #[.int .u64 (n : Int), .int .i64 (k : Int)] w fun e w' => e = .returned (.string (nums (fixL k n))) ∧ Below w.heap.size w w' := by
  have hn : n < 18446744073709551616 := by
    have : 256 ^ k ≤ 256 ^ 8 := Nat.pow_le_pow_right (by decide) h8
    omega
  have HF := Hid.mk' (fixed_any n (k : Int) w hn)
  rw [fixR_ok n k h1 h8 h] at HF
  clear hn h1 h8 h
  go_enter Tryz.func55, Tryz.ntmps55
  go_wp2_with fail
  refine HF.out.mono ?_
  rintro e w' ⟨rfl, hb⟩
  go_wp2_with fail
  go_ret
  exact ⟨rfl, hb⟩
set_option maxHeartbeats 1000000 in
theorem sumOf_any (s : ByteArray) (w : World) (hs : s.size ≤ 140737488355328) (ht : Tab w) :
    Calls Tryz.prog 53 #[.string s] w fun e w' => e = .returned (.string (nums (smL (Sums.bl s)))) ∧ Below w.heap.size w w' := by
  have HC := Hid.mk' (crc_any s w (by unfold maxLen; omega) ht)
  have HF := Hid.mk' (fun W => bfixed_any (Sums.crcL (Sums.bl s)) 4 W (by decide) (by decide) (Sums.crcL_lt _ (Sums.bl_byt s)))
  have hb32 : Sums.crcL (Sums.bl s) < 4294967296 := Sums.crcL_lt _ (Sums.bl_byt s)
  unfold smL
  generalize Sums.crcL (Sums.bl s) = c at HC HF hb32 ⊢
  go_enter Tryz.func53, Tryz.ntmps53
  go_wp2_with fail
  refine HC.out.mono ?_
  rintro e w' ⟨rfl, hw⟩
  have hw2 := hw.symm
  subst hw2
  go_wp2_with fail
  refine (HF.out _).mono ?_
  rintro e w' ⟨rfl, hb⟩
  go_wp2_with fail
  go_ret
  exact ⟨rfl, hb⟩
/-- bytes, and their sum behind them -/
def smd (l : List Nat) : List Nat := l ++ smL l
theorem smd_byt (l : List Nat) (h : ∀ z ∈ l, z < 256) : ∀ z ∈ smd l, z < 256 := by
  intro z hz
  rcases List.mem_append.1 hz with h1 | h1
  · exact h z h1
  · exact smL_byt _ z h1
theorem smd_len (l : List Nat) : (smd l).length = l.length + 4 := by unfold smd; rw [List.length_append, smL_len]
set_option maxHeartbeats 1000000 in
theorem summed_any (s : ByteArray) (w : World) (hs : s.size ≤ 140737488355328) (ht : Tab w) :
    Calls Tryz.prog 30 #[.string s] w fun e w' => e = .returned (.string (nums (smd (Sums.bl s)))) ∧ Below w.heap.size w w' := by
  have HS := Hid.mk' (sumOf_any s w hs ht)
  have HA : Hid (s ++ nums (smL (Sums.bl s)) = nums (smd (Sums.bl s))) := app_nums s _ (smL_byt _)
  have hz : (nums (smL (Sums.bl s))).size = 4 := by rw [nums_size, smL_len]
  clear ht
  go_enter Tryz.func30, Tryz.ntmps30
  go_wp2_with fail
  refine HS.out.mono ?_
  rintro e w' ⟨rfl, hb⟩
  go_wp2_with fail
  go_ret
  exact ⟨by rw [HA.out]; rfl, hb⟩
/-- which copies a level takes -/
def lvC (s : ByteArray) (lev : Nat) : List Lz.Cp := if lev = 0 then [] else if lev = 1 then Lz.greedy (Sums.bl s) 1 else Lz.greedy (Sums.bl s) 32
theorem lvC_tru (s : ByteArray) (lev : Nat) : Lz.tru (Sums.bl s) 0 (lvC s lev) := by
  unfold lvC
  split
  · exact trivial
  · split
    · exact Lz.greedy_true (Sums.bl s) (Sums.bl_byt s) 1
    · exact Lz.greedy_true (Sums.bl s) (Sums.bl_byt s) 32
/-- a payload, packed at a level -/
def pkL (s : ByteArray) (lev : Nat) : ByteArray := packC s (lvC s lev)
theorem compress_lv (s : ByteArray) (lev : Nat) (w : World) (hs : s.size ≤ 4294967296) (hl : lev ≤ 2) :
    Calls Tryz.prog 52 #[.string s, .int .i64 (lev : Int)] w fun e w' => e = .returned (.tuple #[.string (pkL s lev), .int .i64 0]) ∧ Below w.heap.size w w' := by
  have h3 : lev = 0 ∨ lev = 1 ∨ lev = 2 := by omega
  rcases h3 with rfl | rfl | rfl
  · exact compress0_any s w hs
  · exact compress1_any s w hs
  · exact compress2_any s w hs
set_option maxHeartbeats 1000000 in
theorem pack_any (s : ByteArray) (lev : Nat) (w : World) (hs : s.size ≤ 4294967296) (hl : lev ≤ 2) :
    Calls Tryz.prog 29 #[.string s, .int .i64 (lev : Int)] w fun e w' => e = .returned (.string (pkL s lev)) ∧ Below w.heap.size w w' := by
  have HC := Hid.mk' (compress_lv s lev w hs hl)
  clear hs hl
  go_enter Tryz.func29, Tryz.ntmps29
  go_wp2_with fail
  refine HC.out.mono ?_
  rintro e w' ⟨rfl, hb⟩
  go_wp2_with fail
  go_ret
  exact ⟨rfl, hb⟩
set_option maxHeartbeats 1000000 in
/-- what was packed is unpacked -/
theorem unpack_pk (s : ByteArray) (lev m : Nat) (w : World) (hs : s.size ≤ 131072) (hm : s.size ≤ m) (hmm : m ≤ 131072) :
    Calls Tryz.prog 103 #[.string (pkL s lev), .int .i64 (m : Int)] w fun e w' => e = .returned (tup3 s 0 0) ∧ Below w.heap.size w w' := by
  have hb := packC_bound s (lvC s lev) (lvC_tru s lev)
  have he := packC_exp s (lvC s lev) (lvC_tru s lev) m hm
  have := expand_all (pkL s lev) (m : Int) w (by unfold pkL; omega) (by omega) (.inl (by omega))
  rw [show expR ⟨#[]⟩ (pkL s lev) (m : Int) = tup3 s 0 0 from he] at this
  exact this
theorem pkL_size (s : ByteArray) (lev : Nat) : (pkL s lev).size ≤ s.size + s.size / 255 + 16 := packC_bound s (lvC s lev) (lvC_tru s lev)
theorem pkL_pos (s : ByteArray) (lev : Nat) : 1 ≤ (pkL s lev).size := by
  unfold pkL
  rw [← Sums.bl_length, packC_bl s _ (lvC_tru s lev), List.length_append]
  have : 1 ≤ (Lz.lits (Sums.bl (lastT s (lvC s lev))) 0).length := by simp [Lz.lits]
  omega
end Go.Proofs.YtlplbnlfajdcbaaGreatDoor

namespace Go.Proofs.YtlplbnlfajdcbaaGreatDoor
open Go.RowKit
set_option linter.unusedVariables false
set_option linter.unusedSimpArgs false
/-- a head, by its nine numbers -/
def hdV (a b c d e f g h i : Int) : Value := .agg #[.int .i64 a, .int .i64 b, .int .i64 c, .int .i64 d, .int .i64 e, .int .i64 f, .int .i64 g, .int .i64 h, .int .i64 i]
/-- its numbers but for the level, as an array -/
def nwV (a b c d e f h i : Nat) : Value := .agg #[.int .u64 (a : Int), .int .u64 (b : Int), .int .u64 (c : Int), .int .u64 (d : Int), .int .u64 (e : Int), .int .u64 (f : Int), .int .u64 (h : Int), .int .u64 (i : Int)]
set_option maxHeartbeats 2000000 in
set_option maxRecDepth 100000 in
theorem numbersOf_any (a b c d e f h i : Nat) (g : Int) (w : World) (ha : a ≤ 9223372036854775807) (hb : b ≤ 9223372036854775807) (hc : c ≤ 9223372036854775807) (hd : d ≤ 9223372036854775807) (he : e ≤ 9223372036854775807) (hf : f ≤ 9223372036854775807) (hh : h ≤ 9223372036854775807) (hi : i ≤ 9223372036854775807) :
    Calls Tryz.prog 54 #[hdV a b c d e f g h i] w fun r w' => r = .returned (nwV a b c d e f h i) ∧ Below w.heap.size w w' := by
  unfold hdV nwV
  go_enter Tryz.func54, Tryz.ntmps54
  go_wp2_with fail
  exact bodyPost_ret (v := .agg #[.int .u64 (a : Int), .int .u64 (b : Int), .int .u64 (c : Int), .int .u64 (d : Int), .int .u64 (e : Int), .int .u64 (f : Int), .int .u64 (h : Int), .int .u64 (i : Int)]) (by simp [results, Tryz.results54, go_sem]) rfl ⟨rfl, ((Below.refl _ _).alloc (Nat.le_refl _) _).alloc (by simp) _⟩
set_option maxHeartbeats 2000000 in
set_option maxRecDepth 100000 in
theorem given_ok (a b f g : Nat) (c d e h i : Int) (w : World) (ha : a ≤ 1152921504606846976) (hb : b ≤ 1152921504606846976) (hf : f ≤ 1152921504606846976) (hg : g ≤ 2) :
    Calls Tryz.prog 27 #[hdV a b c d e f g h i] w fun r w' => r = .returned (.bool true) ∧ Below w.heap.size w w' := by
  unfold hdV
  have i0 : ∀ w, (Instr.index 92 (.agg #[.int .i64 (a : Int), .int .i64 (b : Int), .int .i64 (f : Int)]) (.int .i64 0)).run Tryz.prog w = .ok (.int .i64 (a : Int)) w := fun _ => by kernel_rfl
  have i1 : ∀ w, (Instr.index 92 (.agg #[.int .i64 (a : Int), .int .i64 (b : Int), .int .i64 (f : Int)]) (.int .i64 1)).run Tryz.prog w = .ok (.int .i64 (b : Int)) w := fun _ => by kernel_rfl
  have i2 : ∀ w, (Instr.index 92 (.agg #[.int .i64 (a : Int), .int .i64 (b : Int), .int .i64 (f : Int)]) (.int .i64 2)).run Tryz.prog w = .ok (.int .i64 (f : Int)) w := fun _ => by kernel_rfl
  go_enter Tryz.func27, Tryz.ntmps27
  go_wp2_with fail
  go_loopw [4, 12] (fun _ s12 wr => ∃ k : Nat, s12 = .int .i64 (k : Int) ∧ k ≤ 3 ∧ wr = w.alloc (.cells #[.int .i64 (a : Int), .int .i64 (b : Int), .int .i64 c, .int .i64 d, .int .i64 e, .int .i64 (f : Int), .int .i64 (g : Int), .int .i64 h, .int .i64 i] 23)) (fun _ s12 _ => 3 - (intOf s12).toNat)
  case atStart => exact ⟨0, rfl, by omega, rfl⟩
  case round =>
    obtain ⟨k, rfl, hk, rfl⟩ := hrel
    have h4 : k = 0 ∨ k = 1 ∨ k = 2 ∨ k = 3 := by omega
    rcases h4 with rfl | rfl | rfl | rfl
    · have q1 : ¬ (a : Int) < 0 := by omega
      have q2 : ¬ (1152921504606846976 : Int) < (a : Int) := by omega
      have q3 : decide ((a : Int) < 0) = false := decide_eq_false (by omega)
      have q4 : decide ((1152921504606846976 : Int) < (a : Int)) = false := decide_eq_false (by omega)
      go_wp2_with fail
      go_roundw
      case rel => exact ⟨1, by simp, by omega, trivial⟩
      case measure => simp [intOf]
    · have q1 : ¬ (b : Int) < 0 := by omega
      have q2 : ¬ (1152921504606846976 : Int) < (b : Int) := by omega
      go_wp2_with fail
      go_roundw
      case rel => exact ⟨2, by simp, by omega, trivial⟩
      case measure => simp [intOf]
    · have q1 : ¬ (f : Int) < 0 := by omega
      have q2 : ¬ (1152921504606846976 : Int) < (f : Int) := by omega
      go_wp2_with fail
      go_roundw
      case rel => exact ⟨3, by simp, by omega, trivial⟩
      case measure => simp [intOf]
    · have q1 : (0 : Int) ≤ (g : Int) := by omega
      have q2 : (g : Int) ≤ 2 := by omega
      go_wp2_with fail
      go_ret
      exact ⟨by first | rfl | simp [q1, q2], (Below.refl _ _).alloc (Nat.le_refl _) _⟩
end Go.Proofs.YtlplbnlfajdcbaaGreatDoor
