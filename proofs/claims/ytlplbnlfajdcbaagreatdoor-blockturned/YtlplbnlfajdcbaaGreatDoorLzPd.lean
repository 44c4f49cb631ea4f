/-
  lz4: what Expand answers of a packing by true copies, and how long that is. Conditions: as each says.
-/
import Derived.Test.YtlplbnlfajdcbaaGreatDoorLzPc
namespace Lz
def lenz (n : Nat) : Nat := if n < 15 then 0 else (n - 15) / 255 + 1
end Lz
namespace Go.Proofs.YtlplbnlfajdcbaaGreatDoor
open Go.RowKit
set_option linter.unusedVariables false
abbrev tup3 (T : ByteArray) (e p : Nat) : Value := .tuple #[.string T, .int .i64 (e : Int), .int .i64 (p : Int)]
theorem lenb_byt (n : Nat) : ∀ z ∈ Lz.lenb n, z < 256 := by
  intro z hz
  unfold Lz.lenb at hz
  split at hz
  · simp at hz
  · rw [List.mem_append] at hz
    rcases hz with h | h
    · have := (List.mem_replicate.1 h).2
      omega
    · simp at h
      omega
theorem lits_byt (p : List Nat) (hp : ∀ z ∈ p, z < 256) (b : Nat) : ∀ z ∈ Lz.lits p b, z < 256 := by
  intro z hz
  unfold Lz.lits at hz
  rw [List.mem_cons, List.mem_append] at hz
  rcases hz with rfl | h | h
  · omega
  · exact lenb_byt _ z h
  · exact hp z h
theorem expR_of (bef s : ByteArray) (m : Nat) : expR bef s (m : Int) = tup3 (if (allOf s bef.size m).2.1 = 0 then nums (sofar s bef (allOf s bef.size m).1) else ⟨#[]⟩) (allOf s bef.size m).2.1 (if (allOf s bef.size m).2.1 = 0 then 0 else (allOf s bef.size m).2.2) := by
  unfold expR
  rw [if_neg (by omega), Int.toNat_natCast]
  congr 3
  split <;> rfl
/-- a packed text out of pieces -/
abbrev packT (ps : List Lz.Pc) (e : ByteArray) : ByteArray := nums (Lz.enc ps ++ Lz.lits (Sums.bl e) 0)
theorem okP_mem : ∀ (l : List Lz.Pc) (h : Nat), Lz.okP h l → ∀ x ∈ l, 4 ≤ x.len ∧ x.off ≤ 65535
  | [], h, _, x, hx => by cases hx
  | y :: l, h, ⟨o1, o2, o3, o4, o5⟩, x, hx => by
    rcases List.mem_cons.1 hx with rfl | hx
    · exact ⟨o1, o3⟩
    · exact okP_mem l _ o5 x hx
theorem enc1_byt2 (x : Lz.Pc) (ho : x.off ≤ 65535) (hl : ∀ z ∈ x.lit, z < 256) : ∀ z ∈ Lz.enc1 x, z < 256 := by
  intro z hz
  unfold Lz.enc1 at hz
  rw [List.mem_append, List.mem_append] at hz
  rcases hz with h | h | h
  · exact lits_byt _ hl _ z h
  · simp only [List.mem_cons, List.not_mem_nil, or_false] at h
    rcases h with rfl | rfl <;> omega
  · exact lenb_byt _ z h
theorem enc_byt2 : ∀ (l : List Lz.Pc), (∀ x ∈ l, x.off ≤ 65535) → (∀ x ∈ l, ∀ z ∈ x.lit, z < 256) → ∀ z ∈ Lz.enc l, z < 256
  | [], _, _, z, hz => by simp [Lz.enc] at hz
  | x :: l, ho, hl, z, hz => by
    rw [Lz.enc, List.mem_append] at hz
    rcases hz with h | h
    · exact enc1_byt2 x (ho x (List.mem_cons_self ..)) (hl x (List.mem_cons_self ..)) z h
    · exact enc_byt2 l (fun y hy => ho y (List.mem_cons_of_mem _ hy)) (fun y hy => hl y (List.mem_cons_of_mem _ hy)) z h
theorem enc_len2 : ∀ (l : List Lz.Pc), l.length ≤ (Lz.enc l).length
  | [] => by simp
  | x :: l => by
    have := enc_len2 l
    have h1 : 1 ≤ (Lz.enc1 x).length := by simp [Lz.enc1, Lz.lits]
    rw [Lz.enc, List.length_append, List.length_cons]
    omega
theorem pcs_byt (bs : List Nat) (hb : ∀ z ∈ bs, z < 256) : ∀ (l : List Lz.Cp) (i : Nat), ∀ x ∈ Lz.pcs bs i l, ∀ z ∈ x.lit, z < 256
  | [], i, x, hx => by simp [Lz.pcs] at hx
  | c :: l, i, x, hx => by
    rw [Lz.pcs, List.mem_cons] at hx
    rcases hx with rfl | hx
    · intro z hz
      exact hb z (List.mem_of_mem_take (List.mem_of_mem_drop hz))
    · exact pcs_byt bs hb l _ x hx
/-- the last literals, as a text -/
def lastT (s : ByteArray) (cs : List Lz.Cp) : ByteArray := s.extract (Lz.restOf 0 cs) s.size
theorem lastT_bl (s : ByteArray) (cs : List Lz.Cp) : Sums.bl (lastT s cs) = (Sums.bl s).drop (Lz.restOf 0 cs) := Sums.bl_drop s _
def packC (s : ByteArray) (cs : List Lz.Cp) : ByteArray := nums (Lz.packed (Sums.bl s) 0 cs)
theorem packC_bl (s : ByteArray) (cs : List Lz.Cp) (h : Lz.tru (Sums.bl s) 0 cs) : Sums.bl (packC s cs) = Lz.enc (Lz.pcs (Sums.bl s) 0 cs) ++ Lz.lits (Sums.bl (lastT s cs)) 0 := by
  unfold packC
  have hok := Lz.okP_pcs (Sums.bl s) cs 0 h
  rw [Lz.packed_enc, lastT_bl, bl_nums]
  intro z hz
  rcases List.mem_append.1 hz with h1 | h1
  · exact enc_byt2 _ (fun x hx => (okP_mem _ _ hok x hx).2) (pcs_byt _ (Sums.bl_byt s) cs 0) z h1
  · exact lits_byt _ (fun z hz => Sums.bl_byt s z (List.mem_of_mem_drop hz)) _ z h1
theorem lastT_size (s : ByteArray) (cs : List Lz.Cp) (h : Lz.tru (Sums.bl s) 0 cs) : Lz.tot (Lz.pcs (Sums.bl s) 0 cs) + (lastT s cs).size = s.size := by
  have h1 := Lz.tot_pcs (Sums.bl s) cs 0 (Nat.zero_le _) h
  have h2 := Lz.restOf_le (Sums.bl s) cs 0 (Nat.zero_le _) h
  rw [← Sums.bl_length (lastT s cs), lastT_bl, List.length_drop, Sums.bl_length]
  rw [Sums.bl_length] at h2
  omega
theorem packC_walk (s : ByteArray) (cs : List Lz.Cp) (h : Lz.tru (Sums.bl s) 0 cs) (m : Nat) (hm : s.size ≤ m) : allOf (packC s cs) 0 m = (Lz.sqs 0 (Lz.pcs (Sums.bl s) 0 cs) (Sums.bl (lastT s cs)), 0, 0) := by
  have hbl := packC_bl s cs h
  have ht := lastT_size s cs h
  have hl := enc_len2 (Lz.pcs (Sums.bl s) 0 cs)
  have hsz : (Lz.enc (Lz.pcs (Sums.bl s) 0 cs)).length ≤ (packC s cs).size := by
    rw [← Sums.bl_length, hbl, List.length_append]
    omega
  exact Lz.walk_enc (Sums.bl (packC s cs)) (Sums.bl (lastT s cs)) 0 m _ _ 0 0 (by rw [hbl]; rfl) (Lz.okP_pcs (Sums.bl s) cs 0 h) (by rw [Sums.bl_length]; omega) (by omega)
/-- it is unpacked as what it was -/
theorem packC_exp (s : ByteArray) (cs : List Lz.Cp) (h : Lz.tru (Sums.bl s) 0 cs) (m : Nat) (hm : s.size ≤ m) : expR ⟨#[]⟩ (packC s cs) (m : Int) = tup3 s 0 0 := by
  have hw := packC_walk s cs h m hm
  have hz : (⟨#[]⟩ : ByteArray).size = 0 := rfl
  have hb0 : Sums.bl (⟨#[]⟩ : ByteArray) = [] := rfl
  rw [expR_of, hz, hw]
  have hs : sofar (packC s cs) ⟨#[]⟩ (Lz.sqs 0 (Lz.pcs (Sums.bl s) 0 cs) (Sums.bl (lastT s cs))) = Sums.bl s := by
    unfold sofar
    rw [hz, List.drop_zero, hb0, Lz.says_enc (Sums.bl (packC s cs)) (Sums.bl (lastT s cs)) _ 0 0 _ (by rw [packC_bl s cs h]; rfl) (Lz.okP_pcs (Sums.bl s) cs 0 h), lastT_bl, Lz.says_pcs (Sums.bl s) cs h]
  rw [hs, nums_bl]
  rfl
theorem lenb_lenz (n : Nat) : (Lz.lenb n).length = Lz.lenz n := by
  unfold Lz.lenb Lz.lenz
  split <;> simp
theorem packed_bound (bs : List Nat) : ∀ (l : List Lz.Cp) (i : Nat), Lz.tru bs i l → i ≤ bs.length → 255 * (Lz.packed bs i l).length ≤ 256 * (bs.length - i) + 495
  | [], i, _, hi => by
    rw [Lz.packed]
    simp only [Lz.lits, List.length_cons, List.length_append, lenb_lenz, List.length_drop]
    unfold Lz.lenz
    split <;> omega
  | c :: l, i, ⟨h1, h2, h3⟩, hi => by
    obtain ⟨t1, t2, t3, t4, t5, t6, t7⟩ := h2
    have ih := packed_bound bs l (c.at_ + c.cnt) h3 (by omega)
    have hl := Lz.lit_len bs i c.at_ h1 (by omega)
    rw [Lz.packed]
    simp only [Lz.lits, List.length_cons, List.length_append, lenb_lenz, hl, List.length_nil]
    unfold Lz.lenz
    split <;> split <;> omega
theorem packC_bound (s : ByteArray) (cs : List Lz.Cp) (h : Lz.tru (Sums.bl s) 0 cs) : (packC s cs).size ≤ s.size + s.size / 255 + 16 := by
  have h1 := packed_bound (Sums.bl s) cs 0 h (Nat.zero_le _)
  have h2 : (packC s cs).size = (Lz.packed (Sums.bl s) 0 cs).length := by
    rw [← Sums.bl_length, packC_bl s cs h, lastT_bl, Lz.packed_enc]
  rw [Sums.bl_length] at h1
  omega
end Go.Proofs.YtlplbnlfajdcbaaGreatDoor
