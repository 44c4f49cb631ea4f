/-
  Packed texts that are made out of steps: plain facts. No conditions but those that each fact names.
-/
import Derived.Test.YtchjmhgalbkjkabLzI
import Derived.Test.YtchjmhgalbkjkabBas
import Derived.Test.YtchjmhgalbkjkabQk
namespace Go.Proofs.Ytchjmhgalbkjkab
open Go.RowKit
/-- a step: literals, back, many -/
structure St where
  lit : ByteArray
  back : Int
  many : Int
/-- its literals, behind so many bytes -/
def litOf (n : Nat) (x : St) : ByteArray := if n + (x.lit.extract 0 (min x.lit.size 4000)).size = 0 then ⟨#[122]⟩ else x.lit.extract 0 (min x.lit.size 4000)
def offOf (n : Nat) (x : St) : Nat := 1 + pickN x.back ((min (n + (litOf n x).size) 65535 : Nat) : Int)
def lenOf (x : St) : Nat := 4 + pickN x.many 600
def pcOf (S : List Nat) (x : St) : Lz.Pc := ⟨Sums.bl (litOf S.length x), offOf S.length x, lenOf x⟩
def mkP : List Nat → List St → List Lz.Pc
  | _, [] => []
  | S, x :: l => pcOf S x :: mkP (Lz.sayP S [pcOf S x]) l
theorem mkP_append : ∀ (a b : List St) (S : List Nat), mkP S (a ++ b) = mkP S a ++ mkP (Lz.sayP S (mkP S a)) b
  | [], b, S => rfl
  | x :: a, b, S => by
    rw [List.cons_append, mkP, mkP_append a b, mkP, List.cons_append]
    rfl
theorem mkP_length : ∀ (a : List St) (S : List Nat), (mkP S a).length = a.length
  | [], S => rfl
  | x :: a, S => by rw [mkP, List.length_cons, List.length_cons, mkP_length a]
theorem litOf_size (n : Nat) (x : St) : (litOf n x).size ≤ 4000 ∧ 0 < n + (litOf n x).size := by
  unfold litOf
  have h1 : (x.lit.extract 0 (min x.lit.size 4000)).size = min x.lit.size 4000 := by simp [ByteArray.size_extract]
  by_cases h : n + (x.lit.extract 0 (min x.lit.size 4000)).size = 0
  · rw [if_pos h]
    have : (⟨#[122]⟩ : ByteArray).size = 1 := rfl
    omega
  · rw [if_neg h]
    omega
theorem offOf_ok (n : Nat) (x : St) : 1 ≤ offOf n x ∧ offOf n x ≤ 65535 ∧ offOf n x ≤ n + (litOf n x).size := by
  have h1 := litOf_size n x
  have h2 := pickN_lt x.back ((min (n + (litOf n x).size) 65535 : Nat) : Int) (by omega)
  unfold offOf
  omega
theorem lenOf_ok (x : St) : 4 ≤ lenOf x ∧ lenOf x ≤ 603 := by
  have h2 := pickN_lt x.many 600 (by omega)
  unfold lenOf
  omega
theorem sayP_len (l : List Lz.Pc) (S : List Nat) : (Lz.sayP S l).length = S.length + Lz.tot l := by
  obtain ⟨t, h1, h2⟩ := Lz.sayP_pre l S
  rw [h1, List.length_append, h2]
theorem mkP_ok : ∀ (a : List St) (S : List Nat), Lz.okP S.length (mkP S a)
  | [], S => trivial
  | x :: a, S => by
    have h1 := offOf_ok S.length x
    have h2 := lenOf_ok x
    rw [mkP, Lz.okP]
    refine ⟨h2.1, h1.1, h1.2.1, ?_, ?_⟩
    · simp only [pcOf, Sums.bl_length]; exact h1.2.2
    · have := mkP_ok a (Lz.sayP S [pcOf S x])
      rw [sayP_len] at this
      simp only [Lz.tot] at this
      rw [show S.length + (pcOf S x).lit.length + (pcOf S x).len = S.length + ((pcOf S x).lit.length + (pcOf S x).len + 0) by omega]
      exact this
theorem pcOf_tot (S : List Nat) (x : St) : (pcOf S x).lit.length + (pcOf S x).len ≤ 4603 := by
  have h1 := litOf_size S.length x
  have h2 := lenOf_ok x
  simp only [pcOf, Sums.bl_length]
  omega
theorem mkP_tot : ∀ (a : List St) (S : List Nat), Lz.tot (mkP S a) ≤ 4603 * a.length
  | [], S => by simp [mkP, Lz.tot]
  | x :: a, S => by
    have h1 := pcOf_tot S x
    have h2 := mkP_tot a (Lz.sayP S [pcOf S x])
    rw [mkP, Lz.tot, List.length_cons]
    omega
theorem beh_small (n : Nat) (h : n ≤ 100000) : Lz.beh n ≤ 394 := by unfold Lz.beh; split <;> omega
theorem sz_more (a b : Nat) (h : 4 ≤ b) : Lz.sz a b = 1 + Lz.beh a + a + (2 + Lz.beh (b - 4)) := by
  unfold Lz.sz
  rw [if_pos (by omega)]
theorem enc1_small (S : List Nat) (x : St) : (Lz.enc1 (pcOf S x)).length ≤ 5000 := by
  have h2 := lenOf_ok x
  have h1 := litOf_size S.length x
  rw [Lz.enc1_length _ (by simp only [pcOf]; omega), sz_more _ _ (by simp only [pcOf]; omega)]
  simp only [pcOf, Sums.bl_length]
  have h3 := beh_small (litOf S.length x).size (by omega)
  have h4 := beh_small (lenOf x - 4) (by omega)
  omega
theorem enc_small : ∀ (a : List St) (S : List Nat), (Lz.enc (mkP S a)).length ≤ 5000 * a.length
  | [], S => by simp [mkP, Lz.enc]
  | x :: a, S => by
    have h1 := enc1_small S x
    have h2 := enc_small a (Lz.sayP S [pcOf S x])
    rw [mkP, Lz.enc, List.length_append, List.length_cons]
    omega
theorem lenb_byt (n : Nat) : ∀ z ∈ Lz.lenb n, z < 256 := by
  intro z hz
  unfold Lz.lenb at hz
  split at hz
  · simp at hz
  · rw [List.mem_append] at hz
    rcases hz with h | h
    · have := (List.mem_replicate.1 h).2
      omega
    · simp at h
      omega
theorem lits_byt (p : List Nat) (hp : ∀ z ∈ p, z < 256) (b : Nat) : ∀ z ∈ Lz.lits p b, z < 256 := by
  intro z hz
  unfold Lz.lits at hz
  rw [List.mem_cons, List.mem_append] at hz
  rcases hz with rfl | h | h
  · omega
  · exact lenb_byt _ z h
  · exact hp z h
theorem enc1_byt (S : List Nat) (x : St) : ∀ z ∈ Lz.enc1 (pcOf S x), z < 256 := by
  intro z hz
  have h1 := offOf_ok S.length x
  unfold Lz.enc1 at hz
  rw [List.mem_append, List.mem_append] at hz
  rcases hz with h | h | h
  · exact lits_byt _ (Sums.bl_byt _) _ z h
  · simp only [pcOf, List.mem_cons, List.not_mem_nil, or_false] at h
    rcases h with rfl | rfl <;> omega
  · exact lenb_byt _ z h
theorem enc_byt : ∀ (a : List St) (S : List Nat), ∀ z ∈ Lz.enc (mkP S a), z < 256
  | [], S, z, hz => by simp [mkP, Lz.enc] at hz
  | x :: a, S, z, hz => by
    rw [mkP, Lz.enc, List.mem_append] at hz
    rcases hz with h | h
    · exact enc1_byt S x z h
    · exact enc_byt a _ z h
theorem sayP_byt : ∀ (l : List Lz.Pc) (S : List Nat), (∀ z ∈ S, z < 256) → (∀ x ∈ l, ∀ z ∈ x.lit, z < 256) → ∀ z ∈ Lz.sayP S l, z < 256
  | [], S, h, _ => h
  | x :: l, S, h, hl => by
    rw [Lz.sayP]
    refine sayP_byt l _ (Lz.grow_byte _ _ _ ?_) (fun y hy => hl y (List.mem_cons_of_mem _ hy))
    intro z hz
    rcases List.mem_append.1 hz with h1 | h1
    · exact h z h1
    · exact hl x (List.mem_cons_self ..) z h1
theorem mkP_byt : ∀ (a : List St) (S : List Nat), ∀ x ∈ mkP S a, ∀ z ∈ x.lit, z < 256
  | [], S, x, hx => by simp [mkP] at hx
  | y :: a, S, x, hx => by
    rw [mkP, List.mem_cons] at hx
    rcases hx with rfl | h
    · exact Sums.bl_byt _
    · exact mkP_byt a _ x h
theorem nums_append (a b : List Nat) (ha : ∀ z ∈ a, z < 256) (hb : ∀ z ∈ b, z < 256) : nums a ++ nums b = nums (a ++ b) := by
  apply Sums.bl_inj
  rw [Sums.bl_append, bl_nums a ha, bl_nums b hb, bl_nums]
  intro z hz
  rcases List.mem_append.1 hz with h | h
  · exact ha z h
  · exact hb z h
end Go.Proofs.Ytchjmhgalbkjkab
