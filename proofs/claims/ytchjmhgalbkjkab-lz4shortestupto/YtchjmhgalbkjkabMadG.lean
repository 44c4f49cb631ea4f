/-
  What ExpandOn and Parts answer of a packed text that was made. Conditions: as each says.
-/
import Derived.Test.YtchjmhgalbkjkabMadC
namespace Go.Proofs.Ytchjmhgalbkjkab
open Go.RowKit Go.Shelf
set_option linter.unusedVariables false
abbrev tup3 (T : ByteArray) (e p : Nat) : Value := .tuple #[.string T, .int .i64 (e : Int), .int .i64 (p : Int)]
theorem expR_of (bef s : ByteArray) (m : Nat) : expR bef s (m : Int) = tup3 (if (allOf s bef.size m).2.1 = 0 then nums (sofar s bef (allOf s bef.size m).1) else ⟨#[]⟩) (allOf s bef.size m).2.1 (if (allOf s bef.size m).2.1 = 0 then 0 else (allOf s bef.size m).2.2) := by
  unfold expR
  rw [if_neg (by omega), Int.toNat_natCast]
  congr 3
  split <;> rfl
/-- a packed text out of pieces -/
abbrev packT (ps : List Lz.Pc) (e : ByteArray) : ByteArray := nums (Lz.enc ps ++ Lz.lits (Sums.bl e) 0)
theorem pack_byt (L : List St) (S : List Nat) (e : ByteArray) : ∀ z ∈ Lz.enc (mkP S L) ++ Lz.lits (Sums.bl e) 0, z < 256 := by
  intro z hz
  rcases List.mem_append.1 hz with h | h
  · exact enc_byt L S z h
  · exact lits_byt _ (Sums.bl_byt _) _ z h
theorem pack_bl (L : List St) (S : List Nat) (e : ByteArray) : Sums.bl (packT (mkP S L) e) = Lz.enc (mkP S L) ++ Lz.lits (Sums.bl e) 0 := bl_nums _ (pack_byt L S e)
theorem pack_size (L : List St) (S : List Nat) (e : ByteArray) (he : e.size ≤ 100000) : (packT (mkP S L) e).size ≤ 5000 * L.length + 100395 ∧ 1 ≤ (packT (mkP S L) e).size ∧ L.length < (packT (mkP S L) e).size + 1 := by
  have h1 := enc_small L S
  have h2 := beh_small e.size he
  have h3 : ∀ (a : List St) (S : List Nat), a.length ≤ (Lz.enc (mkP S a)).length := by
    intro a
    induction a with
    | nil => intro S; simp
    | cons x a ih =>
      intro S
      have := ih (Lz.sayP S [pcOf S x])
      rw [mkP, Lz.enc, List.length_append, List.length_cons]
      have : 1 ≤ (Lz.enc1 (pcOf S x)).length := by simp [Lz.enc1, Lz.lits]
      omega
  have h4 := h3 L S
  rw [nums_size, List.length_append, Lz.lits_length, Sums.bl_length]
  omega
theorem pack_walk (bef : ByteArray) (L : List St) (e : ByteArray) (he : e.size ≤ 100000) (m : Nat) (hm : Lz.tot (mkP (Sums.bl bef) L) + e.size ≤ m) :
    allOf (packT (mkP (Sums.bl bef) L) e) bef.size m = (Lz.sqs 0 (mkP (Sums.bl bef) L) (Sums.bl e), 0, 0) := by
  have hsz := pack_size L (Sums.bl bef) e he
  have hok := mkP_ok L (Sums.bl bef)
  rw [Sums.bl_length] at hok
  exact Lz.walk_enc (Sums.bl (packT (mkP (Sums.bl bef) L) e)) (Sums.bl e) bef.size m _ _ 0 0 (by rw [pack_bl]; rfl) hok (by rw [Sums.bl_length]; omega) (by rw [mkP_length]; omega)
theorem pack_sofar (bef : ByteArray) (L : List St) (e : ByteArray) : sofar (packT (mkP (Sums.bl bef) L) e) bef (Lz.sqs 0 (mkP (Sums.bl bef) L) (Sums.bl e)) = (Lz.sayP (Sums.bl bef) (mkP (Sums.bl bef) L)).drop bef.size ++ Sums.bl e := by
  unfold sofar
  rw [Lz.says_enc (Sums.bl (packT (mkP (Sums.bl bef) L) e)) (Sums.bl e) _ 0 (Sums.bl bef).length _ (by rw [pack_bl]; rfl) (mkP_ok L (Sums.bl bef))]
  rw [List.drop_append_of_le_length]
  rw [sayP_len, Sums.bl_length]
  omega
/-- what a made text says -/
def saidT (bef : ByteArray) (L : List St) (e : ByteArray) : ByteArray := nums ((Lz.sayP (Sums.bl bef) (mkP (Sums.bl bef) L)).drop bef.size) ++ e
theorem sayP_all (bef : ByteArray) (L : List St) : ∀ z ∈ Lz.sayP (Sums.bl bef) (mkP (Sums.bl bef) L), z < 256 := sayP_byt _ _ (Sums.bl_byt _) (mkP_byt L _)
theorem saidT_bl (bef : ByteArray) (L : List St) (e : ByteArray) : Sums.bl (saidT bef L e) = (Lz.sayP (Sums.bl bef) (mkP (Sums.bl bef) L)).drop bef.size ++ Sums.bl e := by
  unfold saidT
  rw [Sums.bl_append, bl_nums]
  intro z hz
  exact sayP_all bef L z (List.mem_of_mem_drop hz)
theorem saidT_size (bef : ByteArray) (L : List St) (e : ByteArray) : (saidT bef L e).size = Lz.tot (mkP (Sums.bl bef) L) + e.size := by
  rw [← Sums.bl_length, saidT_bl, List.length_append, List.length_drop, sayP_len, Sums.bl_length, Sums.bl_length]
  omega
theorem exp_made (bef : ByteArray) (L : List St) (e : ByteArray) (he : e.size ≤ 100000) (m : Nat) (hm : Lz.tot (mkP (Sums.bl bef) L) + e.size ≤ m) :
    expR bef (packT (mkP (Sums.bl bef) L) e) (m : Int) = tup3 (saidT bef L e) 0 0 := by
  rw [expR_of, pack_walk bef L e he m hm, pack_sofar, ← saidT_bl, nums_bl]
  rfl
/-- the second half, behind what the first one says -/
theorem made_half (bef : ByteArray) (a b : List St) : mkP (Sums.bl (bef ++ saidT bef a ⟨#[]⟩)) b = mkP (Lz.sayP (Sums.bl bef) (mkP (Sums.bl bef) a)) b ∧ Sums.bl (bef ++ saidT bef a ⟨#[]⟩) = Lz.sayP (Sums.bl bef) (mkP (Sums.bl bef) a) := by
  have h : Sums.bl (bef ++ saidT bef a ⟨#[]⟩) = Lz.sayP (Sums.bl bef) (mkP (Sums.bl bef) a) := by
    rw [Sums.bl_append, saidT_bl]
    obtain ⟨t, h1, h2⟩ := Lz.sayP_pre (mkP (Sums.bl bef) a) (Sums.bl bef)
    rw [h1, show bef.size = (Sums.bl bef).length from (Sums.bl_length bef).symm, List.drop_left]
    have : Sums.bl (⟨#[]⟩ : ByteArray) = [] := rfl
    rw [this, List.append_nil]
  exact ⟨by rw [h], h⟩
theorem half_k (bef : ByteArray) (a : List St) (k : Nat) (hk : k + 1 = (packT (mkP (Sums.bl bef) a) ⟨#[]⟩).size) : k = (Lz.enc (mkP (Sums.bl bef) a)).length := by
  rw [nums_size, List.length_append, Lz.lits_length] at hk
  have h1 : (Sums.bl (⟨#[]⟩ : ByteArray)).length = 0 := rfl
  have h2 : Lz.beh 0 = 0 := rfl
  rw [h1, h2] at hk
  omega
theorem half_le (bef : ByteArray) (a b : List St) (e : ByteArray) (k : Nat) (hk : k + 1 = (packT (mkP (Sums.bl bef) a) ⟨#[]⟩).size) : k ≤ (packT (mkP (Sums.bl bef) (a ++ b)) e).size := by
  rw [half_k bef a k hk, nums_size, mkP_append, Lz.enc_append, List.length_append, List.length_append]
  omega
theorem half_pack (bef : ByteArray) (a b : List St) (e : ByteArray) (k : Nat) (hk : k + 1 = (packT (mkP (Sums.bl bef) a) ⟨#[]⟩).size) : (packT (mkP (Sums.bl bef) (a ++ b)) e).extract k (packT (mkP (Sums.bl bef) (a ++ b)) e).size = packT (mkP (Sums.bl (bef ++ saidT bef a ⟨#[]⟩)) b) e := by
  apply Sums.bl_inj
  rw [Sums.bl_drop, pack_bl, pack_bl, (made_half bef a b).1, mkP_append, Lz.enc_append, List.append_assoc, half_k bef a k hk, List.drop_left]
theorem half_said (bef : ByteArray) (a b : List St) (e : ByteArray) : saidT bef a ⟨#[]⟩ ++ saidT (bef ++ saidT bef a ⟨#[]⟩) b e = saidT bef (a ++ b) e := by
  apply Sums.bl_inj
  obtain ⟨h1, h2⟩ := made_half bef a b
  rw [Sums.bl_append, saidT_bl, saidT_bl, saidT_bl, h1, h2, mkP_append, Lz.sayP_append]
  have h0 : Sums.bl (⟨#[]⟩ : ByteArray) = [] := rfl
  rw [h0, List.append_nil]
  have hs : (bef ++ saidT bef a ⟨#[]⟩).size = (Lz.sayP (Sums.bl bef) (mkP (Sums.bl bef) a)).length := by rw [← h2, Sums.bl_length]
  rw [hs]
  generalize Lz.sayP (Sums.bl bef) (mkP (Sums.bl bef) a) = X at *
  obtain ⟨t, e1, e2⟩ := Lz.sayP_pre (mkP X b) X
  rw [e1, List.drop_left, ← List.append_assoc]
  congr 1
  rw [List.drop_append_of_le_length]
  rw [← hs]
  have : (bef ++ saidT bef a ⟨#[]⟩).size = bef.size + (saidT bef a ⟨#[]⟩).size := by simp
  omega
end Go.Proofs.Ytchjmhgalbkjkab
