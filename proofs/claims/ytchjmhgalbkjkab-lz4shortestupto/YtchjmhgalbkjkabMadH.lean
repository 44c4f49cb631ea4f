/-
  What is read of a made text with too little room, and of one that is cut. Conditions: as each says.
-/
import Derived.Test.YtchjmhgalbkjkabMadG
import Derived.Test.YtchjmhgalbkjkabLzJ
namespace Go.Proofs.Ytchjmhgalbkjkab
open Go.RowKit Go.Shelf
set_option linter.unusedVariables false
theorem sqs_token (e : List Nat) : ∀ (l : List Lz.Pc) (i : Nat), (∀ x ∈ l, 4 ≤ x.len) → ∀ x ∈ Lz.sqs i l e, x.token ≤ i + (Lz.enc l).length
  | [], i, _, x, hx => by
    simp only [Lz.sqs, List.mem_singleton] at hx
    subst hx
    simp [Lz.enc]
  | y :: l, i, h4, x, hx => by
    simp only [Lz.sqs, List.mem_cons] at hx
    rcases hx with rfl | hx
    · simp
    · have := sqs_token e l _ (fun z hz => h4 z (List.mem_cons_of_mem _ hz)) x hx
      rw [Lz.enc, List.length_append, Lz.enc1_length y (h4 y (List.mem_cons_self ..))]
      omega
theorem mkP_len4 : ∀ (a : List St) (S : List Nat), ∀ x ∈ mkP S a, 4 ≤ x.len
  | [], S, x, hx => by simp [mkP] at hx
  | y :: a, S, x, hx => by
    rw [mkP, List.mem_cons] at hx
    rcases hx with rfl | h
    · exact (lenOf_ok y).1
    · exact mkP_len4 a _ x h
theorem sqs_pts (s : ByteArray) (e : ByteArray) : ∀ (l : List Lz.Pc) (i : Nat), (∀ x ∈ l, 4 ≤ x.len) → (∀ x ∈ l, ∀ z ∈ x.lit, z < 256) → (Sums.bl s).drop i = Lz.enc l ++ Lz.lits (Sums.bl e) 0 → (Lz.sqs i l (Sums.bl e)).map (toPt s) = ptsP i l ++ [(i + (Lz.enc l).length, e, 0, 0)]
  | [], i, _, _, hb => by
    obtain ⟨_, e2, _⟩ := Lz.head_enc (Sums.bl s) (Sums.bl e) [] 0 i 0 0 (Sums.bl e).length (by rw [hb]; simp [Lz.enc]) (by omega)
    have h1 : s.extract (i + 1 + Lz.beh (Sums.bl e).length) (i + 1 + Lz.beh (Sums.bl e).length + (Sums.bl e).length) = e := by
      apply Sums.bl_inj
      rw [Sums.bl_extract, ← List.take_drop, e2, List.append_nil, List.take_length]
    simp only [Lz.sqs, ptsP, List.map_cons, List.map_nil, toPt, h1, Lz.enc, List.length_nil, Nat.add_zero, List.nil_append]
  | x :: l, i, h4, hbt, hb => by
    have o1 := h4 x (List.mem_cons_self ..)
    have hb2 : (Sums.bl s).drop i = Lz.enc1 x ++ (Lz.enc l ++ Lz.lits (Sums.bl e) 0) := by rw [hb, Lz.enc, List.append_assoc]
    have hb3 : (Sums.bl s).drop i = Lz.lits x.lit (x.len - 4) ++ ([x.off % 256, x.off / 256] ++ (Lz.lenb (x.len - 4) ++ (Lz.enc l ++ Lz.lits (Sums.bl e) 0))) := by
      rw [hb2]; simp [Lz.enc1]
    obtain ⟨_, e2, _⟩ := Lz.head_enc (Sums.bl s) _ _ _ i 0 0 x.lit.length hb3 (by omega)
    have hd := Lz.drop_more (Sums.bl s) _ _ _ hb2
    have h1 : s.extract (i + 1 + Lz.beh x.lit.length) (i + 1 + Lz.beh x.lit.length + x.lit.length) = nums x.lit := by
      apply Sums.bl_inj
      rw [Sums.bl_extract, ← List.take_drop, e2, List.take_left, bl_nums]
      exact hbt x (List.mem_cons_self ..)
    have IH := sqs_pts s e l (i + (Lz.enc1 x).length) (fun z hz => h4 z (List.mem_cons_of_mem _ hz)) (fun z hz => hbt z (List.mem_cons_of_mem _ hz)) hd
    rw [Lz.enc1_length x o1] at IH
    simp only [Lz.sqs, List.map_cons, ptsP, Lz.enc, List.length_append, Lz.enc1_length x o1, List.cons_append]
    rw [IH]
    simp only [toPt, h1]
    rw [Nat.add_assoc i]
/-- the parts of a made text -/
theorem pack_parts (L : List St) (e : ByteArray) (he : e.size ≤ 100000) (hL : L.length ≤ 60) : ptL (packT (mkP [] L) e) = ptsP 0 (mkP [] L) ++ [((Lz.enc (mkP [] L)).length, e, 0, 0)] := by
  have h0 : Sums.bl (⟨#[]⟩ : ByteArray) = [] := rfl
  have hw := pack_walk ⟨#[]⟩ L e he 9223372036854775807 (by have := mkP_tot L (Sums.bl ⟨#[]⟩); omega)
  rw [h0] at hw
  unfold ptL
  rw [show (⟨#[]⟩ : ByteArray).size = 0 from rfl] at hw
  rw [hw, sqs_pts _ e _ 0 (mkP_len4 L _) (mkP_byt L _) (by rw [pack_bl]; rfl), Nat.zero_add]
theorem walk_room_le (s : ByteArray) (ahead m : Nat) : (allOf s ahead m).2.1 = 0 → Lz.total (allOf s ahead m).1 ≤ m := by
  intro h
  by_cases hn : (allOf s ahead m).1 = []
  · rw [hn]
    exact Nat.zero_le _
  · obtain ⟨pre, x, hx⟩ : ∃ pre x, (allOf s ahead m).1 = pre ++ [x] := ⟨_, _, (List.dropLast_concat_getLast hn).symm⟩
    have hf := Lz.walk_pre (Sums.bl s) (Sums.bl_byt s) ahead m (s.size + 1) pre x (by rw [← hx]; exact List.prefix_refl _)
    rw [hx, Lz.total_append]
    unfold Lz.Fine at hf
    simp only [Lz.total]
    omega
/-- one byte less room is too little -/
theorem exp_less (bef : ByteArray) (L : List St) (e : ByteArray) (he : e.size ≤ 100000) (n : Nat) (hn : Lz.tot (mkP (Sums.bl bef) L) + e.size = n + 1) :
    ∃ to : Nat, to ≤ (Lz.enc (mkP (Sums.bl bef) L)).length ∧ expR bef (packT (mkP (Sums.bl bef) L) e) (n : Int) = tup3 ⟨#[]⟩ 41 to := by
  have h2 := pack_walk bef L e he (n + 1) (by omega)
  have h41 : (allOf (packT (mkP (Sums.bl bef) L) e) bef.size n).2.1 = 41 := by
    apply Classical.byContradiction
    intro hne
    have h3 := Lz.walk_more (Sums.bl (packT (mkP (Sums.bl bef) L) e)) bef.size n (n + 1) (by omega) _ _ _ hne
    have h4 : allOf (packT (mkP (Sums.bl bef) L) e) bef.size n = (Lz.sqs 0 (mkP (Sums.bl bef) L) (Sums.bl e), 0, 0) := h3.symm.trans h2
    have h5 := walk_room_le (packT (mkP (Sums.bl bef) L) e) bef.size n (by rw [h4])
    rw [h4, Lz.total_sqs, Sums.bl_length] at h5
    omega
  have h2' : Lz.walk (Sums.bl (packT (mkP (Sums.bl bef) L) e)) bef.size (n + 1) ((packT (mkP (Sums.bl bef) L) e).size + 1) 0 0 = (Lz.sqs 0 (mkP (Sums.bl bef) L) (Sums.bl e), 0, 0) := h2
  obtain ⟨x, hx, hp⟩ := Lz.walk_place (Sums.bl (packT (mkP (Sums.bl bef) L) e)) bef.size n (n + 1) (by omega) _ _ _ h41 (by rw [h2'])
  refine ⟨x.token, ?_, ?_⟩
  · rw [h2'] at hx
    have := sqs_token (Sums.bl e) _ 0 (mkP_len4 L (Sums.bl bef)) x hx
    omega
  · rw [expR_of, h41]
    simp only [hp]
    rfl
/-- an end ahead of its own -/
theorem exp_open (bef : ByteArray) (A D : List St) (e : ByteArray) (he : e.size ≤ 100000) (n : Nat) (hn : Lz.tot (mkP (Sums.bl bef) (A ++ D)) + e.size ≤ n) (k : Nat) (hk : k = (Lz.enc (mkP (Sums.bl bef) A)).length) :
    expR bef ((packT (mkP (Sums.bl bef) (A ++ D)) e).extract 0 k) (n : Int) = tup3 ⟨#[]⟩ 30 k ∧ ((packT (mkP (Sums.bl bef) (A ++ D)) e).extract 0 k).size = k := by
  have hb : Sums.bl ((packT (mkP (Sums.bl bef) (A ++ D)) e).extract 0 k) = Lz.enc (mkP (Sums.bl bef) A) := by
    rw [Sums.bl_take, pack_bl, mkP_append, Lz.enc_append, List.append_assoc, hk, List.take_left]
  have hsz : ((packT (mkP (Sums.bl bef) (A ++ D)) e).extract 0 k).size = k := by rw [← Sums.bl_length, hb, hk]
  have hok := mkP_ok A (Sums.bl bef)
  rw [Sums.bl_length] at hok
  have ht : Lz.tot (mkP (Sums.bl bef) A) ≤ Lz.tot (mkP (Sums.bl bef) (A ++ D)) := by
    rw [mkP_append, Lz.tot_append]
    omega
  have hal : A.length ≤ k := by
    have h3 : ∀ (a : List St) (S : List Nat), a.length ≤ (Lz.enc (mkP S a)).length := by
      intro a
      induction a with
      | nil => intro S; simp
      | cons x a ih =>
        intro S
        have := ih (Lz.sayP S [pcOf S x])
        rw [mkP, Lz.enc, List.length_append, List.length_cons]
        have : 1 ≤ (Lz.enc1 (pcOf S x)).length := by simp [Lz.enc1, Lz.lits]
        omega
    rw [hk]
    exact h3 A _
  have hw := Lz.walk_open (Sums.bl ((packT (mkP (Sums.bl bef) (A ++ D)) e).extract 0 k)) bef.size n (mkP (Sums.bl bef) A) (((packT (mkP (Sums.bl bef) (A ++ D)) e).extract 0 k).size + 1) 0 0 (by rw [hb]; rfl) (Nat.zero_le _) hok (by omega) (by rw [mkP_length, hsz]; omega)
  refine ⟨?_, hsz⟩
  rw [Sums.bl_length, hsz] at hw
  have h2 : (allOf ((packT (mkP (Sums.bl bef) (A ++ D)) e).extract 0 k) bef.size n).2 = (30, k) := by
    unfold allOf
    rw [hsz]
    exact hw
  rw [expR_of, h2]
  rfl
/-- cut anywhere -/
theorem exp_cut (bef : ByteArray) (L : List St) (e : ByteArray) (he : e.size ≤ 100000) (n : Nat) (hn : Lz.tot (mkP (Sums.bl bef) L) + e.size ≤ n) (k : Nat) (hk : k ≤ (packT (mkP (Sums.bl bef) L) e).size) (hkl : L.length ≤ 60) :
    ((packT (mkP (Sums.bl bef) L) e).extract 0 k).size = k ∧ (expR bef ((packT (mkP (Sums.bl bef) L) e).extract 0 k) (n : Int) = tup3 ⟨#[]⟩ 30 k ∨ ∃ T : ByteArray, T.size ≤ Lz.tot (mkP (Sums.bl bef) L) + e.size ∧ T = (saidT bef L e).extract 0 T.size ∧ expR bef ((packT (mkP (Sums.bl bef) L) e).extract 0 k) (n : Int) = tup3 T 0 0) := by
  have hb : Sums.bl ((packT (mkP (Sums.bl bef) L) e).extract 0 k) = (Lz.enc (mkP (Sums.bl bef) L) ++ Lz.lits (Sums.bl e) 0).take k := by
    rw [Sums.bl_take, pack_bl]
  have hsz : ((packT (mkP (Sums.bl bef) L) e).extract 0 k).size = k := by rw [ByteArray.size_extract]; omega
  refine ⟨hsz, ?_⟩
  have hok := mkP_ok L (Sums.bl bef)
  rw [Sums.bl_length] at hok
  have hw := Lz.walk_cut2 (Sums.bl ((packT (mkP (Sums.bl bef) L) e).extract 0 k)) (Sums.bl e) bef.size n (mkP (Sums.bl bef) L) (((packT (mkP (Sums.bl bef) L) e).extract 0 k).size + 1) 0 0 k (Sums.bl bef) (Nat.zero_le _) (by rw [hb]; rfl) hok (by rw [Sums.bl_length]; omega) (by rw [Sums.bl_length]; omega)
  rcases hw with h | ⟨h1, h2, h3⟩
  · left
    rw [Sums.bl_length] at h
    have h2 : (allOf ((packT (mkP (Sums.bl bef) L) e).extract 0 k) bef.size n).2 = (30, k) := by rw [← hsz]; rw [hsz] at h ⊢; unfold allOf; rw [hsz]; exact h
    rw [expR_of, h2]
    rfl
  · right
    have h4 : (allOf ((packT (mkP (Sums.bl bef) L) e).extract 0 k) bef.size n).2 = (0, 0) := h1
    obtain ⟨R, hR⟩ : ∃ R, (allOf ((packT (mkP (Sums.bl bef) L) e).extract 0 k) bef.size n).1 = R := ⟨_, rfl⟩
    have h2 : Lz.says (Sums.bl ((packT (mkP (Sums.bl bef) L) e).extract 0 k)) (Sums.bl bef) R <+: Lz.sayP (Sums.bl bef) (mkP (Sums.bl bef) L) ++ Sums.bl e := by rw [← hR]; exact h2
    have h3 : (Lz.says (Sums.bl ((packT (mkP (Sums.bl bef) L) e).extract 0 k)) (Sums.bl bef) R).length = (Sums.bl bef).length + Lz.total R := by rw [← hR]; exact h3
    have h5 : expR bef ((packT (mkP (Sums.bl bef) L) e).extract 0 k) (n : Int) = tup3 (nums (sofar ((packT (mkP (Sums.bl bef) L) e).extract 0 k) bef R)) 0 0 := by
      rw [expR_of, h4, hR]
      rfl
    have h6 : sofar ((packT (mkP (Sums.bl bef) L) e).extract 0 k) bef R <+: Sums.bl (saidT bef L e) := by
      rw [saidT_bl]
      unfold sofar
      obtain ⟨t, ht⟩ := h2
      refine ⟨t, ?_⟩
      have hlen : bef.size ≤ (Lz.says (Sums.bl ((packT (mkP (Sums.bl bef) L) e).extract 0 k)) (Sums.bl bef) R).length := by rw [h3, Sums.bl_length]; omega
      have hlen2 : bef.size ≤ (Lz.sayP (Sums.bl bef) (mkP (Sums.bl bef) L)).length := by rw [sayP_len, Sums.bl_length]; omega
      rw [← List.drop_append_of_le_length hlen, ht, List.drop_append_of_le_length hlen2]
    have hby : ∀ z ∈ sofar ((packT (mkP (Sums.bl bef) L) e).extract 0 k) bef R, z < 256 := fun z hz => Sums.bl_byt _ z (h6.subset hz)
    have hl6 := h6.length_le
    rw [Sums.bl_length, saidT_size] at hl6
    refine ⟨_, ?_, ?_, h5⟩
    · rw [nums_size]
      exact hl6
    · apply Sums.bl_inj
      rw [bl_nums _ hby, Sums.bl_take, nums_size]
      exact List.prefix_iff_eq_take.1 h6
end Go.Proofs.Ytchjmhgalbkjkab
