/-
  Lines as a payload: plain facts, no Go in sight. No conditions but those that each fact names.
-/
import Derived.Lib.Bytealg
import Derived.Test.YtlplbnlfajdcbaaGreatDoorMgA
namespace Rec
open Code Sums
abbrev Ln := Int × ByteArray
abbrev MS : Int := 253402300799999
/-- where the first line feed stands, or -1 -/
def nl (t : ByteArray) : Int := Go.Lib.indexByte t.data.toList 10
def bad (x : Ln) : Nat := if 8192 < x.2.size ∨ 0 ≤ nl x.2 then 170 else if x.1 < 0 ∨ MS < x.1 then 171 else 0
def lastF (p : Int) : List Ln → Int
  | [] => p
  | x :: l => lastF x.1 l
def stN : Int → List Int → List Nat
  | _, [] => []
  | p, x :: l => uint (zig (x - p)) ++ stN x l
def lnN : List Nat → List Nat
  | [] => []
  | n :: l => uint n ++ lnN l
def txs : List Ln → List Nat
  | [] => []
  | x :: l => bl x.2 ++ txs l
def sts (l : List Ln) : List Int := l.map Prod.fst
def lns (l : List Ln) : List Nat := l.map fun x => x.2.size
/-- how many bytes the lines' numbers have -/
def nmF (l : List Ln) : Nat := (stN 0 (sts l)).length + (lnN (lns l)).length
def szF (l : List Ln) : Nat := (uint l.length).length + nmF l + (txs l).length
def payF (l : List Ln) : List Nat := uint l.length ++ (stN 0 (sts l) ++ (lnN (lns l) ++ txs l))
theorem pay_len (l : List Ln) : (payF l).length = szF l := by
  unfold payF szF nmF
  simp only [List.length_append]
  omega
theorem stN_append (p : Int) : ∀ (a : List Int) (b : List Int), stN p (a ++ b) = stN p a ++ stN (a.getLastD p) b
  | [], b => rfl
  | x :: a, b => by
    rw [List.cons_append, stN, stN_append x a b, stN, List.append_assoc, List.getLastD_cons]
theorem lnN_append : ∀ (a b : List Nat), lnN (a ++ b) = lnN a ++ lnN b
  | [], b => rfl
  | x :: a, b => by rw [List.cons_append, lnN, lnN_append a b, lnN, List.append_assoc]
theorem txs_append : ∀ (a b : List Ln), txs (a ++ b) = txs a ++ txs b
  | [], b => rfl
  | x :: a, b => by rw [List.cons_append, txs, txs_append a b, txs, List.append_assoc]
theorem sts_append (a b : List Ln) : sts (a ++ b) = sts a ++ sts b := List.map_append
theorem lns_append (a b : List Ln) : lns (a ++ b) = lns a ++ lns b := List.map_append
theorem sts_len (a : List Ln) : (sts a).length = a.length := List.length_map ..
theorem lns_len (a : List Ln) : (lns a).length = a.length := List.length_map ..
/-- the stamp from which the next one is counted -/
def last (l : List Ln) : Int := (sts l).getLastD 0
theorem nm_snoc (l : List Ln) (x : Ln) : nmF (l ++ [x]) = nmF l + (uint (zig (x.1 - last l))).length + (uint x.2.size).length := by
  unfold nmF last
  rw [sts_append, lns_append, stN_append, lnN_append]
  simp only [List.length_append, sts, lns, List.map_cons, List.map_nil, stN, lnN, List.append_nil]
  omega
theorem txs_snoc (l : List Ln) (x : Ln) : txs (l ++ [x]) = txs l ++ bl x.2 := by
  rw [txs_append, txs, txs, List.append_nil]
def addE (L : List Ln) (x : Ln) : Nat := if bad x ≠ 0 then bad x else if 131072 < szF (L ++ [x]) then 41 else 0
/-- what comes of lines that are added to others: why it stopped, where, what is there -/
def encG : List Ln → List Ln → Nat × Nat × List Ln
  | A, [] => (0, 0, A)
  | A, x :: l => if addE A x = 0 then encG (A ++ [x]) l else (addE A x, A.length, A)
theorem uint_mono (a b : Nat) (h : a ≤ b) : (uint a).length ≤ (uint b).length := by
  unfold uint
  suffices H : ∀ f a b, a ≤ b → (enc f a).length ≤ (enc f b).length from H 10 a b h
  intro f
  induction f with
  | zero => intro a b _; simp [enc]
  | succ f ih =>
    intro a b h
    by_cases ha : a < 128
    · rw [enc_one _ _ ha]
      exact enc_pos _ _
    · rw [enc_more _ _ ha, enc_more _ _ (by omega), List.length_cons, List.length_cons]
      have := ih (a / 128) (b / 128) (Nat.div_le_div_right h)
      omega
theorem sz_mono (a b : List Ln) : szF a ≤ szF (a ++ b) := by
  unfold szF nmF
  have := uint_mono a.length (a ++ b).length (by simp)
  rw [sts_append, lns_append, stN_append, lnN_append, txs_append]
  simp only [List.length_append] at this ⊢
  omega
/-- lines that may be, and are not too many: all are taken -/
theorem enc_all : ∀ (l A : List Ln), (∀ x ∈ l, bad x = 0) → szF (A ++ l) ≤ 131072 → encG A l = (0, 0, A ++ l)
  | [], A, _, _ => by rw [List.append_nil]; rfl
  | x :: l, A, h, hs => by
    have e : A ++ x :: l = (A ++ [x]) ++ l := by simp
    have h1 : addE A x = 0 := by
      unfold addE
      rw [if_neg (by simp [h x (List.mem_cons_self ..)]), if_neg]
      have := sz_mono (A ++ [x]) l
      rw [← e] at this
      omega
    rw [encG, if_pos h1, enc_all l (A ++ [x]) (fun y hy => h y (List.mem_cons_of_mem _ hy)) (by rw [← e]; exact hs), e]
/-- stamps read: why it stopped, what they are, where it stands -/
def stF (s : ByteArray) : Nat → Nat → Int → Nat × List Int × Nat
  | 0, a, _ => (0, [], a)
  | k + 1, a, p => if (rd ((bl s).drop a)).2.1 ≠ 0 then ((rd ((bl s).drop a)).2.1, [], a) else if zag (rd ((bl s).drop a)).1 < -p ∨ MS - p < zag (rd ((bl s).drop a)).1 then (171, [], a) else
      ((stF s k (a + (rd ((bl s).drop a)).2.2) (p + zag (rd ((bl s).drop a)).1)).1, (p + zag (rd ((bl s).drop a)).1) :: (stF s k (a + (rd ((bl s).drop a)).2.2) (p + zag (rd ((bl s).drop a)).1)).2.1, (stF s k (a + (rd ((bl s).drop a)).2.2) (p + zag (rd ((bl s).drop a)).1)).2.2)
def lnF (s : ByteArray) : Nat → Nat → Nat × List Nat × Nat
  | 0, a => (0, [], a)
  | k + 1, a => if (rd ((bl s).drop a)).2.1 ≠ 0 then ((rd ((bl s).drop a)).2.1, [], a) else if 8192 < (rd ((bl s).drop a)).1 then (170, [], a) else
      ((lnF s k (a + (rd ((bl s).drop a)).2.2)).1, (rd ((bl s).drop a)).1 :: (lnF s k (a + (rd ((bl s).drop a)).2.2)).2.1, (lnF s k (a + (rd ((bl s).drop a)).2.2)).2.2)
def txF (s : ByteArray) : List Int → List Nat → Nat → Nat × List Ln × Nat
  | st :: S, n :: N, a => if s.size < a + n then (30, [], s.size) else if 0 ≤ nl (s.extract a (a + n)) then (170, [], a + (nl (s.extract a (a + n))).toNat) else
      ((txF s S N (a + n)).1, (st, s.extract a (a + n)) :: (txF s S N (a + n)).2.1, (txF s S N (a + n)).2.2)
  | _, _, a => if a < s.size then (34, [], a) else (0, [], 0)
def decF (s : ByteArray) : Nat × List Ln × Nat :=
  if 131072 < s.size then (41, [], 131072) else
  if (rd (bl s)).2.1 ≠ 0 then ((rd (bl s)).2.1, [], 0) else
  if (stF s (rd (bl s)).1 (rd (bl s)).2.2 0).1 ≠ 0 then ((stF s (rd (bl s)).1 (rd (bl s)).2.2 0).1, [], (stF s (rd (bl s)).1 (rd (bl s)).2.2 0).2.2) else
  if (lnF s (rd (bl s)).1 (stF s (rd (bl s)).1 (rd (bl s)).2.2 0).2.2).1 ≠ 0 then ((lnF s (rd (bl s)).1 (stF s (rd (bl s)).1 (rd (bl s)).2.2 0).2.2).1, [], (lnF s (rd (bl s)).1 (stF s (rd (bl s)).1 (rd (bl s)).2.2 0).2.2).2.2) else
  txF s (stF s (rd (bl s)).1 (rd (bl s)).2.2 0).2.1 (lnF s (rd (bl s)).1 (stF s (rd (bl s)).1 (rd (bl s)).2.2 0).2.2).2.1 (lnF s (rd (bl s)).1 (stF s (rd (bl s)).1 (rd (bl s)).2.2 0).2.2).2.2
theorem byt_dr (s : ByteArray) (a : Nat) : ∀ z ∈ (bl s).drop a, z < 256 := fun z hz => bl_byt s z (List.mem_of_mem_drop hz)
/-- what a number takes -/
theorem rd_step (s : ByteArray) (a : Nat) (ha : a ≤ s.size) (h : (rd ((bl s).drop a)).2.1 = 0) : (bl s).drop a = uint (rd ((bl s).drop a)).1 ++ (bl s).drop (a + (rd ((bl s).drop a)).2.2) ∧ a + (rd ((bl s).drop a)).2.2 ≤ s.size ∧ (rd ((bl s).drop a)).2.2 = (uint (rd ((bl s).drop a)).1).length ∧ (rd ((bl s).drop a)).1 < 18446744073709551616 := by
  obtain ⟨h1, h2, h3⟩ := rd_ok _ (byt_dr s a) h
  have hl : ((bl s).drop a).length = s.size - a := by rw [List.length_drop, bl_length]
  refine ⟨?_, by omega, ?_, h3⟩
  · rw [h1, ← List.drop_drop, List.take_append_drop]
  · rw [h1, List.length_take]
    omega
theorem rd_le (s : ByteArray) (a : Nat) (ha : a ≤ s.size) : a + (rd ((bl s).drop a)).2.2 ≤ s.size := by
  have := (rd_lt _ (byt_dr s a)).2
  rw [List.length_drop, bl_length] at this
  omega
theorem st_ok (s : ByteArray) : ∀ (k a : Nat) (p : Int), a ≤ s.size → 0 ≤ p → p ≤ MS → (stF s k a p).1 = 0 → (bl s).drop a = stN p (stF s k a p).2.1 ++ (bl s).drop (stF s k a p).2.2 ∧ (stF s k a p).2.2 ≤ s.size ∧ (stF s k a p).2.1.length = k ∧ ∀ x ∈ (stF s k a p).2.1, 0 ≤ x ∧ x ≤ MS
  | 0, a, p, ha, _, _, _ => ⟨rfl, ha, rfl, by simp [stF]⟩
  | k + 1, a, p, ha, h0, h1, h => by
    unfold stF at h ⊢
    split at h
    · rename_i h2
      exact absurd h h2
    · rename_i h2
      split at h
      · cases h
      · rename_i h3
        rw [if_neg h2, if_neg h3]
        have h2' : (rd ((bl s).drop a)).2.1 = 0 := by simpa using h2
        obtain ⟨q1, q2, _, _⟩ := rd_step s a ha h2'
        obtain ⟨i1, i2, i3, i4⟩ := st_ok s k _ (p + zag (rd ((bl s).drop a)).1) q2 (by omega) (by omega) h
        refine ⟨?_, i2, by rw [List.length_cons, i3], ?_⟩
        · show (bl s).drop a = stN p (_ :: _) ++ _
          rw [stN, show p + zag (rd ((bl s).drop a)).1 - p = zag (rd ((bl s).drop a)).1 by omega, zig_zag, List.append_assoc, ← i1, ← q1]
        · intro x hx
          rcases List.mem_cons.1 hx with rfl | hx
          · omega
          · exact i4 x hx
theorem ln_ok (s : ByteArray) : ∀ (k a : Nat), a ≤ s.size → (lnF s k a).1 = 0 → (bl s).drop a = lnN (lnF s k a).2.1 ++ (bl s).drop (lnF s k a).2.2 ∧ (lnF s k a).2.2 ≤ s.size ∧ (lnF s k a).2.1.length = k ∧ ∀ x ∈ (lnF s k a).2.1, x ≤ 8192
  | 0, a, ha, _ => ⟨rfl, ha, rfl, by simp [lnF]⟩
  | k + 1, a, ha, h => by
    unfold lnF at h ⊢
    split at h
    · rename_i h2
      exact absurd h h2
    · rename_i h2
      split at h
      · cases h
      · rename_i h3
        rw [if_neg h2, if_neg h3]
        have h2' : (rd ((bl s).drop a)).2.1 = 0 := by simpa using h2
        obtain ⟨q1, q2, _, _⟩ := rd_step s a ha h2'
        obtain ⟨i1, i2, i3, i4⟩ := ln_ok s k _ q2 h
        refine ⟨?_, i2, by rw [List.length_cons, i3], ?_⟩
        · show (bl s).drop a = lnN (_ :: _) ++ _
          rw [lnN, List.append_assoc, ← i1, ← q1]
        · intro x hx
          rcases List.mem_cons.1 hx with rfl | hx
          · omega
          · exact i4 x hx
theorem st_le (s : ByteArray) : ∀ (k a : Nat) (p : Int), a ≤ s.size → (stF s k a p).2.2 ≤ s.size
  | 0, a, p, ha => ha
  | k + 1, a, p, ha => by
    unfold stF
    split
    · exact ha
    · split
      · exact ha
      · exact st_le s k _ _ (rd_le s a ha)
theorem ln_le (s : ByteArray) : ∀ (k a : Nat), a ≤ s.size → (lnF s k a).2.2 ≤ s.size
  | 0, a, ha => ha
  | k + 1, a, ha => by
    unfold lnF
    split
    · exact ha
    · split
      · exact ha
      · exact ln_le s k _ (rd_le s a ha)
theorem ix_lt (c : UInt8) : ∀ (l : List UInt8), 0 ≤ Go.Lib.indexByte l c → Go.Lib.indexByte l c < l.length
  | [], h => by simp [Go.Lib.indexByte] at h
  | b :: l, h => by
    unfold Go.Lib.indexByte at h ⊢
    split
    · simp
    · rename_i h1
      rw [if_neg h1] at h
      split
      · rename_i h2
        rw [if_pos h2] at h
        omega
      · rename_i h2
        rw [if_neg h2] at h
        have h3 := Go.Lib.indexByte_ge l c
        have h4 : ¬ Go.Lib.indexByte l c = -1 := by simpa using h2
        have := ix_lt c l (by omega)
        rw [List.length_cons]
        omega
theorem nl_lt (t : ByteArray) (h : 0 ≤ nl t) : nl t < t.size := by
  unfold nl at h ⊢
  have := ix_lt 10 t.data.toList
  simpa using this h
theorem tx_le (s : ByteArray) : ∀ (S : List Int) (N : List Nat) (a : Nat), a ≤ s.size → (txF s S N a).2.2 ≤ s.size
  | st :: S, n :: N, a, ha => by
    unfold txF
    split
    · exact Nat.le_refl _
    · split
      · rename_i h1 h2
        have := nl_lt _ h2
        rw [ByteArray.size_extract] at this
        show a + _ ≤ _
        omega
      · exact tx_le s S N _ (by omega)
  | [], _, a, ha => by
    unfold txF
    split
    · exact ha
    · exact Nat.zero_le _
  | _ :: _, [], a, ha => by
    unfold txF
    split
    · exact ha
    · exact Nat.zero_le _
theorem tx_ok (s : ByteArray) : ∀ (S : List Int) (N : List Nat) (a : Nat), a ≤ s.size → S.length = N.length → (txF s S N a).1 = 0 → sts (txF s S N a).2.1 = S ∧ lns (txF s S N a).2.1 = N ∧ (bl s).drop a = txs (txF s S N a).2.1 ∧ (∀ x ∈ (txF s S N a).2.1, nl x.2 < 0) ∧ (txF s S N a).2.2 = 0
  | [], [], a, ha, _, h => by
    unfold txF at h ⊢
    split at h
    · cases h
    · rename_i h1
      rw [if_neg h1]
      refine ⟨rfl, rfl, ?_, by simp, rfl⟩
      show (bl s).drop a = []
      exact List.drop_eq_nil_of_le (by rw [bl_length]; omega)
  | st :: S, n :: N, a, ha, hl, h => by
    unfold txF at h ⊢
    split at h
    · cases h
    · rename_i h1
      split at h
      · cases h
      · rename_i h2
        rw [if_neg h1, if_neg h2]
        obtain ⟨i1, i2, i3, i4, i5⟩ := tx_ok s S N (a + n) (by omega) (by simpa using hl) h
        refine ⟨?_, ?_, ?_, ?_, i5⟩
        · show st :: sts _ = _
          rw [i1]
        · show (s.extract a (a + n)).size :: lns _ = _
          rw [i2, ByteArray.size_extract]
          congr 1
          omega
        · show _ = bl (s.extract a (a + n)) ++ txs _
          rw [← i3, bl_extract, List.drop_take, ← List.drop_drop, show a + n - a = n by omega, List.take_append_drop]
        · intro x hx
          rcases List.mem_cons.1 hx with rfl | hx
          · show nl (s.extract a (a + n)) < 0
            omega
          · exact i4 x hx
  | [], _ :: _, _, _, hl, _ => by simp at hl
  | _ :: _, [], _, _, hl, _ => by simp at hl
theorem dec_at (s : ByteArray) (hs : s.size ≤ 131072) : (decF s).2.2 ≤ s.size := by
  have hr := rd_le s 0 (Nat.zero_le _)
  rw [List.drop_zero, Nat.zero_add] at hr
  unfold decF
  rw [if_neg (by omega)]
  split
  · exact Nat.zero_le _
  · split
    · exact st_le s _ _ _ hr
    · split
      · exact ln_le s _ _ (st_le s _ _ _ hr)
      · exact tx_le s _ _ _ (ln_le s _ _ (st_le s _ _ _ hr))
theorem sts_mem {l : List Ln} {x : Ln} (h : x ∈ l) : x.1 ∈ sts l := List.mem_map.2 ⟨x, h, rfl⟩
theorem lns_mem {l : List Ln} {x : Ln} (h : x ∈ l) : x.2.size ∈ lns l := List.mem_map.2 ⟨x, h, rfl⟩
/-- what is read is what is written -/
theorem dec_ok (s : ByteArray) (h : (decF s).1 = 0) : payF (decF s).2.1 = bl s ∧ (∀ x ∈ (decF s).2.1, bad x = 0) ∧ s.size ≤ 131072 ∧ (decF s).2.2 = 0 := by
  have hr := rd_le s 0 (Nat.zero_le _)
  rw [List.drop_zero, Nat.zero_add] at hr
  have hst := rd_step s 0 (Nat.zero_le _)
  rw [List.drop_zero, Nat.zero_add] at hst
  unfold decF at h ⊢
  split at h
  · cases h
  rename_i h0
  rw [if_neg h0]
  split at h
  · rename_i h1
    exact absurd h h1
  rename_i h1
  rw [if_neg h1]
  obtain ⟨q1, q2, q3, q4⟩ := hst (by simpa using h1)
  generalize hc : (rd (bl s)).1 = c at *
  generalize hp : (rd (bl s)).2.2 = p at *
  split at h
  · rename_i h2
    exact absurd h h2
  rename_i h2
  rw [if_neg h2]
  obtain ⟨s1, s2, s3, s4⟩ := st_ok s c p 0 q2 (by omega) (by decide) (by simpa using h2)
  generalize hS : stF s c p 0 = S at *
  split at h
  · rename_i h3
    exact absurd h h3
  rename_i h3
  rw [if_neg h3]
  obtain ⟨n1, n2, n3, n4⟩ := ln_ok s c S.2.2 s2 (by simpa using h3)
  generalize hN : lnF s c S.2.2 = N at *
  obtain ⟨t1, t2, t3, t4, t5⟩ := tx_ok s S.2.1 N.2.1 N.2.2 n2 (by rw [s3, n3]) h
  refine ⟨?_, fun x hx => ?_, by omega, t5⟩
  · unfold payF
    have hl : (txF s S.2.1 N.2.1 N.2.2).2.1.length = c := by rw [← sts_len, t1, s3]
    rw [hl, t1, t2, ← t3, ← n1, ← s1, ← q1]
  · have a1 := s4 x.1 (by rw [← t1]; exact sts_mem hx)
    have a2 := n4 x.2.size (by rw [← t2]; exact lns_mem hx)
    have a3 := t4 x hx
    unfold bad
    rw [if_neg (by omega), if_neg (by omega)]
/-- what is read, and laid down again -/
theorem dec_enc (s : ByteArray) (h : (decF s).1 = 0) : encG [] (decF s).2.1 = (0, 0, (decF s).2.1) := by
  obtain ⟨h1, h2, h3, _⟩ := dec_ok s h
  have hl : szF (decF s).2.1 = s.size := by rw [← pay_len, h1, bl_length]
  rw [enc_all _ [] h2 (by rw [List.nil_append]; omega), List.nil_append]
end Rec
