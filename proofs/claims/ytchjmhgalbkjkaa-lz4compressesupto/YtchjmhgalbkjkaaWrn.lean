/-
  lz4.written: the packing of a text with copies. Conditions: as it says.
-/
import Derived.Test.YtchjmhgalbkjkaaWrt
namespace Go.Proofs.Ytchjmhgalbkjkaa
open Go.RowKit
set_option linter.unusedVariables false
/-- copies that may stand one behind the other -/
def okc (n : Nat) : Nat → List Lz.Cp → Prop
  | _, [] => True
  | i, c :: l => i ≤ c.at_ ∧ 4 ≤ c.cnt ∧ c.at_ + c.cnt ≤ n ∧ c.off < 65536 ∧ okc n (c.at_ + c.cnt) l
def cpv : List Lz.Cp → List Value
  | [] => []
  | c :: l => .int .i64 (c.at_ : Int) :: .int .i64 (c.off : Int) :: .int .i64 (c.cnt : Int) :: cpv l
theorem cpv_len : ∀ l, (cpv l).length = 3 * l.length
  | [] => rfl
  | c :: l => by simp [cpv, cpv_len l]; omega
theorem cpv_append : ∀ a b, cpv (a ++ b) = cpv a ++ cpv b
  | [], b => rfl
  | c :: a, b => by simp [cpv, cpv_append a b]
theorem cpv_at : ∀ (l : List Lz.Cp) (j : Nat) (c : Lz.Cp), l[j]? = some c → (cpv l)[3 * j]? = some (.int .i64 (c.at_ : Int)) ∧ (cpv l)[3 * j + 1]? = some (.int .i64 (c.off : Int)) ∧ (cpv l)[3 * j + 2]? = some (.int .i64 (c.cnt : Int))
  | [], j, c, h => by simp at h
  | x :: l, 0, c, h => by
    simp at h
    subst h
    simp [cpv]
  | x :: l, j + 1, c, h => by
    simp at h
    have := cpv_at l j c h
    simp only [cpv, show 3 * (j + 1) = 3 * j + 1 + 1 + 1 by omega, show 3 * j + 1 + 1 + 1 + 1 = (3 * j + 1) + 1 + 1 + 1 by omega, show 3 * j + 1 + 1 + 1 + 2 = (3 * j + 2) + 1 + 1 + 1 by omega, List.getElem?_cons_succ]
    exact this
/-- a row of copies, as it lies in memory -/
def Cpr (w : World) (v : Value) (l : List Lz.Cp) : Prop :=
  (v = .slice none 0 0 ∧ l = []) ∨ ∃ g cap cur fz, v = .slice (some ⟨g, 0, none⟩) l.length cap ∧ l.length ≤ cap ∧ w.heap[g]? = some (.cells cur 72 fz) ∧ cur.toList.take (3 * l.length) = cpv l
theorem Cpr.keep {w w' : World} {v : Value} {l : List Lz.Cp} (h : Cpr w v l) (hk : ∀ (k : Nat) (o : Obj), w.heap[k]? = some o → (∀ cur fz, o ≠ .cells cur 5 fz) → w'.heap[k]? = some o) : Cpr w' v l := by
  rcases h with h | ⟨g, cap, cur, fz, h1, h2, h3, h4⟩
  · exact .inl h
  · exact .inr ⟨g, cap, cur, fz, h1, h2, hk g _ h3 (by intro _ _ e; simp at e), h4⟩
theorem Cpr.cells {w : World} {g n cap : Nat} {l : List Lz.Cp} (h : Cpr w (.slice (some ⟨g, 0, none⟩) n cap) l) (j : Nat) (c : Lz.Cp) (hc : l[j]? = some c) :
    w.cell? ⟨g, j * 3, none⟩ = some (.int .i64 (c.at_ : Int)) ∧ w.cell? ⟨g, j * 3 + 1, none⟩ = some (.int .i64 (c.off : Int)) ∧ w.cell? ⟨g, j * 3 + 2, none⟩ = some (.int .i64 (c.cnt : Int)) := by
  rw [Nat.mul_comm j 3]
  rcases h with ⟨h, _⟩ | ⟨g', cap', cur, fz, h1, h2, h3, h4⟩
  · simp at h
  · simp only [Value.slice.injEq, Option.some.injEq, Addr.mk.injEq, and_true] at h1
    obtain ⟨rfl, _⟩ := h1
    have hj : j < l.length := (List.getElem?_eq_some_iff.1 hc).1
    obtain ⟨a, b, d⟩ := cpv_at l j c hc
    rw [← h4] at a b d
    rw [List.getElem?_take, if_pos (by omega)] at a b d
    simp only [World.cell?, h3]
    refine ⟨by simpa using a, by simpa using b, by simpa using d⟩
theorem three_cell {w : World} {b : Nat} {f0 f1 f2 : Value} {t : TypeId} (h : w.heap[b]? = some (.cells #[f0, f1, f2] t (0, 0))) : w.cell? ⟨b, 0, none⟩ = some f0 ∧ w.cell? ⟨b, 1, none⟩ = some f1 ∧ w.cell? ⟨b, 2, none⟩ = some f2 := by
  simp [World.cell?, h]
theorem exts (s : ByteArray) (i j : Nat) (h : i ≤ j) (hj : j ≤ s.size) : (s.extract i j).size = j - i := by
  rw [ByteArray.size_extract]
  omega
theorem okc_len (n : Nat) : ∀ (l : List Lz.Cp) (i : Nat), i ≤ n → okc n i l → i + 4 * l.length ≤ n
  | [], i, hi, _ => by simpa using hi
  | c :: l, i, hi, ⟨h1, h2, h3, h4, h5⟩ => by
    have := okc_len n l _ h3 h5
    simp only [List.length_cons]
    omega
theorem packed_len (bs : List Nat) : ∀ (l : List Lz.Cp) (i : Nat), i ≤ bs.length → okc bs.length i l → (Lz.packed bs i l).length ≤ 4 * (bs.length - i) + 4
  | [], i, hi, _ => by
    have := lenb_len (bs.length - i)
    simp only [Lz.packed, Lz.lits, List.length_cons, List.length_append, List.length_drop]
    omega
  | c :: l, i, hi, ⟨h1, h2, h3, h4, h5⟩ => by
    have ih := packed_len bs l (c.at_ + c.cnt) h3 h5
    have e1 := lenb_len (min c.at_ bs.length - i)
    have e2 := lenb_len (c.cnt - 4)
    simp only [Lz.packed, Lz.lits, List.length_cons, List.length_append, List.length_drop, List.length_take, List.length_nil]
    omega
/-- what was laid so far, and what is left -/
structure Wr (s : ByteArray) (l : List Lz.Cp) (base : Nat) (w0 : World) (ov : Value) (j i : Nat) (L : List Nat) (w : World) : Prop where
  row : w.ownsRow base 5 1 ov L.length (byv L)
  eq : L ++ Lz.packed (Sums.bl s) i (l.drop j) = Lz.packed (Sums.bl s) 0 l
  le : i ≤ s.size
  ok : okc s.size i (l.drop j)
  ap : Ap base w0 w
  siz : base ≤ w.heap.size
theorem Wr.small {s : ByteArray} {l : List Lz.Cp} {base : Nat} {w0 : World} {ov : Value} {j i : Nat} {L : List Nat} {w : World} (h : Wr s l base w0 ov j i L w) (hl : okc s.size 0 l) : L.length ≤ 4 * s.size + 4 := by
  have e := congrArg List.length h.eq
  rw [List.length_append] at e
  have := packed_len (Sums.bl s) l 0 (Nat.zero_le _) (by rw [Sums.bl_length]; exact hl)
  rw [Sums.bl_length] at this
  omega
set_option maxRecDepth 100000 in
set_option maxHeartbeats 1000000 in
theorem written_any (s : ByteArray) (cv : Value) (l : List Lz.Cp) (w0 : World) (hs : s.size ≤ 4294967296) (hcp : Cpr w0 cv l) (hl : okc s.size 0 l) :
    Calls Try.prog 21 #[.string s, cv] w0 fun e w' => e = .returned (.string (nums (Lz.packed (Sums.bl s) 0 l))) ∧ Ap w0.heap.size w0 w' := by
  obtain ⟨i0, hi, hz0, hz1, hz2⟩ := info_parts infoB
  have hshape : ∃ b cap, cv = .slice b l.length cap := by
    rcases hcp with ⟨rfl, rfl⟩ | ⟨g, cap, cur, fz, rfl, _⟩
    · exact ⟨none, 0, rfl⟩
    · exact ⟨_, cap, rfl⟩
  obtain ⟨b, cap, rfl⟩ := hshape
  have HCP := Hid.mk' hcp
  have HL := Hid.mk' hl
  have hst : Wr s l w0.heap.size w0 (.slice none 0 0) 0 0 [] w0 := ⟨World.ownsRow_nil _ _ _ _, rfl, Nat.zero_le _, hl, Ap.refl _ _, Nat.le_refl _⟩
  have HST := Hid.mk' hst
  obtain ⟨P, hP⟩ : ∃ P, Lz.packed (Sums.bl s) 0 l = P := ⟨_, rfl⟩
  rw [hP]
  have HP := Hid.mk' hP
  have hlen := okc_len s.size l 0 (Nat.zero_le _) hl
  clear hst hl hcp hP
  go_enter Try.func21, Try.ntmps21
  go_wp2
  go_loopw [5, 6, 12] (fun ov iv jv wr => ∃ (j i : Nat) (L : List Nat), iv = .int .i64 (i : Int) ∧ jv = .int .i64 (j : Int) ∧ j ≤ l.length ∧ Wr s l w0.heap.size w0 ov j i L wr) (fun _ _ jv _ => l.length - (intOf jv).toNat)
  case atStart => exact ⟨0, 0, [], rfl, rfl, Nat.zero_le _, HST.out⟩
  case round =>
    obtain ⟨j, i, L, rfl, rfl, hj, hwr⟩ := hrel
    clear HST
    obtain ⟨b1, cap1, rfl⟩ := own_shape hwr.row
    have hLs := hwr.small HL.out
    have hile := hwr.le
    have hbw := hwr.siz
    by_cases hjl : j = l.length
    · have hjI : ¬ (j : Int) < (l.length : Int) := by omega
      have hd : l.drop j = [] := List.drop_eq_nil_of_le (by omega)
      have heq := hwr.eq
      rw [hd, Lz.packed] at heq
      obtain ⟨T, hT⟩ : ∃ T, s.extract i s.size = T := ⟨_, rfl⟩
      have hTs : T.size = s.size - i := by rw [← hT]; exact exts s i s.size hile (Nat.le_refl _)
      have hTb : Sums.bl T = (Sums.bl s).drop i := by rw [← hT]; exact Sums.bl_drop s i
      rw [← hTb] at heq
      rw [HP.out] at heq
      have HLI := Hid.mk' (fun (v : Value) (w : World) => literals_any w0.heap.size v L T 0 w)
      rw [heq] at HLI
      have HWR := Hid.mk' hwr
      have hLb : L.length + T.size ≤ 35184372088832 := by omega
      clear hwr heq hd hTb
      go_wp2_with (first | (go_at_call 35; refine (HLI.out (.slice b1 L.length cap1) _ (by exact HWR.out.row) hbw (by omega) hLb).mono ?_; rintro e w2 ⟨v2, rfl, hown2, hap2⟩; have hcv := conv_own w0.heap.size _ _ w2 _ rfl hown2; have HA2 := Hid.mk' (HWR.out.ap.trans hap2); obtain ⟨b2, cap2, rfl⟩ := own_shape hown2; clear hap2 hown2) | fail)
      go_ret
      exact ⟨rfl, HA2.out⟩
    · have hlt : j < l.length := by omega
      have hjI : (j : Int) < (l.length : Int) := by omega
      obtain ⟨c, hc⟩ : ∃ c, l[j]? = some c := ⟨_, List.getElem?_eq_getElem hlt⟩
      have hsome : ∃ g, b = some ⟨g, 0, none⟩ := by
        rcases HCP.out with ⟨h, h1⟩ | ⟨g, _, _, _, h, _⟩
        · rw [h1] at hlt
          simp at hlt
        · simp only [Value.slice.injEq] at h
          exact ⟨g, h.1⟩
      obtain ⟨g, rfl⟩ := hsome
      obtain ⟨k1, k2, k3⟩ := (HCP.out.keep hwr.ap.keep).cells j c hc
      obtain ⟨ca, co, cn⟩ := c
      simp only at k1 k2 k3
      have hok := hwr.ok
      have heq := hwr.eq
      rw [List.drop_eq_getElem_cons hlt] at hok heq
      rw [List.getElem?_eq_getElem hlt, Option.some.injEq] at hc
      rw [hc] at hok heq
      obtain ⟨o1, o2, o3, o4, o5⟩ := hok
      simp only at o1 o2 o3 o4 o5
      have HWR := Hid.mk' hwr
      have HEQ := Hid.mk' heq
      have HOK := Hid.mk' o5
      obtain ⟨be, hbe⟩ : ∃ be, cn = 4 + be := ⟨cn - 4, by omega⟩
      have hbeI : (cn : Int) - 4 = (be : Int) := by omega
      obtain ⟨e2, he2⟩ : ∃ e2, ca + cn = e2 := ⟨_, rfl⟩
      have he2I : (ca : Int) + (cn : Int) = (e2 : Int) := by omega
      have hcas : ca ≤ s.size := by omega
      obtain ⟨T, hT⟩ : ∃ T, s.extract i ca = T := ⟨_, rfl⟩
      have hTs : T.size = ca - i := by rw [← hT]; exact exts s i ca o1 hcas
      have hTb : Sums.bl T = ((Sums.bl s).take ca).drop i := by rw [← hT]; exact Sums.bl_extract s i ca
      obtain ⟨x0, hx0⟩ : ∃ x0, co % 256 = x0 := ⟨_, rfl⟩
      obtain ⟨x1, hx1⟩ : ∃ x1, co / 256 = x1 := ⟨_, rfl⟩
      have hx0I : (co : Int) % 256 = (x0 : Int) := by omega
      have hx1I : (co : Int) / 256 = (x1 : Int) := by omega
      have hx1b : x1 < 256 := by omega
      obtain ⟨L1, hL1⟩ : ∃ L1, L ++ Lz.lits (Sums.bl T) be = L1 := ⟨_, rfl⟩
      obtain ⟨L2, hL2⟩ : ∃ L2, L2 = L1 ++ [x0, x1] := ⟨_, rfl⟩
      have hL2l : L2.length = L1.length + 2 := by rw [hL2]; simp
      obtain ⟨L3, hL3⟩ : ∃ L3, L2 ++ Lz.lenb be = L3 := ⟨_, rfl⟩
      have hL3e : L3 ++ Lz.packed (Sums.bl s) e2 (l.drop (j + 1)) = Lz.packed (Sums.bl s) 0 l := by
        rw [← HEQ.out, ← hL3, hL2, ← hL1, hTb, Lz.packed, ← he2]
        simp only
        rw [show cn - 4 = be by omega, hx0, hx1]
        simp
      have hL1s : L1.length ≤ 4 * s.size + 100 := by
        have e := congrArg List.length hL3e
        have := packed_len (Sums.bl s) l 0 (Nat.zero_le _) (by rw [Sums.bl_length]; exact HL.out)
        rw [Sums.bl_length] at this
        rw [← hL3, hL2] at e
        simp only [List.length_append] at e
        omega
      have HLI := Hid.mk' (fun (v : Value) (w : World) => literals_any w0.heap.size v L T be w)
      have HLE := Hid.mk' (fun (v : Value) (w : World) => lengthBytes_any w0.heap.size v L2 be w)
      rw [hL1] at HLI
      rw [hL3] at HLE
      have HL3E := Hid.mk' hL3e
      have hne : wr.heap.size = wr.heap.size := rfl
      have HE2 := Hid.mk' he2
      have he2s : e2 ≤ s.size := by omega
      clear hwr heq o5 hc hTb hL1 hL3 hL3e hx0 hx1 hbe hne he2
      have hLb : L.length + T.size ≤ 35184372088832 := by omega
      have hbb : be ≤ 140737488355328 := by omega
      have hL2b : L2.length + be ≤ 70368744177664 := by omega
      have HL2 := Hid.mk' (And.intro hL2 hL2l)
      clear hL2 hL2l
      go_wp2_with (first | (go_at_call 35; refine (HLI.out (.slice b1 L.length cap1) _ (by exact (own_alloc HWR.out.row _)) (by simp; omega) hbb hLb).mono ?_; rintro e w2 ⟨v2, rfl, hown2, hap2⟩; have hcb := hap2.keep wr.heap.size _ (heap_alloc_new wr _) (by intro _ _ h; simp at h); obtain ⟨m0, m1, m2⟩ := three_cell hcb; have HCB := Hid.mk' hcb; have hsz2 : w0.heap.size ≤ w2.heap.size := Nat.le_trans (by simp; omega) hap2.below.size; have HA2 := Hid.mk' ((HWR.out.ap.alloc hbw _).trans hap2); have HO2 := Hid.mk' hown2; obtain ⟨b2, cap2, rfl⟩ := own_shape hown2; clear hcb hap2 hown2) | (at_builtin; refine wpList_append_own _ rfl _ _ 58 rfl w0.heap.size 5 i0 (.int .u8 0) 1 1 Try.underlying58 hi hz0 hz1 hz2 rfl (by decide) (.slice b2 L1.length cap2) L1.length (byv L1) rfl (by exact (own_alloc HO2.out _)) ⟨_, 0, none⟩ 2 2 [.int .u8 (x0 : Int), .int .u8 (x1 : Int)] rfl rfl (n2_news _ _ _ _) (byv_one [x0, x1]) (by unfold maxLen; omega) (by omega) (by simp; omega) ?_; intro v3 w3 hown3 hgrow3 _; have hap3 := ap_add HA2.out HO2.out hsz2 hgrow3; have hcb := (ap_add (Ap.refl w0.heap.size w2) HO2.out hsz2 hgrow3).1.keep wr.heap.size _ HCB.out (by intro _ _ h; simp at h); have HCB3 := Hid.mk' hcb; have HO3 := Hid.mk' (show w3.ownsRow w0.heap.size 5 1 v3 L2.length (byv L2) by rw [HL2.out.2, HL2.out.1, byv_append]; exact hown3); have HA3 := Hid.mk' hap3; obtain ⟨b3, cap3, rfl⟩ := own_shape HO3.out; clear hcb hap3 hown3 hgrow3) | (go_at_call 36; refine (HLE.out (.slice b3 L2.length cap3) _ (by exact HO3.out) HA3.out.2 hL2b).mono ?_; rintro e w4 ⟨v4, rfl, hown4, hap4⟩; have hcb := hap4.keep wr.heap.size _ HCB3.out (by intro _ _ h; simp at h); obtain ⟨n0, n1, n2⟩ := three_cell hcb; have HO4 := Hid.mk' hown4; have HA4 := Hid.mk' (And.intro (HA3.out.1.trans hap4) (Nat.le_trans HA3.out.2 hap4.below.size)); obtain ⟨b4, cap4, rfl⟩ := own_shape hown4; clear hcb hap4 hown4) | fail)
      go_roundw
      case rel =>
        refine ⟨j + 1, e2, L3, rfl, by simp, by omega, ⟨HO4.out, HL3E.out, by omega, by rw [← HE2.out]; exact HOK.out, HA4.out.1, HA4.out.2⟩⟩
      case measure =>
        simp [intOf]
        omega
end Go.Proofs.Ytchjmhgalbkjkaa
