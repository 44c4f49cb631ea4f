/-
  A line that may be, out of any: the laws' fit. Conditions: as it says.
-/
import Derived.Test.YtlplbnlfajdcbaaGreatDoorBkO
import Derived.Test.YtlplbnlfajdcbaaGreatDoorRelR
import Derived.Maps.AppendAt
namespace Go.Proofs.YtlplbnlfajdcbaaGreatDoor
open Go.RowKit
set_option linter.unusedVariables false
set_option linter.unusedSimpArgs false
/-- a drawn region that stores once, behind all that it reckons: what is known of it -/
structure DI (b s : Nat) (Wk : World) (V : Nat → Value) (C : Array Value) (ty : Nat) (L : Nat → Bool) (f : Nat → Value) (Z : World) : Prop where
  lt : b < Wk.heap.size
  one : L s = false → ∃ k, Z = Wk.drewN k
  two : L s = true → Z.heap[b]? = some (.cells C ty (0, 0)) ∧ Below b Wk Z ∧ ∀ k, k ≠ b → Z.heap[k]? = Wk.heap[k]?
  all : L s = true → ∀ j, j + 1 < s → L j = true
  val : ∀ j, j ≠ s → L j = true → f j = V j
section
variable {b s : Nat} {Wk Z Y : World} {V : Nat → Value} {C : Array Value} {ty : Nat} {L L' : Nat → Bool} {f : Nat → Value}
theorem DI.at (h : DI b s Wk V C ty L f Z) (i : Nat) (hi : i + 1 < s) (hL : L i = false) : ∃ k, Z = Wk.drewN k := by
  refine h.one ?_
  cases q : L s with
  | false => rfl
  | true => rw [h.all q i hi] at hL; cases hL
theorem DI.step (h : DI b s Wk V C ty L f Z) (i : Nat) (hi : i ≠ s) {v : Value} (hv : v = V i) : ∀ L' : Nat → Bool, (∀ k, L' k = if k = i then true else L k) → DI b s Wk V C ty L' (upd f i v) Z := by
  intro L' hL
  have es : L' s = L s := by rw [hL, if_neg (Ne.symm hi)]
  refine ⟨h.lt, fun q => h.one (es ▸ q), fun q => h.two (es ▸ q), fun q j hj => ?_, fun j hj q => ?_⟩
  · rw [hL]
    split
    · rfl
    · exact h.all (es ▸ q) j hj
  · unfold upd
    by_cases e : j = i
    · subst e
      rw [if_pos rfl]
      exact hv
    · rw [if_neg e]
      rw [hL, if_neg e] at q
      exact h.val j hj q
theorem DI.store (h : DI b s Wk V C ty L f Z) (hall : ∀ j, j + 1 < s → L j = true) (hY : Y.heap[b]? = some (.cells C ty (0, 0))) (hB : Below b Z Y) (hO : ∀ k, k ≠ b → Y.heap[k]? = Z.heap[k]?) (hL0 : L s = false) {u : Value} : ∀ L' : Nat → Bool, (∀ k, L' k = if k = s then true else L k) → DI b s Wk V C ty L' (upd f s u) Y := by
  intro L' hL
  obtain ⟨k, rfl⟩ := h.one hL0
  refine ⟨h.lt, fun q => (by rw [hL, if_pos rfl] at q; cases q), fun _ => ⟨hY, ((Below.refl _ _).drewN' k).trans hB, hO⟩, fun _ j hj => ?_, fun j hj q => ?_⟩
  · rw [hL, if_neg (by omega)]
    exact hall j hj
  · unfold upd
    rw [if_neg hj]
    rw [hL, if_neg hj] at q
    exact h.val j hj q
theorem DI.init {f0 : Nat → Value} (hl : b < Wk.heap.size) (L : Nat → Bool) (hL : ∀ k, L k = false) : DI b s Wk V C ty L f0 { Wk with drawn := Wk.drawn + 1 } :=
  ⟨hl, fun _ => ⟨1, rfl⟩, fun q => (by rw [hL] at q; cases q), fun q => (by rw [hL] at q; cases q), fun j _ q => (by rw [hL] at q; cases q)⟩
end
theorem two_put {W : World} {C : Nat} {t : TypeId} {z : Nat × Nat} {y0 y1 : Value} (x0 x1 : Value) (h0 : W.heap[C]? = some (.cells #[y0, y1] t z)) : ((W.setCell ⟨C, 0, none⟩ x0).setCell ⟨C, 1, none⟩ x1).heap[C]? = some (.cells #[x0, x1] t z) := by
  have h1 : (W.setCell ⟨C, 0, none⟩ x0).heap[C]? = some (.cells #[x0, y1] t z) := (cells_put h0 x0).trans rfl
  exact (cells_put h1 x1).trans rfl
theorem two_other (W : World) (C : Nat) (x0 x1 : Value) : ∀ k, k ≠ C → ((W.setCell ⟨C, 0, none⟩ x0).setCell ⟨C, 1, none⟩ x1).heap[k]? = W.heap[k]? := fun k hk => (put_other _ C 1 k x1 hk).trans (put_other W C 0 k x0 hk)
theorem two_below {w W : World} {B C : Nat} (x0 x1 : Value) (h : Below B w W) (hC : B ≤ C) : Below B w ((W.setCell ⟨C, 0, none⟩ x0).setCell ⟨C, 1, none⟩ x1) :=
  (h.setCell (p := ⟨C, 0, none⟩) hC _).setCell (p := ⟨C, 1, none⟩) hC _
theorem infoBy : (Tryz.prog.info? 5).map (fun i => (i.zero, i.size, i.bytes)) = some (some (.int .u8 0), 1, 1) := by kernel_rfl
def fitB (c : Nat) : Nat := if c = 10 then 32 else c
/-- a text without feeds, of at most 300 bytes -/
def fitL (t : ByteArray) (k : Nat) : List Nat := ((Sums.bl t).take k).map fitB
def fitT (t : ByteArray) : ByteArray := nums (fitL t (min t.size 300))
def fitF (x : Rec.Ln) : Rec.Ln := (((pkB x.1 253402300800000 : Nat) : Int), fitT x.2)
theorem fitL_len (t : ByteArray) (k : Nat) (h : k ≤ t.size) : (fitL t k).length = k := by
  unfold fitL
  rw [List.length_map, List.length_take, Sums.bl_length]
  omega
theorem fitL_byt (t : ByteArray) (k : Nat) : ∀ z ∈ fitL t k, z < 256 ∧ z ≠ 10 := by
  intro z hz
  obtain ⟨c, hc, rfl⟩ := List.mem_map.1 hz
  have := Sums.bl_byt t c (List.mem_of_mem_take hc)
  unfold fitB
  split
  · omega
  · omega
theorem fitL_step (t : ByteArray) (k : Nat) (h : k < t.size) : fitL t (k + 1) = fitL t k ++ [fitB (t[k]).toNat] := by
  have hl : k < (Sums.bl t).length := by rw [Sums.bl_length]; exact h
  unfold fitL
  rw [List.take_succ_eq_append_getElem hl, List.map_append]
  congr 1
  have h9 := Sums.bl_get t k h
  rw [List.getD_eq_getElem?_getD, List.getElem?_eq_getElem hl] at h9
  simp only [Option.getD_some] at h9
  rw [h9]
  rfl
set_option maxHeartbeats 4000000 in
set_option maxRecDepth 100000 in
theorem fit_any (x : Int) (t : ByteArray) (w : World) (hx0 : -9223372036854775808 ≤ x) (hx1 : x ≤ 9223372036854775807) (ht : t.size ≤ 140737488351232) :
    Calls Tryz.prog 44 #[.agg #[.int .i64 x, .string t]] w fun r w' => r = .returned (.agg #[.int .i64 (fitF (x, t)).1, .string (fitF (x, t)).2]) ∧ Below w.heap.size w w' := by
  obtain ⟨i0, hi, hz0, hz1, hz2⟩ := info_parts infoBy
  obtain ⟨B, hB⟩ : ∃ B, w.heap.size = B := ⟨_, rfl⟩
  obtain ⟨w0, hw0⟩ : ∃ w0, (w.alloc (.cells #[.int .i64 x, .string t] 26)).alloc (.cells #[.int .i64 0, .string ⟨#[]⟩] 26) = w0 := ⟨_, rfl⟩
  have HK0 : Hid (w0.heap[B]? = some (.cells #[.int .i64 x, .string t] 26 (0, 0)) ∧ w0.heap[B + 1]? = some (.cells #[.int .i64 0, .string ⟨#[]⟩] 26 (0, 0)) ∧ Below B w w0 ∧ w0.heap.size = B + 2) := by
    have z1 : (w.alloc (.cells #[.int .i64 x, .string t] 26)).heap.size = B + 1 := by rw [World.size_alloc, hB]
    unfold Hid
    rw [← hw0]
    refine ⟨(Below.heap_alloc _ _ _ (by rw [z1]; omega)).trans ?_, ?_, ((Below.refl B w).alloc (by omega) _).alloc (by rw [z1]; omega) _, by rw [World.size_alloc, z1]⟩
    · rw [← hB]
      exact heap_alloc_new _ _
    · rw [← z1]
      exact heap_alloc_new _ _
  obtain ⟨n, hn⟩ : ∃ n, t.size = n := ⟨_, rfl⟩
  have hnb : n ≤ 140737488351232 := by omega
  have HPK := Hid.mk' (fun W => pickB x 253402300800000 W hx0 hx1 (by decide) (by decide))
  have HH : Hid (∀ X, Below (B + 2) w0 X → X.heap[B]? = some (.cells #[.int .i64 x, .string t] 26 (0, 0)) ∧ X.heap[B + 1]? = some (.cells #[.int .i64 0, .string ⟨#[]⟩] 26 (0, 0)) ∧ Below B w X) := fun X hX => by
    obtain ⟨k1, k2, k3, k4⟩ := HK0.out
    exact ⟨(hX.block B (by omega)).trans k1, (hX.block (B + 1) (by omega)).trans k2, k3.trans (hX.mono (by omega))⟩
  have HN := Hid.mk' hn
  have HL : Hid (w0.heap.size = B + 2) := HK0.out.2.2.2
  clear hx0 hx1 ht
  go_enter Tryz.func44, Tryz.ntmps44
  go_wp2_with fail
  clear hw0
  go_loopw [3, 4, 5] (fun s3 s4 _ wr => ∃ (k : Nat) (p : Option Addr) (c : Nat), s3 = .slice p k c ∧ s4 = .int .i64 (k : Int) ∧ k ≤ n ∧ k ≤ 300 ∧ Hid (wr.ownsRow (B + 2) 5 1 (.slice p k c) k (byv (fitL t k)) ∧ Below (B + 2) w0 wr)) (fun _ s4 _ _ => 300 - (intOf s4).toNat)
  case atStart => exact ⟨0, none, 0, rfl, rfl, by omega, by omega, World.ownsRow_nil _ _ _ _, Below.refl _ _⟩
  case round =>
    obtain ⟨k, p, c, rfl, rfl, hkn, hk3, HX⟩ := hrel
    rename World => wr
    have e1 := cell_at (k := 1) (HH.out wr HX.out.2).1 rfl
    by_cases hlt : k < n ∧ k < 300
    · obtain ⟨hl1, hl2⟩ := hlt
      have l1 : (k : Int) < (n : Int) := by omega
      have l2 : (k : Int) < 300 := by omega
      have l0 : (0 : Int) ≤ (k : Int) := by omega
      have hst := fitL_step t k (by rw [HN.out]; exact hl1)
      obtain ⟨ch, hch⟩ : ∃ ch, (t[k]'(by rw [HN.out]; exact hl1)).toNat = ch := ⟨_, rfl⟩
      have hcb : ch < 256 := by rw [← hch]; exact UInt8.toNat_lt _
      rw [hch] at hst
      have HST := Hid.mk' hst
      have HKL := Hid.mk' (And.intro hl1 hl2)
      have hsz := HX.out.2.size
      have hsL := HL.out
      clear hst hkn
      by_cases h10 : ch = 10
      · have hc10 : ((ch : Int) == 10) = true := by simp; omega
        have hf : fitB ch = 32 := by unfold fitB; rw [if_pos h10]
        rw [hf] at HST
        clear h10 hf
        go_wp2_with (first | (at_builtin; refine wpList_append_own_at _ rfl _ _ 52 rfl (B + 2) 5 i0 (.int .u8 0) 1 1 Tryz.underlying52 hi hz0 hz1 hz2 rfl (by decide) _ _ _ rfl (HX.out.1.alloc _) ⟨wr.heap.size, 0, none⟩ 1 1 [.int .u8 32] rfl rfl (cell_one_new _ _ _) (by intro q hq; simp at hq; subst hq; rfl) (by unfold maxLen; omega) (by omega) (by simp only [World.size_alloc]; omega) ?_; intro v6 w6 ho6 hg6 _ hat6; obtain ⟨p6, c6, rfl⟩ := row_shape ho6; have HO6 := Hid.mk' ho6; have HG6 := Hid.mk' hg6; clear ho6 hg6 hat6) | fail)
        have hb6 : Below (B + 2) w0 w6 := (HX.out.2.alloc (by omega) _).grown HG6.out (by simp; omega) (fun q hq => (HX.out.1.lt q hq).1)
        have ho7 : w6.ownsRow (B + 2) 5 1 (.slice p6 (k + 1) c6) (k + 1) (byv (fitL t (k + 1))) := by
          rw [HST.out, byv_append]
          exact HO6.out
        have HR6 := Hid.mk' (And.intro ho7 hb6)
        clear hb6 ho7
        go_roundw
        case rel => exact ⟨k + 1, p6, c6, rfl, by simp, HKL.out.1, HKL.out.2, HR6.out⟩
        case measure => have := HKL.out; simp [intOf]; omega
      · have hc10 : ((ch : Int) == 10) = false := by simp; omega
        have hf : fitB ch = ch := by unfold fitB; rw [if_neg h10]
        rw [hf] at HST
        clear h10 hf
        go_wp2_with (first | (at_builtin; refine wpList_append_own_at _ rfl _ _ 52 rfl (B + 2) 5 i0 (.int .u8 0) 1 1 Tryz.underlying52 hi hz0 hz1 hz2 rfl (by decide) _ _ _ rfl (HX.out.1.alloc _) ⟨wr.heap.size, 0, none⟩ 1 1 [.int .u8 (ch : Int)] rfl rfl (cell_one_new _ _ _) (by intro q hq; simp at hq; subst hq; rfl) (by unfold maxLen; omega) (by omega) (by simp only [World.size_alloc]; omega) ?_; intro v6 w6 ho6 hg6 _ hat6; obtain ⟨p6, c6, rfl⟩ := row_shape ho6; have HO6 := Hid.mk' ho6; have HG6 := Hid.mk' hg6; clear ho6 hg6 hat6) | fail)
        have hb6 : Below (B + 2) w0 w6 := (HX.out.2.alloc (by omega) _).grown HG6.out (by simp; omega) (fun q hq => (HX.out.1.lt q hq).1)
        have ho7 : w6.ownsRow (B + 2) 5 1 (.slice p6 (k + 1) c6) (k + 1) (byv (fitL t (k + 1))) := by
          rw [HST.out, byv_append]
          exact HO6.out
        have HR6 := Hid.mk' (And.intro ho7 hb6)
        clear hb6 ho7
        go_roundw
        case rel => exact ⟨k + 1, p6, c6, rfl, by simp, HKL.out.1, HKL.out.2, HR6.out⟩
        case measure => have := HKL.out; simp [intOf]; omega
    · have hcase : (k = n ∧ ¬ (k : Int) < (n : Int)) ∨ ((k : Int) < (n : Int) ∧ k = 300 ∧ ¬ (k : Int) < 300) := by omega
      have hke : k = min n 300 := by omega
      have hfin : nums (fitL t k) = (fitF (x, t)).2 := by
        unfold fitF fitT
        rw [hke, HN.out]
      have HFIN := Hid.mk' hfin
      have HCV : Hid (∀ W, W.ownsRow (B + 2) 5 1 (.slice p k c) k (byv (fitL t k)) → (convert 52 9 (.slice p k c)).run Tryz.prog W = .ok (.string (nums (fitL t k))) W) := fun W hW => conv_own (B + 2) k (fitL t k) W _ (fitL_len t k (by rw [HN.out]; exact hkn)) hW
      generalize nums (fitL t k) = T at HCV HFIN
      clear hfin hke hlt
      rcases hcase with ⟨-, q1⟩ | ⟨q1, -, q2⟩
      · have hlt9 : B + 1 < wr.heap.size := by have h1 := HX.out.2.size; have h2 := HL.out; omega
        go_upto_region 9 with fail
        refine (wpIn_wide (n := 6)).1 ?_
        refine region_rel (by kernel_rfl) (fun zz => { tmps := #[.agg #[.int .i64 x, .string t], .pointer (some ⟨B, 0, none⟩), .pointer (some ⟨B + 1, 0, none⟩), .slice p k c, .int .i64 (k : Int), u5, .int .i64 (k : Int), .pointer (some ⟨B, 1, none⟩), .string t, .int .i64 (n : Int), .bool false, .bool false, undef, undef, .bool false, u15, u16, u17, u18, u19, u20, u21, u22, u23, u24, u25, u26, zz 0, zz 1, zz 2, zz 3, zz 4, zz 5], defers := [] }) (fun _ => undef) _ (fun L zz Z => DI (B + 1) 6 wr (fun j => if j = 0 then .pointer (some ⟨B, 0, none⟩) else if j = 1 then .int .i64 x else if j = 2 then .int .i64 ((pkB x 253402300800000 : Nat) : Int) else if j = 3 then .slice p k c else if j = 4 then .string T else if j = 5 then .agg #[.int .i64 ((pkB x 253402300800000 : Nat) : Int), .string T] else undef) #[.int .i64 ((pkB x 253402300800000 : Nat) : Int), .string T] 26 L zz Z) (DI.init hlt9) (deps_of' (by kernel_rfl)) ?_ ?_
        · intro L zz Z hI i0 hi0 hL op ho hdone KK hKK
          have hlt : i0 < 7 := hi0
          rcases (show i0 = 0 ∨ i0 = 1 ∨ i0 = 2 ∨ i0 = 3 ∨ i0 = 4 ∨ i0 = 5 ∨ i0 = 6 by omega) with rfl | rfl | rfl | rfl | rfl | rfl | rfl
          · simp at ho; subst ho; simp [Region.binds] at hdone
            have hKX := hKK (.pointer (some ⟨B, 0, none⟩)) _ (hI.step 0 (by decide) rfl)
            simp [wpOpIn, Region.wanted, yielded, Oper.wpIn, Oper.semAt_eq, execOp, Oper.uponIn, go_sem]
            first | exact hKX | (simp [upd] at hKX; exact hKX) | (simp [upd] at hKX ⊢; exact hKX)
          · simp at ho; subst ho; simp [Region.binds] at hdone
            have e0 : zz 0 = .pointer (some ⟨B, 0, none⟩) := hI.val 0 (by decide) (by simp [hdone])
            obtain ⟨kk, rfl⟩ := hI.at 1 (by decide) hL
            have p0 := cell_at (k := 0) (HH.out (wr.drewN kk) (HX.out.2.drewN' kk)).1 rfl
            have hKX := hKK (.int .i64 x) _ (hI.step 1 (by decide) rfl)
            simp [wpOpIn, Region.wanted, yielded, Oper.wpIn, Oper.semAt_eq, execOp, Oper.uponIn, go_sem, e0, p0]
            first | exact hKX | (simp [upd, e0] at hKX; exact hKX) | (simp [upd, e0] at hKX ⊢; exact hKX)
          · simp at ho; subst ho; simp [Region.binds] at hdone
            have e1 : zz 1 = .int .i64 x := hI.val 1 (by decide) (by simp [hdone])
            simp [wpOpIn, Region.wanted, yielded, Oper.wpIn, Oper.semAt_eq, execOp, Oper.uponIn, go_sem, e1]
            refine ⟨trivial, ?_⟩
            refine CallsIn.mono (callsIn_wide.2 (HPK.out Z)) ?_
            rintro r Y ⟨rfl, hY⟩
            have hY2 := hY.symm
            subst hY2
            clear hY
            have hKX := hKK (.int .i64 ((pkB x 253402300800000 : Nat) : Int)) _ (hI.step 2 (by decide) rfl)
            first | exact hKX | (simp [upd, e1] at hKX; exact hKX) | (simp [upd, e1] at hKX ⊢; exact hKX)
          · simp at ho; subst ho; simp [Region.binds] at hdone
            have hKX := hKK (.slice p k c) _ (hI.step 3 (by decide) rfl)
            simp [wpOpIn, Region.wanted, yielded, Oper.wpIn, Oper.semAt_eq, execOp, Oper.uponIn, go_sem]
            first | exact hKX | (simp [upd] at hKX; exact hKX) | (simp [upd] at hKX ⊢; exact hKX)
          · simp at ho; subst ho; simp [Region.binds] at hdone
            have e3 : zz 3 = .slice p k c := hI.val 3 (by decide) (by simp [hdone])
            obtain ⟨kk, rfl⟩ := hI.at 4 (by decide) hL
            have hcv := HCV.out (wr.drewN kk) HX.out.1
            have hKX := hKK (.string T) _ (hI.step 4 (by decide) rfl)
            simp [wpOpIn, Region.wanted, yielded, Oper.wpIn, Oper.semAt_eq, execOp, Oper.uponIn, go_sem, e3, hcv]
            first | exact hKX | (simp [upd, e3] at hKX; exact hKX) | (simp [upd, e3] at hKX ⊢; exact hKX)
          · simp at ho; subst ho; simp [Region.binds] at hdone
            have e2 : zz 2 = .int .i64 ((pkB x 253402300800000 : Nat) : Int) := hI.val 2 (by decide) (by simp [hdone])
            have e4 : zz 4 = .string T := hI.val 4 (by decide) (by simp [hdone])
            have hKX := hKK (.agg #[.int .i64 ((pkB x 253402300800000 : Nat) : Int), .string T]) _ (hI.step 5 (by decide) rfl)
            simp [wpOpIn, Region.wanted, yielded, Oper.wpIn, Oper.semAt_eq, execOp, Oper.uponIn, go_sem, e2, e4]
            first | exact hKX | (simp [upd, e2, e4] at hKX; exact hKX) | (simp [upd, e2, e4] at hKX ⊢; exact hKX)
          · simp at ho; subst ho; simp [Region.binds] at hdone
            have e5 : zz 5 = .agg #[.int .i64 ((pkB x 253402300800000 : Nat) : Int), .string T] := hI.val 5 (by decide) (by simp [hdone])
            have hal : ∀ j, j + 1 < 6 → L j = true := fun j hj => by
              rcases (show j = 0 ∨ j = 1 ∨ j = 2 ∨ j = 3 ∨ j = 4 by omega) with rfl | rfl | rfl | rfl | rfl <;> simp [hdone]
            obtain ⟨kk, rfl⟩ := hI.one hL
            obtain ⟨-, q3, -⟩ := HH.out (wr.drewN kk) (HX.out.2.drewN' kk)
            have r0 := cell_at (k := 0) q3 rfl
            have r1 := cell_at (k := 1) q3 rfl
            have g0 := frozen_at (k := 0) q3
            have g1 := frozen_at (k := 1) q3
            have hKX := hKK undef _ (hI.store (Y := ((wr.drewN kk).setCell ⟨B + 1, 0, none⟩ (.int .i64 ((pkB x 253402300800000 : Nat) : Int))).setCell ⟨B + 1, 1, none⟩ (.string T)) hal (two_put _ _ q3) (two_below _ _ (Below.refl _ _) (Nat.le_refl _)) (two_other _ _ _ _) hL)
            simp [wpOpIn, Region.wanted, yielded, Oper.wpIn, Oper.semAt_eq, execOp, Oper.uponIn, go_sem, e5, q3, r0, r1, g0, g1]
            first | exact hKX | (simp [upd, e5] at hKX; exact hKX) | (simp [upd, e5] at hKX ⊢; exact hKX)
        · intro L zz Z hall hI
          obtain ⟨q3, q4, -⟩ := hI.two (hall 6 (by decide))
          have HQ := Hid.mk' ((HH.out wr HX.out.2).2.2.trans (q4.mono (by omega)))
          have r0 := cell_at (k := 0) q3 rfl
          have r1 := cell_at (k := 1) q3 rfl
          clear hI q3 q4 hall
          go_wp2_with fail
          refine bodyPost_ret (v := .agg #[.int .i64 ((pkB x 253402300800000 : Nat) : Int), .string T]) (by simp [results, Tryz.results44, go_sem, r0, r1]) rfl ⟨?_, HQ.out⟩
          rw [HFIN.out]; rfl
      · have hlt9 : B + 1 < wr.heap.size := by have h1 := HX.out.2.size; have h2 := HL.out; omega
        go_upto_region 9 with fail
        refine (wpIn_wide (n := 6)).1 ?_
        refine region_rel (by kernel_rfl) (fun zz => { tmps := #[.agg #[.int .i64 x, .string t], .pointer (some ⟨B, 0, none⟩), .pointer (some ⟨B + 1, 0, none⟩), .slice p k c, .int .i64 (k : Int), u5, .int .i64 (k : Int), .pointer (some ⟨B, 1, none⟩), .string t, .int .i64 (n : Int), .bool true, .bool true, .int .i64 (k : Int), .bool false, .bool false, u15, u16, u17, u18, u19, u20, u21, u22, u23, u24, u25, u26, zz 0, zz 1, zz 2, zz 3, zz 4, zz 5], defers := [] }) (fun _ => undef) _ (fun L zz Z => DI (B + 1) 6 wr (fun j => if j = 0 then .pointer (some ⟨B, 0, none⟩) else if j = 1 then .int .i64 x else if j = 2 then .int .i64 ((pkB x 253402300800000 : Nat) : Int) else if j = 3 then .slice p k c else if j = 4 then .string T else if j = 5 then .agg #[.int .i64 ((pkB x 253402300800000 : Nat) : Int), .string T] else undef) #[.int .i64 ((pkB x 253402300800000 : Nat) : Int), .string T] 26 L zz Z) (DI.init hlt9) (deps_of' (by kernel_rfl)) ?_ ?_
        · intro L zz Z hI i0 hi0 hL op ho hdone KK hKK
          have hlt : i0 < 7 := hi0
          rcases (show i0 = 0 ∨ i0 = 1 ∨ i0 = 2 ∨ i0 = 3 ∨ i0 = 4 ∨ i0 = 5 ∨ i0 = 6 by omega) with rfl | rfl | rfl | rfl | rfl | rfl | rfl
          · simp at ho; subst ho; simp [Region.binds] at hdone
            have hKX := hKK (.pointer (some ⟨B, 0, none⟩)) _ (hI.step 0 (by decide) rfl)
            simp [wpOpIn, Region.wanted, yielded, Oper.wpIn, Oper.semAt_eq, execOp, Oper.uponIn, go_sem]
            first | exact hKX | (simp [upd] at hKX; exact hKX) | (simp [upd] at hKX ⊢; exact hKX)
          · simp at ho; subst ho; simp [Region.binds] at hdone
            have e0 : zz 0 = .pointer (some ⟨B, 0, none⟩) := hI.val 0 (by decide) (by simp [hdone])
            obtain ⟨kk, rfl⟩ := hI.at 1 (by decide) hL
            have p0 := cell_at (k := 0) (HH.out (wr.drewN kk) (HX.out.2.drewN' kk)).1 rfl
            have hKX := hKK (.int .i64 x) _ (hI.step 1 (by decide) rfl)
            simp [wpOpIn, Region.wanted, yielded, Oper.wpIn, Oper.semAt_eq, execOp, Oper.uponIn, go_sem, e0, p0]
            first | exact hKX | (simp [upd, e0] at hKX; exact hKX) | (simp [upd, e0] at hKX ⊢; exact hKX)
          · simp at ho; subst ho; simp [Region.binds] at hdone
            have e1 : zz 1 = .int .i64 x := hI.val 1 (by decide) (by simp [hdone])
            simp [wpOpIn, Region.wanted, yielded, Oper.wpIn, Oper.semAt_eq, execOp, Oper.uponIn, go_sem, e1]
            refine ⟨trivial, ?_⟩
            refine CallsIn.mono (callsIn_wide.2 (HPK.out Z)) ?_
            rintro r Y ⟨rfl, hY⟩
            have hY2 := hY.symm
            subst hY2
            clear hY
            have hKX := hKK (.int .i64 ((pkB x 253402300800000 : Nat) : Int)) _ (hI.step 2 (by decide) rfl)
            first | exact hKX | (simp [upd, e1] at hKX; exact hKX) | (simp [upd, e1] at hKX ⊢; exact hKX)
          · simp at ho; subst ho; simp [Region.binds] at hdone
            have hKX := hKK (.slice p k c) _ (hI.step 3 (by decide) rfl)
            simp [wpOpIn, Region.wanted, yielded, Oper.wpIn, Oper.semAt_eq, execOp, Oper.uponIn, go_sem]
            first | exact hKX | (simp [upd] at hKX; exact hKX) | (simp [upd] at hKX ⊢; exact hKX)
          · simp at ho; subst ho; simp [Region.binds] at hdone
            have e3 : zz 3 = .slice p k c := hI.val 3 (by decide) (by simp [hdone])
            obtain ⟨kk, rfl⟩ := hI.at 4 (by decide) hL
            have hcv := HCV.out (wr.drewN kk) HX.out.1
            have hKX := hKK (.string T) _ (hI.step 4 (by decide) rfl)
            simp [wpOpIn, Region.wanted, yielded, Oper.wpIn, Oper.semAt_eq, execOp, Oper.uponIn, go_sem, e3, hcv]
            first | exact hKX | (simp [upd, e3] at hKX; exact hKX) | (simp [upd, e3] at hKX ⊢; exact hKX)
          · simp at ho; subst ho; simp [Region.binds] at hdone
            have e2 : zz 2 = .int .i64 ((pkB x 253402300800000 : Nat) : Int) := hI.val 2 (by decide) (by simp [hdone])
            have e4 : zz 4 = .string T := hI.val 4 (by decide) (by simp [hdone])
            have hKX := hKK (.agg #[.int .i64 ((pkB x 253402300800000 : Nat) : Int), .string T]) _ (hI.step 5 (by decide) rfl)
            simp [wpOpIn, Region.wanted, yielded, Oper.wpIn, Oper.semAt_eq, execOp, Oper.uponIn, go_sem, e2, e4]
            first | exact hKX | (simp [upd, e2, e4] at hKX; exact hKX) | (simp [upd, e2, e4] at hKX ⊢; exact hKX)
          · simp at ho; subst ho; simp [Region.binds] at hdone
            have e5 : zz 5 = .agg #[.int .i64 ((pkB x 253402300800000 : Nat) : Int), .string T] := hI.val 5 (by decide) (by simp [hdone])
            have hal : ∀ j, j + 1 < 6 → L j = true := fun j hj => by
              rcases (show j = 0 ∨ j = 1 ∨ j = 2 ∨ j = 3 ∨ j = 4 by omega) with rfl | rfl | rfl | rfl | rfl <;> simp [hdone]
            obtain ⟨kk, rfl⟩ := hI.one hL
            obtain ⟨-, q3, -⟩ := HH.out (wr.drewN kk) (HX.out.2.drewN' kk)
            have r0 := cell_at (k := 0) q3 rfl
            have r1 := cell_at (k := 1) q3 rfl
            have g0 := frozen_at (k := 0) q3
            have g1 := frozen_at (k := 1) q3
            have hKX := hKK undef _ (hI.store (Y := ((wr.drewN kk).setCell ⟨B + 1, 0, none⟩ (.int .i64 ((pkB x 253402300800000 : Nat) : Int))).setCell ⟨B + 1, 1, none⟩ (.string T)) hal (two_put _ _ q3) (two_below _ _ (Below.refl _ _) (Nat.le_refl _)) (two_other _ _ _ _) hL)
            simp [wpOpIn, Region.wanted, yielded, Oper.wpIn, Oper.semAt_eq, execOp, Oper.uponIn, go_sem, e5, q3, r0, r1, g0, g1]
            first | exact hKX | (simp [upd, e5] at hKX; exact hKX) | (simp [upd, e5] at hKX ⊢; exact hKX)
        · intro L zz Z hall hI
          obtain ⟨q3, q4, -⟩ := hI.two (hall 6 (by decide))
          have HQ := Hid.mk' ((HH.out wr HX.out.2).2.2.trans (q4.mono (by omega)))
          have r0 := cell_at (k := 0) q3 rfl
          have r1 := cell_at (k := 1) q3 rfl
          clear hI q3 q4 hall
          go_wp2_with fail
          refine bodyPost_ret (v := .agg #[.int .i64 ((pkB x 253402300800000 : Nat) : Int), .string T]) (by simp [results, Tryz.results44, go_sem, r0, r1]) rfl ⟨?_, HQ.out⟩
          rw [HFIN.out]; rfl
end Go.Proofs.YtlplbnlfajdcbaaGreatDoor
