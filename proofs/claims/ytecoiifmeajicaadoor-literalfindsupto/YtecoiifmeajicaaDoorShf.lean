/-
  What the kernel by bits of one word does. Conditions: as each says.
-/
import Derived.Test.YtecoiifmeajicaaDoorHor
import Derived.Test.YtecoiifmeajicaaDoorPlainZ
import Derived.Test.YtecoiifmeajicaaDoorPr
namespace Go.Proofs.YtecoiifmeajicaaDoor
open Go.RowKit
set_option linter.unusedVariables false
structure ShfT (X m : Nat) (J : Nat → Nat) (W : World) : Prop where
  c0 : W.cell? ⟨X, 0, none⟩ = some (.int .i64 (m : Int))
  cj : TblAt X 1 256 .u64 J W
  fz : Thaw X W
theorem ShfT.below {X N m : Nat} {J : Nat → Nat} {W W' : World} (h : ShfT X m J W) (hb : Below N W W') (hX : X < N) : ShfT X m J W' :=
  ⟨(hb.cell (p := ⟨X, 0, none⟩) hX).trans h.c0, h.cj.below hb hX, h.fz.below hb hX⟩
theorem ShfT.set {X m : Nat} {J : Nat → Nat} {W : World} (h : ShfT X m J W) (b v : Nat) (hb : b < 256) : ShfT X m (upd J b v) (W.setCell ⟨X, 1 + b, none⟩ (.int .u64 (v : Int))) :=
  ⟨cell_far h.c0 (by omega), h.cj.set b v hb, h.fz.set _ _⟩
theorem zc_shf : Tryd.zeroCells94 = (#[.int .i64 0] ++ Array.replicate 256 (.int .u64 0)) := by kernel_rfl
theorem shf_size : Tryd.zeroCells94.size = 257 := by rw [zc_shf]; simp
theorem shf_new (w : World) (m : Nat) : ShfT w.heap.size m (fun _ => 0) (w.alloc (.cells (Tryd.zeroCells94.setIfInBounds 0 (.int .i64 (m : Int))) 94)) := by
  have hz := shf_size
  refine ⟨cells_new _ _ _ _ _ ?_, fun b hb => cells_new _ _ _ _ _ ?_, thaw_new _ _ _⟩
  · exact set_same _ _ _ (by omega)
  · refine set_ne _ _ _ _ _ (by omega) ?_
    rw [zc_shf]
    exact app_hi _ _ _ _ _ rfl hb
/-- the table under way: the needle lies at N, the table at X -/
structure ShfI (N X : Nat) (w : World) (fold : Bool) (q : ByteArray) (J : Nat → Nat) (W : World) : Prop where
  t : ShfT X q.size J W
  b : Below N w W
  x : X < W.heap.size
  n0 : W.cell? ⟨N, 0, none⟩ = some (.string q)
  n1 : W.cell? ⟨N, 1, none⟩ = some (.bool fold)
theorem ShfI.set {N X : Nat} {w : World} {fold : Bool} {q : ByteArray} {J : Nat → Nat} {W : World} (h : ShfI N X w fold q J W) (b v : Nat) (hb : b < 256) (hN : N < X) : ShfI N X w fold q (upd J b v) (W.setCell ⟨X, 1 + b, none⟩ (.int .u64 (v : Int))) := by
  refine ⟨h.t.set b v hb, h.b.setCell (p := ⟨X, 1 + b, none⟩) (Nat.le_of_lt hN) _, by simpa using h.x, ?_, ?_⟩
  · rw [World.cell?_setCell_other _ _ _ _ (by intro k; injection k; omega)]; exact h.n0
  · rw [World.cell?_setCell_other _ _ _ _ (by intro k; injection k; omega)]; exact h.n1
theorem ShfI.below {N X : Nat} {w : World} {fold : Bool} {q : ByteArray} {J : Nat → Nat} {W W' : World} (h : ShfI N X w fold q J W) (hb : Below W.heap.size W W') (hN : N < X) : ShfI N X w fold q J W' := by
  have hx := h.x
  exact ⟨h.t.below hb hx, h.b.trans (hb.mono (by omega)), by have := hb.size; omega, (hb.cell (p := ⟨N, 0, none⟩) (by show N < _; omega)).trans h.n0, (hb.cell (p := ⟨N, 1, none⟩) (by show N < _; omega)).trans h.n1⟩
theorem ShfI.congr {N X : Nat} {w : World} {fold : Bool} {q : ByteArray} {J K : Nat → Nat} {W : World} (h : ShfI N X w fold q J W) (e : ∀ b, b < 256 → J b = K b) : ShfI N X w fold q K W := ⟨⟨h.t.c0, h.t.cj.congr e, h.t.fz⟩, h.b, h.x, h.n0, h.n1⟩
theorem or_two (m k : Nat) (hm : m < 18446744073709551616) (hk : k < 64) : bits .or .u64 (m : Int) (IntKind.u64.wrap (2 ^ k)) = ((m ||| 2 ^ k : Nat) : Int) := by
  have h := or_pow m k hm
  rw [Nat.mod_eq_of_lt hk] at h
  exact h
theorem lt_word (m k : Nat) (h : m < 2 ^ k) (hk : k ≤ 64) : m < 18446744073709551616 := Nat.lt_of_lt_of_le h (by rw [show (18446744073709551616 : Nat) = 2 ^ 64 from rfl]; exact Nat.pow_le_pow_right (by omega) hk)
theorem or_word (m k : Nat) (hm : m < 18446744073709551616) (hk : k < 64) : m ||| 2 ^ k < 18446744073709551616 := by
  have h := or_pow_lt m k hm
  rw [Nat.mod_eq_of_lt hk] at h
  exact h
theorem or_or (x y : Nat) : (x ||| y) ||| y = x ||| y := by rw [Nat.or_assoc, Nat.or_self]
theorem hs_upd (fold : Bool) (q : ByteArray) (k : Nat) (hn : Nrm fold q) (b : Nat) :
    upd (upd (Lit.hsT fold q k) (Swar.bt q k) (Lit.hsT fold q k (Swar.bt q k) ||| 2 ^ k)) (Lit.fm2 fold (Swar.bt q k)) (upd (Lit.hsT fold q k) (Swar.bt q k) (Lit.hsT fold q k (Swar.bt q k) ||| 2 ^ k) (Lit.fm2 fold (Swar.bt q k)) ||| 2 ^ k) b = Lit.hsT fold q (k + 1) b := by
  have h := Lit.fm_iff fold (Swar.bt q k) b (hn k)
  rw [show Lit.hsT fold q (k + 1) b = if Lit.cs fold b = Lit.cs fold (Swar.bt q k) then Lit.hsT fold q k b ||| 2 ^ k else Lit.hsT fold q k b from rfl]
  rw [hn k]
  unfold upd
  by_cases h2 : Lit.cs fold b = Swar.bt q k
  · rw [if_pos h2]
    by_cases e2 : b = Lit.fm2 fold (Swar.bt q k)
    · rw [if_pos e2]
      by_cases e3 : Lit.fm2 fold (Swar.bt q k) = Swar.bt q k
      · rw [if_pos e3, or_or, e2, e3]
      · rw [if_neg e3, e2]
    · rw [if_neg e2]
      rcases h.2 h2 with e | e
      · rw [if_pos e, ← e]
      · exact absurd e e2
  · rw [if_neg h2, if_neg (fun e => h2 (h.1 (.inr e))), if_neg (fun e => h2 (h.1 (.inl e)))]
set_option maxRecDepth 100000 in
set_option maxHeartbeats 2000000 in
theorem newShift_any (fold : Bool) (q : ByteArray) (w : World) (hq : q.size ≤ 64) (hn : Nrm fold q) :
    Calls Tryd.prog 44 #[.agg #[.string q, .bool fold]] w fun e w' => ∃ g, e = .returned (.pointer (some ⟨g, 0, none⟩)) ∧ w.heap.size ≤ g ∧ Below w.heap.size w w' ∧ ShfT g q.size (Lit.hsT fold q q.size) w' := by
  go_enter Tryd.func44, Tryd.ntmps44
  go_wp2_with fail
  have HT : Hid (ShfI w.heap.size (w.heap.size + 1) w fold q (fun _ => 0) ((w.alloc (.cells #[.string q, .bool fold] 56)).alloc (.cells (Tryd.zeroCells94.setIfInBounds 0 (.int .i64 (q.size : Int))) 94))) := by
    have h1 := shf_new (w.alloc (.cells #[.string q, .bool fold] 56)) q.size
    simp only [World.size_alloc] at h1
    exact ⟨h1, ((Below.refl _ _).alloc (Nat.le_refl _) _).alloc (by simp) _, by simp, by simp [go_sem], by simp [go_sem]⟩
  generalize ((w.alloc (.cells #[.string q, .bool fold] 56)).alloc (.cells (Tryd.zeroCells94.setIfInBounds 0 (.int .i64 (q.size : Int))) 94)) = W2 at *
  generalize Tryd.zeroCells94.setIfInBounds 0 (.int .i64 (q.size : Int)) = CS at *
  obtain ⟨N, hN⟩ : ∃ N, w.heap.size = N := ⟨_, rfl⟩
  obtain ⟨X, hX⟩ : ∃ X, N + 1 = X := ⟨_, rfl⟩
  rw [hN] at HT
  rw [hX] at HT
  rw [hN, hX]
  have hNX : N < X := by omega
  have HNE := Hid.mk' hN
  clear hN hX
  go_loopw [16] (fun i wr => ∃ k : Nat, k ≤ q.size ∧ i = .int .i64 (k : Int) ∧ Hid (ShfI N X w fold q (Lit.hsT fold q k) wr)) (fun i _ => q.size - (intOf i).toNat)
  case atStart => exact ⟨0, by omega, rfl, HT.out.congr (fun b hb => rfl)⟩
  case round =>
    obtain ⟨k, hk, rfl, HK⟩ := hrel
    by_cases hlt : k < q.size
    · have u0 := HK.out.n0
      have u1 := HK.out.n1
      have hlI : (k : Int) < (q.size : Int) := by omega
      have hix := idx_byte q k hlt
      have hcb := Swar.bt_lt q k
      have HUP := Hid.mk' (hs_upd fold q k hn)
      have HJL := Hid.mk' (fun b => Lit.hsT_lt fold q k b)
      have hdb := Lit.fm2_lt fold _ hcb
      generalize Swar.bt q k = x at *
      go_wp2_with fail
      refine (forms_any N fold x _ hcb u1).mono ?_
      rintro e w5 ⟨rfl, hb5⟩
      have HK5 := Hid.mk' (HK.out.below hb5 hNX)
      clear hb5 u0 u1
      generalize Lit.fm2 fold x = y at *
      have cl := HK5.out.t.cj x hcb
      have fz := HK5.out.t.fz (1 + x)
      have p0 := two_0 x y
      have p1 := two_1 x y
      have hk64 : (k : Int) < 64 := by omega
      go_wp2_with fail
      refine wp_loop_rounds 3 ?_
      rw [rounds_succ]
      go_wp2_with fail
      go_region
      go_wp2_with fail
      have hj1 := lt_word _ _ (HJL.out x) (by omega)
      rw [or_two _ k hj1 (by omega)]
      have HK6 := Hid.mk' ((HK5.out.set x (Lit.hsT fold q k x ||| 2 ^ k) hcb hNX).below ((Below.refl _ _).drewN' 1) hNX)
      have hW6 : (World.setCell w5 ⟨X, 1 + x, none⟩ (.int .u64 ((Lit.hsT fold q k x ||| 2 ^ k : Nat) : Int))).drewN 1 = (World.setCell w5 ⟨X, 1 + x, none⟩ (.int .u64 ((Lit.hsT fold q k x ||| 2 ^ k : Nat) : Int))).drew := rfl
      rw [hW6] at HK6
      clear cl fz hW6
      generalize (World.setCell w5 ⟨X, 1 + x, none⟩ (.int .u64 ((Lit.hsT fold q k x ||| 2 ^ k : Nat) : Int))).drew = w6 at *
      have hj2 : upd (Lit.hsT fold q k) x (Lit.hsT fold q k x ||| 2 ^ k) y < 18446744073709551616 := by
        unfold upd
        split
        · exact or_word _ _ hj1 (by omega)
        · exact lt_word _ _ (HJL.out y) (by omega)
      generalize upd (Lit.hsT fold q k) x (Lit.hsT fold q k x ||| 2 ^ k) = J2 at *
      generalize Lit.hsT fold q k x = jx at *
      have cl := HK6.out.t.cj y hdb
      have fz := HK6.out.t.fz (1 + y)
      rw [rounds_succ]
      go_wp2_with fail
      go_region
      go_wp2_with fail
      rw [or_two _ k hj2 (by omega)]
      have HK7 := Hid.mk' ((HK6.out.set y (J2 y ||| 2 ^ k) hdb hNX).below ((Below.refl _ _).drewN' 1) hNX)
      have hW7 : (World.setCell w6 ⟨X, 1 + y, none⟩ (.int .u64 ((J2 y ||| 2 ^ k : Nat) : Int))).drewN 1 = (World.setCell w6 ⟨X, 1 + y, none⟩ (.int .u64 ((J2 y ||| 2 ^ k : Nat) : Int))).drew := rfl
      rw [hW7] at HK7
      clear cl fz hW7
      generalize (World.setCell w6 ⟨X, 1 + y, none⟩ (.int .u64 ((J2 y ||| 2 ^ k : Nat) : Int))).drew = w7 at *
      rw [rounds_succ]
      go_wp2_with fail
      exact ⟨⟨k + 1, by omega, by go_num, HK7.out.congr (fun b hb => HUP.out b)⟩, by simp [intOf]; omega⟩
    · have hlI : ¬ (k : Int) < (q.size : Int) := by omega
      obtain rfl : k = q.size := by omega
      go_wp2_with fail
      go_ret
      rw [HNE.out]
      exact ⟨X, rfl, Nat.le_of_lt hNX, HK.out.b, HK.out.t⟩
end Go.Proofs.YtecoiifmeajicaaDoor
