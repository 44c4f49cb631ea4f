/-
  What the kernel by bits of several words does. Conditions: as each says.
-/
import Derived.Test.YtecoiifmeajicaaDoorWid
import Derived.Test.YtecoiifmeajicaaDoorWidZ
namespace Go.Proofs.YtecoiifmeajicaaDoor
open Go.RowKit
set_option linter.unusedVariables false
/-- the table under way: the needle lies at N, the table at X -/
structure WidI (N X : Nat) (w : World) (fold : Bool) (q : ByteArray) (J : Nat → Nat) (W : World) : Prop where
  t : WidT X q.size J W
  b : Below N w W
  x : X < W.heap.size
  n0 : W.cell? ⟨N, 0, none⟩ = some (.string q)
  n1 : W.cell? ⟨N, 1, none⟩ = some (.bool fold)
theorem WidI.set {N X : Nat} {w : World} {fold : Bool} {q : ByteArray} {J : Nat → Nat} {W : World} (h : WidI N X w fold q J W) (b v : Nat) (hb : b < 1024) (hN : N < X) : WidI N X w fold q (upd J b v) (W.setCell ⟨X, 1 + b, none⟩ (.int .u64 (v : Int))) := by
  refine ⟨h.t.set b v hb, h.b.setCell (p := ⟨X, 1 + b, none⟩) (Nat.le_of_lt hN) _, by simpa using h.x, ?_, ?_⟩
  · rw [World.cell?_setCell_other _ _ _ _ (by intro k; injection k; omega)]; exact h.n0
  · rw [World.cell?_setCell_other _ _ _ _ (by intro k; injection k; omega)]; exact h.n1
theorem WidI.below {N X : Nat} {w : World} {fold : Bool} {q : ByteArray} {J : Nat → Nat} {W W' : World} (h : WidI N X w fold q J W) (hb : Below W.heap.size W W') (hN : N < X) : WidI N X w fold q J W' := by
  have hx := h.x
  exact ⟨h.t.below hb hx, h.b.trans (hb.mono (by omega)), by have := hb.size; omega, (hb.cell (p := ⟨N, 0, none⟩) (by show N < _; omega)).trans h.n0, (hb.cell (p := ⟨N, 1, none⟩) (by show N < _; omega)).trans h.n1⟩
theorem WidI.congr {N X : Nat} {w : World} {fold : Bool} {q : ByteArray} {J K : Nat → Nat} {W : World} (h : WidI N X w fold q J W) (e : ∀ b, b < 1024 → J b = K b) : WidI N X w fold q K W := ⟨⟨h.t.c0, h.t.cj.congr e, h.t.fz⟩, h.b, h.x, h.n0, h.n1⟩
/-- the words of all bytes -/
def hwT (fold : Bool) (q : ByteArray) (K i : Nat) : Nat := Lit.wd (Lit.hsT fold q K (i / 4)) (i % 4)
theorem hwT_lt (fold : Bool) (q : ByteArray) (K i : Nat) : hwT fold q K i < 18446744073709551616 := Lit.wd_lt _ _
theorem upd_or (J : Nat → Nat) (a b v : Nat) (x : Nat) : upd (upd J a (J a ||| v)) b (upd J a (J a ||| v) b ||| v) x = if x = a ∨ x = b then J x ||| v else J x := by
  unfold upd
  by_cases h1 : x = b
  · subst h1
    have h3 : x = a ∨ x = x := Or.inr rfl
    rw [if_pos rfl, if_pos h3]
    by_cases h2 : x = a
    · subst h2; rw [if_pos rfl, or_or]
    · rw [if_neg h2]
  · rw [if_neg h1]
    by_cases h2 : x = a
    · have h3 : x = a ∨ x = b := Or.inl h2
      rw [if_pos h2, if_pos h3, h2]
    · have h3 : ¬ (x = a ∨ x = b) := by rintro (h | h); exact h2 h; exact h1 h
      rw [if_neg h2, if_neg h3]
theorem hw_upd (fold : Bool) (q : ByteArray) (k : Nat) (hn : Nrm fold q) (hk : k < 256) (J : Nat → Nat) (hJ : J = hwT fold q k) (x : Nat) (hx : x < 1024) :
    upd (upd J (Swar.bt q k * 4 + k / 64) (J (Swar.bt q k * 4 + k / 64) ||| 2 ^ (k % 64))) (Lit.fm2 fold (Swar.bt q k) * 4 + k / 64) (upd J (Swar.bt q k * 4 + k / 64) (J (Swar.bt q k * 4 + k / 64) ||| 2 ^ (k % 64)) (Lit.fm2 fold (Swar.bt q k) * 4 + k / 64) ||| 2 ^ (k % 64)) x = hwT fold q (k + 1) x := by
  rw [upd_or, hJ]
  have h := Lit.fm_iff fold (Swar.bt q k) (x / 4) (hn k)
  have hs : hwT fold q (k + 1) x = Lit.wd (if Lit.cs fold (x / 4) = Lit.cs fold (Swar.bt q k) then Lit.hsT fold q k (x / 4) ||| 2 ^ k else Lit.hsT fold q k (x / 4)) (x % 4) := rfl
  rw [hs, hn k]
  by_cases h2 : Lit.cs fold (x / 4) = Swar.bt q k
  · rw [if_pos h2, Lit.wd_or]
    by_cases e : x % 4 = k / 64
    · rw [if_pos e, if_pos (by rcases h.2 h2 with e2 | e2 <;> omega)]
      rfl
    · rw [if_neg e, if_neg (by omega)]
      rfl
  · rw [if_neg h2, if_neg ?_]
    · rfl
    · rintro (e | e)
      · exact h2 (h.1 (.inl (by omega)))
      · exact h2 (h.1 (.inr (by omega)))
set_option maxRecDepth 100000 in
set_option maxHeartbeats 2000000 in
theorem newWide_any (fold : Bool) (q : ByteArray) (w : World) (hq : q.size ≤ 256) (hn : Nrm fold q) :
    Calls Tryd.prog 46 #[.agg #[.string q, .bool fold]] w fun e w' => ∃ g, e = .returned (.pointer (some ⟨g, 0, none⟩)) ∧ w.heap.size ≤ g ∧ Below w.heap.size w w' ∧ WidT g q.size (hwT fold q q.size) w' := by
  go_enter Tryd.func46, Tryd.ntmps46
  go_wp2_with fail
  have HT : Hid (WidI w.heap.size (w.heap.size + 1) w fold q (fun _ => 0) ((w.alloc (.cells #[.string q, .bool fold] 56)).alloc (.cells (Tryd.zeroCells100.setIfInBounds 0 (.int .i64 (q.size : Int))) 100))) := by
    have h1 := wid_new (w.alloc (.cells #[.string q, .bool fold] 56)) q.size
    simp only [World.size_alloc] at h1
    exact ⟨h1, ((Below.refl _ _).alloc (Nat.le_refl _) _).alloc (by simp) _, by simp, by simp [go_sem], by simp [go_sem]⟩
  generalize ((w.alloc (.cells #[.string q, .bool fold] 56)).alloc (.cells (Tryd.zeroCells100.setIfInBounds 0 (.int .i64 (q.size : Int))) 100)) = W2 at *
  generalize Tryd.zeroCells100.setIfInBounds 0 (.int .i64 (q.size : Int)) = CS at *
  obtain ⟨N, hN⟩ : ∃ N, w.heap.size = N := ⟨_, rfl⟩
  obtain ⟨X, hX⟩ : ∃ X, N + 1 = X := ⟨_, rfl⟩
  rw [hN] at HT
  rw [hX] at HT
  rw [hN, hX]
  have hNX : N < X := by omega
  have HNE := Hid.mk' hN
  clear hN hX
  go_loopw [16] (fun i wr => ∃ k : Nat, k ≤ q.size ∧ i = .int .i64 (k : Int) ∧ Hid (WidI N X w fold q (hwT fold q k) wr)) (fun i _ => q.size - (intOf i).toNat)
  case atStart => exact ⟨0, by omega, rfl, HT.out.congr (fun b hb => by unfold hwT; show 0 = Lit.wd 0 _; unfold Lit.wd; simp)⟩
  case round =>
    obtain ⟨k, hk, rfl, HK⟩ := hrel
    by_cases hlt : k < q.size
    · have u0 := HK.out.n0
      have u1 := HK.out.n1
      have hlI : (k : Int) < (q.size : Int) := by omega
      have hix := idx_byte q k hlt
      have hcb := Swar.bt_lt q k
      have HUP := Hid.mk' (hw_upd fold q k hn (by omega))
      have HJL := Hid.mk' (fun i => hwT_lt fold q k i)
      have hdb := Lit.fm2_lt fold _ hcb
      generalize Swar.bt q k = x at *
      go_wp2_with fail
      refine (forms_any N fold x _ hcb u1).mono ?_
      rintro e w5 ⟨rfl, hb5⟩
      have HK5 := Hid.mk' (HK.out.below hb5 hNX)
      clear hb5 u0 u1
      generalize Lit.fm2 fold x = y at *
      have p0 := two_0 x y
      have p1 := two_1 x y
      have hxI : (x : Int) < 256 := by omega
      have hyI : (y : Int) < 256 := by omega
      go_wp2_with fail
      refine wp_loop_rounds 3 ?_
      rw [rounds_succ]
      go_wp2_with fail
      have cl := HK5.out.t.cj (x * 4 + k / 64) (by omega)
      have fz := HK5.out.t.fz (1 + (x * 4 + k / 64))
      rw [← Nat.add_assoc] at cl fz
      refine (rowSet_any X (1 + x * 4) k (hwT fold q k (x * 4 + k / 64)) w5 (by omega) (HJL.out _) cl fz).mono ?_
      rintro e w6 ⟨rfl, n1, rfl⟩
      have HK6 := Hid.mk' ((HK5.out.set (x * 4 + k / 64) (hwT fold q k (x * 4 + k / 64) ||| 2 ^ (k % 64)) (by omega) hNX).below ((Below.refl _ _).drewN' n1) hNX)
      rw [← Nat.add_assoc 1] at HK6
      clear cl fz
      generalize (w5.setCell ⟨X, 1 + x * 4 + k / 64, none⟩ (.int .u64 ((hwT fold q k (x * 4 + k / 64) ||| 2 ^ (k % 64) : Nat) : Int))).drewN n1 = w6 at *
      go_wp2_with fail
      have hj2 : ∀ i, upd (hwT fold q k) (x * 4 + k / 64) (hwT fold q k (x * 4 + k / 64) ||| 2 ^ (k % 64)) i < 18446744073709551616 := fun i => by
        unfold upd
        split
        · exact or_pow_lt _ _ (HJL.out _)
        · exact HJL.out i
      have HUP2 := Hid.mk' (HUP.out _ rfl)
      generalize upd (hwT fold q k) (x * 4 + k / 64) (hwT fold q k (x * 4 + k / 64) ||| 2 ^ (k % 64)) = J2 at *
      rw [rounds_succ]
      go_wp2_with fail
      have cl := HK6.out.t.cj (y * 4 + k / 64) (by omega)
      have fz := HK6.out.t.fz (1 + (y * 4 + k / 64))
      rw [← Nat.add_assoc] at cl fz
      refine (rowSet_any X (1 + y * 4) k (J2 (y * 4 + k / 64)) w6 (by omega) (hj2 _) cl fz).mono ?_
      rintro e w7 ⟨rfl, n1, rfl⟩
      have HK7 := Hid.mk' ((HK6.out.set (y * 4 + k / 64) (J2 (y * 4 + k / 64) ||| 2 ^ (k % 64)) (by omega) hNX).below ((Below.refl _ _).drewN' n1) hNX)
      rw [← Nat.add_assoc 1] at HK7
      clear cl fz
      generalize (w6.setCell ⟨X, 1 + y * 4 + k / 64, none⟩ (.int .u64 ((J2 (y * 4 + k / 64) ||| 2 ^ (k % 64) : Nat) : Int))).drewN n1 = w7 at *
      go_wp2_with fail
      rw [rounds_succ]
      go_wp2_with fail
      exact ⟨⟨k + 1, by omega, by go_num, HK7.out.congr (fun b hb => HUP2.out b hb)⟩, by simp [intOf]; omega⟩
    · have hlI : ¬ (k : Int) < (q.size : Int) := by omega
      obtain rfl : k = q.size := by omega
      go_wp2_with fail
      go_ret
      rw [HNE.out]
      exact ⟨X, rfl, Nat.le_of_lt hNX, HK.out.b, HK.out.t⟩
end Go.Proofs.YtecoiifmeajicaaDoor
