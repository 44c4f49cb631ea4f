/-
  What the kernel by jumps does. Conditions: as each says.
-/
import Derived.Test.YtecoiifmeajicaaDoorTbl
namespace Go.Proofs.YtecoiifmeajicaaDoor
open Go.RowKit
set_option linter.unusedVariables false
def hcells (z : Array Value) (q : ByteArray) (fold : Bool) (c d : Nat) : Array Value := ((((z.setIfInBounds 0 (.string q)).setIfInBounds 1 (.bool fold)).setIfInBounds 2 (.int .u8 (c : Int))).setIfInBounds 3 (.int .u8 (d : Int)))
theorem zc_hor : Tryd.zeroCells91 = (#[.string ⟨#[]⟩, .bool false, .int .u8 0, .int .u8 0] ++ Array.replicate 256 (.int .i64 0)) := by kernel_rfl
structure HorT (X : Nat) (fold : Bool) (q : ByteArray) (G : Nat) (J : Nat → Nat) (W : World) : Prop where
  c0 : W.cell? ⟨X, 0, none⟩ = some (.string q)
  c1 : W.cell? ⟨X, 1, none⟩ = some (.bool fold)
  c2 : W.cell? ⟨X, 2, none⟩ = some (.int .u8 ((Swar.bt q G : Nat) : Int))
  c3 : W.cell? ⟨X, 3, none⟩ = some (.int .u8 ((Lit.fm2 fold (Swar.bt q G) : Nat) : Int))
  cj : TblAt X 4 256 .i64 J W
  fz : Thaw X W
theorem HorT.below {X N : Nat} {fold : Bool} {q : ByteArray} {G : Nat} {J : Nat → Nat} {W W' : World} (h : HorT X fold q G J W) (hb : Below N W W') (hX : X < N) : HorT X fold q G J W' :=
  ⟨(hb.cell (p := ⟨X, 0, none⟩) hX).trans h.c0, (hb.cell (p := ⟨X, 1, none⟩) hX).trans h.c1, (hb.cell (p := ⟨X, 2, none⟩) hX).trans h.c2, (hb.cell (p := ⟨X, 3, none⟩) hX).trans h.c3, h.cj.below hb hX, h.fz.below hb hX⟩
theorem HorT.set {X : Nat} {fold : Bool} {q : ByteArray} {G : Nat} {J : Nat → Nat} {W : World} (h : HorT X fold q G J W) (b v : Nat) (hb : b < 256) : HorT X fold q G (upd J b v) (W.setCell ⟨X, 4 + b, none⟩ (.int .i64 (v : Int))) :=
  ⟨cell_far h.c0 (by omega), cell_far h.c1 (by omega), cell_far h.c2 (by omega), cell_far h.c3 (by omega), h.cj.set b v hb, h.fz.set _ _⟩
theorem HorT.congr {X : Nat} {fold : Bool} {q : ByteArray} {G : Nat} {J K : Nat → Nat} {W : World} (h : HorT X fold q G J W) (e : ∀ b, b < 256 → J b = K b) : HorT X fold q G K W := ⟨h.c0, h.c1, h.c2, h.c3, h.cj.congr e, h.fz⟩
theorem app_lo (h : Array Value) (n i : Nat) (z : Value) (hi : i < h.size) : (h ++ Array.replicate n z)[i]? = h[i]? := Array.getElem?_append_left hi
theorem app_hi (h : Array Value) (n m b : Nat) (z : Value) (hm : h.size = m) (hb : b < n) : (h ++ Array.replicate n z)[m + b]? = some z := by
  rw [Array.getElem?_append_right (by omega), Array.getElem?_replicate, if_pos (by omega)]
theorem hor_size : Tryd.zeroCells91.size = 260 := by rw [zc_hor]; simp
theorem set_same (z : Array Value) (i : Nat) (v : Value) (h : i < z.size) : (z.setIfInBounds i v)[i]? = some v := by simp [h]
theorem set_ne (z : Array Value) (i j : Nat) (v x : Value) (h : i ≠ j) (hx : z[j]? = some x) : (z.setIfInBounds i v)[j]? = some x := by rw [Array.getElem?_setIfInBounds_ne h]; exact hx
theorem hor_new (w : World) (q : ByteArray) (fold : Bool) (G : Nat) : HorT w.heap.size fold q G (fun _ => 0) (w.alloc (.cells (hcells Tryd.zeroCells91 q fold (Swar.bt q G) (Lit.fm2 fold (Swar.bt q G))) 91)) := by
  have hz := hor_size
  unfold hcells
  refine ⟨cells_new _ _ _ _ _ ?_, cells_new _ _ _ _ _ ?_, cells_new _ _ _ _ _ ?_, cells_new _ _ _ _ _ ?_, fun b hb => cells_new _ _ _ _ _ ?_, thaw_new _ _ _⟩
  · exact set_ne _ _ _ _ _ (by omega) (set_ne _ _ _ _ _ (by omega) (set_ne _ _ _ _ _ (by omega) (set_same _ _ _ (by omega))))
  · exact set_ne _ _ _ _ _ (by omega) (set_ne _ _ _ _ _ (by omega) (set_same _ _ _ (by simp)))
  · exact set_ne _ _ _ _ _ (by omega) (set_same _ _ _ (by simp))
  · exact set_same _ _ _ (by simp)
  · refine set_ne _ _ _ _ _ (by omega) (set_ne _ _ _ _ _ (by omega) (set_ne _ _ _ _ _ (by omega) (set_ne _ _ _ _ _ (by omega) ?_)))
    rw [zc_hor]
    exact app_hi _ _ _ _ _ rfl hb
/-- the table under way: the needle lies at N, the table at X -/
structure HorI (N X : Nat) (w : World) (fold : Bool) (q : ByteArray) (G : Nat) (J : Nat → Nat) (W : World) : Prop where
  t : HorT X fold q G J W
  b : Below N w W
  x : X < W.heap.size
  n0 : W.cell? ⟨N, 0, none⟩ = some (.string q)
  n1 : W.cell? ⟨N, 1, none⟩ = some (.bool fold)
theorem HorI.set {N X : Nat} {w : World} {fold : Bool} {q : ByteArray} {G : Nat} {J : Nat → Nat} {W : World} (h : HorI N X w fold q G J W) (b v : Nat) (hb : b < 256) (hN : N < X) (vi : Int) (hv : vi = (v : Int)) : HorI N X w fold q G (upd J b v) (W.setCell ⟨X, 4 + b, none⟩ (.int .i64 vi)) := by
  subst hv
  refine ⟨h.t.set b v hb, h.b.setCell (p := ⟨X, 4 + b, none⟩) (Nat.le_of_lt hN) _, by simpa using h.x, ?_, ?_⟩
  · rw [World.cell?_setCell_other _ _ _ _ (by intro k; injection k; omega)]; exact h.n0
  · rw [World.cell?_setCell_other _ _ _ _ (by intro k; injection k; omega)]; exact h.n1
theorem HorI.below {N X : Nat} {w : World} {fold : Bool} {q : ByteArray} {G : Nat} {J : Nat → Nat} {W W' : World} (h : HorI N X w fold q G J W) (hb : Below W.heap.size W W') (hN : N < X) : HorI N X w fold q G J W' := by
  have hx := h.x
  exact ⟨h.t.below hb hx, h.b.trans (hb.mono (by omega)), by have := hb.size; omega, (hb.cell (p := ⟨N, 0, none⟩) (by show N < _; omega)).trans h.n0, (hb.cell (p := ⟨N, 1, none⟩) (by show N < _; omega)).trans h.n1⟩
theorem HorI.congr {N X : Nat} {w : World} {fold : Bool} {q : ByteArray} {G : Nat} {J K : Nat → Nat} {W : World} (h : HorI N X w fold q G J W) (e : ∀ b, b < 256 → J b = K b) : HorI N X w fold q G K W := ⟨h.t.congr e, h.b, h.x, h.n0, h.n1⟩
theorem jm_upd (fold : Bool) (q : ByteArray) (G k : Nat) (hq : q.size = G + 1) (hn : Nrm fold q) (b : Nat) : upd (upd (Lit.jmT fold q k) (Swar.bt q k) (G - k)) (Lit.fm2 fold (Swar.bt q k)) (G - k) b = Lit.jmT fold q (k + 1) b := by
  have h := Lit.fm_iff fold (Swar.bt q k) b (hn k)
  rw [show Lit.jmT fold q (k + 1) b = if Lit.cs fold b = Lit.cs fold (Swar.bt q k) then q.size - 1 - k else Lit.jmT fold q k b from rfl]
  unfold upd
  rw [hn k, hq]
  by_cases h2 : Lit.cs fold b = Swar.bt q k
  · rw [if_pos h2]
    rcases h.2 h2 with e | e
    · by_cases e2 : b = Lit.fm2 fold (Swar.bt q k)
      · rw [if_pos e2]; omega
      · rw [if_neg e2, if_pos e]; omega
    · rw [if_pos e]; omega
  · rw [if_neg h2, if_neg (fun e => h2 (h.1 (.inr e))), if_neg (fun e => h2 (h.1 (.inl e)))]
set_option maxRecDepth 100000 in
set_option maxHeartbeats 2000000 in
theorem newHorspool_any (fold : Bool) (q : ByteArray) (G : Nat) (w : World) (hq : q.size = G + 1) (hGl : G ≤ 256) (hn : Nrm fold q) :
    Calls Tryd.prog 42 #[.agg #[.string q, .bool fold]] w fun e w' => ∃ g, e = .returned (.pointer (some ⟨g, 0, none⟩)) ∧ w.heap.size ≤ g ∧ Below w.heap.size w w' ∧ HorT g fold q G (Lit.jmT fold q G) w' := by
  have hb := Swar.bt_lt q G
  have hid := idx_byte q G (by omega)
  have HNW := Hid.mk' (fun w => hor_new w q fold G)
  go_enter Tryd.func42, Tryd.ntmps42
  go_wp2_with fail
  have y0 : (w.alloc (.cells #[.string q, .bool fold] 56)).cell? ⟨w.heap.size, 0, none⟩ = some (.string q) := by simp [go_sem]
  have y1 : (w.alloc (.cells #[.string q, .bool fold] 56)).cell? ⟨w.heap.size, 1, none⟩ = some (.bool fold) := by simp [go_sem]
  have hB : Below w.heap.size w (w.alloc (.cells #[.string q, .bool fold] 56)) := (Below.refl _ _).alloc (Nat.le_refl _) _
  have HZ : Hid (w.heap.size < (w.alloc (.cells #[.string q, .bool fold] 56)).heap.size) := by show _ < _; simp
  have HB := Hid.mk' hB
  clear hB
  generalize (w.alloc (.cells #[.string q, .bool fold] 56)) = W at *
  generalize hN : w.heap.size = N at *
  have HNE := Hid.mk' hN
  clear hN
  obtain ⟨c, hc⟩ : ∃ c, Swar.bt q G = c := ⟨_, rfl⟩
  rw [hc] at hb hid HNW
  generalize hd : Lit.fm2 fold c = d at *
  have HC := Hid.mk' hc
  have HD := Hid.mk' hd
  clear hc hd
  go_region_held3 (fun w' => w'.cell? ⟨N, 0, none⟩ = some (.string q) ∧ w'.cell? ⟨N, 1, none⟩ = some (.bool fold)) (first | go_keep | exact ⟨y0, y1⟩ | exact ⟨z0, z1⟩)
    ((first | (go_at_call_of 50 c; refine (forms_any N fold c _ hb (by first | exact y1 | exact z1)).mono ?_; rintro e wz ⟨rfl, hbz⟩; have z0 : wz.cell? ⟨N, 0, none⟩ = some (.string q) := (hbz.cell (p := ⟨N, 0, none⟩) (by exact HZ.out)).trans y0; have z1 : wz.cell? ⟨N, 1, none⟩ = some (.bool fold) := (hbz.cell (p := ⟨N, 1, none⟩) (by exact HZ.out)).trans y1; rw [HD.out]; have HBZ := Hid.mk' hbz; clear hbz)))
  all_goals
    have hZ1 : N < wz.heap.size := by have h1 := HBZ.out.size; have h2 := HZ.out; simp at h1; omega
    have HB1 : Hid (Below N w wz) := HB.out.trans ((((Below.refl N W).drewN' 1)).trans (HBZ.out.mono (Nat.le_of_lt HZ.out)))
    have hT : HorT wz.heap.size fold q G (fun x => 0) (wz.alloc (.cells ((((Tryd.zeroCells91.setIfInBounds 0 (.string q)).setIfInBounds 1 (.bool fold)).setIfInBounds 2 (.int .u8 (c : Int))).setIfInBounds 3 (.int .u8 (d : Int))) 91)) := HNW.out wz
    have HB2 : Hid (Below N w (wz.alloc (.cells ((((Tryd.zeroCells91.setIfInBounds 0 (.string q)).setIfInBounds 1 (.bool fold)).setIfInBounds 2 (.int .u8 (c : Int))).setIfInBounds 3 (.int .u8 (d : Int))) 91))) := HB1.out.alloc (Nat.le_of_lt hZ1) _
    have hX2 : wz.heap.size < (wz.alloc (.cells ((((Tryd.zeroCells91.setIfInBounds 0 (.string q)).setIfInBounds 1 (.bool fold)).setIfInBounds 2 (.int .u8 (c : Int))).setIfInBounds 3 (.int .u8 (d : Int))) 91)).heap.size := by simp
    have v0 := (World.cell?_alloc_lt wz (.cells ((((Tryd.zeroCells91.setIfInBounds 0 (.string q)).setIfInBounds 1 (.bool fold)).setIfInBounds 2 (.int .u8 (c : Int))).setIfInBounds 3 (.int .u8 (d : Int))) 91) ⟨N, 0, none⟩ hZ1).trans z0
    have v1 := (World.cell?_alloc_lt wz (.cells ((((Tryd.zeroCells91.setIfInBounds 0 (.string q)).setIfInBounds 1 (.bool fold)).setIfInBounds 2 (.int .u8 (c : Int))).setIfInBounds 3 (.int .u8 (d : Int))) 91) ⟨N, 1, none⟩ hZ1).trans z1
    generalize ((((Tryd.zeroCells91.setIfInBounds 0 (.string q)).setIfInBounds 1 (.bool fold)).setIfInBounds 2 (.int .u8 (c : Int))).setIfInBounds 3 (.int .u8 (d : Int))) = CS at *
    have HT := Hid.mk' hT
    clear hT z0 z1 y0 y1 hid
    generalize (wz.alloc (.cells CS 91)) = W2 at *
    have hNX : N < wz.heap.size := hZ1
    generalize wz.heap.size = X at *
    clear hZ1 HB1 HBZ HNW
    go_wp2_with fail
    go_loopw [21] (fun i wr => ∃ k : Nat, k ≤ 256 ∧ i = .int .i64 (k : Int) ∧ Hid (HorI N X w fold q G (fun x => if x < k then G + 1 else 0) wr)) (fun i _ => 256 - (intOf i).toNat)
    case atStart => exact ⟨0, by omega, rfl, HT.out.congr (fun b hb => by simp), HB2.out, hX2, v0, v1⟩
    case round =>
      obtain ⟨k, hk, rfl, HK⟩ := hrel
      by_cases hlt : k < 256
      · have cl := HK.out.t.cj k hlt
        have fz := HK.out.t.fz (4 + k)
        have hlI : (k : Int) < 256 := by omega
        go_wp2_with fail
        refine ⟨⟨k + 1, by omega, by go_num, (HK.out.set k (G + 1) hlt hNX _ (by omega)).congr (fun b hb => ?_)⟩, by simp [intOf]; omega⟩
        unfold upd
        by_cases e : b = k
        · rw [if_pos e, if_pos (by omega)]
        · rw [if_neg e]
          show (if b < k then G + 1 else 0) = _
          by_cases e2 : b < k
          · rw [if_pos e2, if_pos (by omega)]
          · rw [if_neg e2, if_neg (by omega)]
      · have hlI : ¬ (k : Int) < 256 := by omega
        have HI0 : Hid (HorI N X w fold q G (Lit.jmT fold q 0) wr) := HK.out.congr (fun b hb => by rw [if_pos (by omega)]; unfold Lit.jmT; rw [hq])
        clear HK
        go_wp2_with fail
        rename World => wo
        go_loopw [33] (fun i wr => ∃ k : Nat, k ≤ G ∧ i = .int .i64 (k : Int) ∧ Hid (HorI N X w fold q G (Lit.jmT fold q k) wr)) (fun i _ => G - (intOf i).toNat)
        case atStart => exact ⟨0, by omega, rfl, HI0.out⟩
        case round =>
          obtain ⟨k, hk, rfl, HK⟩ := hrel
          by_cases hlt : k < G
          · have u0 := HK.out.n0
            have u1 := HK.out.n1
            have hlI : (k : Int) < (G : Int) := by omega
            have hix := idx_byte q k (by omega)
            have hcb := Swar.bt_lt q k
            have HUP := Hid.mk' (jm_upd fold q G k hq hn)
            generalize Swar.bt q k = x at *
            have hdb := Lit.fm2_lt fold x hcb
            go_wp2_with fail
            refine (forms_any N fold x _ hcb u1).mono ?_
            rintro e w5 ⟨rfl, hb5⟩
            have HK5 := Hid.mk' (HK.out.below hb5 hNX)
            clear hb5 u0 u1
            generalize Lit.fm2 fold x = y at *
            have cl := HK5.out.t.cj x hcb
            have fz := HK5.out.t.fz (4 + x)
            have p0 := two_0 x y
            have p1 := two_1 x y
            go_wp2_with fail
            refine wp_loop_rounds 3 ?_
            rw [rounds_succ]
            go_wp2_with fail
            have HK6 := Hid.mk' (HK5.out.set x (G - k) hcb hNX ((G : Int) - (k : Int)) (by omega))
            clear cl fz
            generalize w5.setCell ⟨X, 4 + x, none⟩ (.int .i64 ((G : Int) - (k : Int))) = w6 at *
            have cl := HK6.out.t.cj y hdb
            have fz := HK6.out.t.fz (4 + y)
            rw [rounds_succ]
            go_wp2_with fail
            have HK7 := Hid.mk' (HK6.out.set y (G - k) hdb hNX ((G : Int) - (k : Int)) (by omega))
            clear cl fz
            generalize w6.setCell ⟨X, 4 + y, none⟩ (.int .i64 ((G : Int) - (k : Int))) = w7 at *
            rw [rounds_succ]
            go_wp2_with fail
            exact ⟨⟨k + 1, by omega, by go_num, HK7.out.congr (fun b hb => HUP.out b)⟩, by simp [intOf]; omega⟩
          · have hlI : ¬ (k : Int) < (G : Int) := by omega
            obtain rfl : k = G := by omega
            go_wp2_with fail
            go_ret
            rw [HNE.out]
            exact ⟨X, rfl, Nat.le_of_lt hNX, HK.out.b, HK.out.t⟩
end Go.Proofs.YtecoiifmeajicaaDoor
