/-
  object: the reader: a value; all of a text; Parse. Conditions: as each says.
-/
import Derived.Test.YtkplbggefiemdaaGreatDoorObR
import Derived.Test.YtkplbggefiemdaaGreatDoorObAG
namespace Go.Proofs.YtkplbggefiemdaaGreatDoor
open Go.RowKit
set_option linter.unusedVariables false
set_option linter.unusedSimpArgs false
theorem bind_okV {A B : Type} {r : Rv A} {k : A → Nat → Rv B} {b : B} {q : Nat} (h : r.bind k = .ok b q) : ∃ a p, r = .ok a p ∧ k a p = .ok b q := by
  cases r with
  | ok a p => exact ⟨a, p, rfl, h⟩
  | no c p => cases h
theorem barP_lt {S : ByteArray} {pq : Nat → Rv ByteArray} {n : Nat} {val : Nat → Rv Vl} (hpq : ∀ a t b, pq a = .ok t b → a < b) (hadv : ∀ a v b, val a = .ok v b → a < b) {p : Nat} {v : Vl} {q : Nat} (h : barP S pq n val p = .ok v q) : p < q := by
  unfold barP at h
  split at h
  · have := (wrd_le _ _ _ _ _ _ h).1
    simp at this
    omega
  · split at h
    · have := (wrd_le _ _ _ _ _ _ h).1
      simp at this
      omega
    · split at h
      · have := (wrd_le _ _ _ _ _ _ h).1
        simp at this
        omega
      · split at h
        · obtain ⟨a, b, h1, h2⟩ := bind_okV h
          cases h2
          exact hpq _ _ _ h1
        · split at h
          · obtain ⟨a, b, h1, h2⟩ := bind_okV h
            cases h2
            refine brk_lt (fun s a s' a' e => ?_) h1
            obtain ⟨x, y, e1, e2⟩ := bind_okV e
            cases e2
            exact hadv _ _ _ e1
          · split at h
            · obtain ⟨a, b, h1, h2⟩ := bind_okV h
              cases h2
              exact brk_lt (fun s a s' a' e => (objT_lt (fun a t b e => Nat.le_of_lt (hpq a t b e)) hadv e).1) h1
            · cases hn : nmP (Sums.bl S) p with
              | ok z => rw [hn] at h; cases h; exact nmP_lt hn
              | no c z => rw [hn] at h; cases h
theorem valP_lt {S : ByteArray} {pq : Nat → Rv ByteArray} (hpq : ∀ a t b, pq a = .ok t b → a < b) : ∀ (n a : Nat) (v : Vl) (b : Nat), valP S pq n a = .ok v b → a < b
  | 0, a, v, b, h => by
    rw [valP] at h
    obtain ⟨x, y, e1, e2⟩ := bind_okV h
    cases e2
    have h1 := barP_lt hpq (fun a v b e => by cases e) e1
    have h2 := blP_le (Sums.bl S) a
    have h3 := blP_le (Sums.bl S) y
    omega
  | n + 1, a, v, b, h => by
    rw [valP] at h
    obtain ⟨x, y, e1, e2⟩ := bind_okV h
    cases e2
    have h1 := barP_lt hpq (valP_lt hpq n) e1
    have h2 := blP_le (Sums.bl S) a
    have h3 := blP_le (Sums.bl S) y
    omega
set_option maxRecDepth 100000 in
set_option maxHeartbeats 4000000 in
theorem value_step (rb : Rv Vl) (g : Nat) (S : ByteArray) (d p : Nat) (w : World) (h : Rr g S p d w) (ht : RwT w) (hS : S.size ≤ 65536) (hg8 : g ≠ 6)
    (hb : ∀ X, Rr g S (blP (Sums.bl S) p) d X → RwT X → Calls Tryz.prog 95 #[.pointer (some ⟨g, 0, none⟩)] X (rb.PostV g S d X)) :
    Calls Tryz.prog 65 #[.pointer (some ⟨g, 0, none⟩)] w ((rb.bind fun v q => Rv.ok v (blP (Sums.bl S) q)).PostV g S d w) := by
  have HS := Hid.mk' hS
  have HGL := Hid.mk' h.lt
  have HA : Hid (∀ X, X = w.alloc (.cells #[.int .i64 0, .string ByteArray.empty, .slice none 0 0, .slice none 0 0] 41) → Rr g S p d X ∧ Only g w X ∧ RwT X ∧ X.heap[w.heap.size]? = some (.cells zr4 41 (0, 0))) := Hid.mk' (fun X hX => by subst hX; have hb := (Below.refl w.heap.size w).alloc (Nat.le_refl _) (.cells #[.int .i64 0, .string ByteArray.empty, .slice none 0 0, .slice none 0 0] 41); exact ⟨h.below hb h.lt, (Only.refl _ _).alloc _, ht.below hb ht.lt, heap_alloc_new w _⟩)
  have HKEEP : Hid (∀ X Y, Only g w X ∧ RwT X ∧ X.heap[w.heap.size]? = some (.cells zr4 41 (0, 0)) → Only g X Y → Only g w Y ∧ RwT Y ∧ Y.heap[w.heap.size]? = some (.cells zr4 41 (0, 0))) := Hid.mk' (fun X Y hX ho => ⟨hX.1.trans ho, hX.2.1.only ho hg8, res_keep (by have := h.lt; omega) hX.2.2 ho⟩)
  have HB := Hid.mk' hb
  clear h ht hS hg8 hb
  go_enter Tryz.func65, Tryz.ntmps65
  go_wp2_with fail
  refine (blanks_any g S p d _ (HA.out _ rfl).1 HS.out).mono ?_
  rintro e w1 ⟨rfl, hr1, ho1⟩
  have H1 : Hid (Rr g S (blP (Sums.bl S) p) d w1 ∧ Only g w w1 ∧ RwT w1 ∧ w1.heap[w.heap.size]? = some (.cells zr4 41 (0, 0))) := Hid.mk' ⟨hr1, HKEEP.out _ _ (HA.out _ rfl).2 ho1⟩
  clear hr1 ho1 HA
  go_wp2_with fail
  rcases postV_two (HB.out _ H1.out.1 H1.out.2.2.1) with ⟨v, q, hrv, hc⟩ | ⟨c, q, hrv, hc⟩
  · refine hc.mono ?_
    rintro e w2 ⟨cs, rfl, hr3, ho3, hv3⟩
    subst hrv
    obtain ⟨xk, xt, pn, nn, cn, pk, nk, ck, rfl⟩ : ∃ (xk : Int) (xt : ByteArray) (pn : Option Addr) (nn cn : Nat) (pk : Option Addr) (nk ck : Nat), cs = #[.int .i64 xk, .string xt, .slice pn nn cn, .slice pk nk ck] := by
      obtain ⟨F, _, hv4⟩ := hv3
      exact hv4.form
    have HZ : Hid (∀ X, X = w2.alloc (.cells #[.int .i64 xk, .string xt, .slice pn nn cn, .slice pk nk ck] 41) → Rr g S q d X ∧ Only g w1 X ∧ X.heap[w2.heap.size]? = some (.cells #[.int .i64 xk, .string xt, .slice pn nn cn, .slice pk nk ck] 41 (0, 0)) ∧ (∃ F : Nat → Prop, (∀ k, F k → w1.heap.size ≤ k ∧ k < X.heap.size) ∧ VlAt F X v #[.int .i64 xk, .string xt, .slice pn nn cn, .slice pk nk ck])) := Hid.mk' (fun X hX => by
      subst hX
      have hb := (Below.refl w2.heap.size w2).alloc (Nat.le_refl _) (.cells #[.int .i64 xk, .string xt, .slice pn nn cn, .slice pk nk ck] 41)
      obtain ⟨F, h1, h2⟩ := hv3
      exact ⟨hr3.below hb hr3.lt, ho3.alloc _, heap_alloc_new w2 _, F, fun k hk => ⟨(h1 k hk).1, by have := (h1 k hk).2; rw [World.size_alloc]; omega⟩, VlAt.keep (fun _ x => x) (fun k _ hl => hb.block k hl) hb.size _ _ h2⟩)
    have HSZ : Hid (w1.heap.size ≤ w2.heap.size ∧ g < w2.heap.size) := Hid.mk' ⟨ho3.size, hr3.lt⟩
    clear hr3 ho3 hv3 hc
    go_wp2_with fail
    refine (blanks_any g S q d _ (HZ.out _ rfl).1 HS.out).mono ?_
    rintro e w3 ⟨rfl, hr4, ho4⟩
    obtain ⟨zq, hzq⟩ : ∃ zq, blP (Sums.bl S) q = zq := ⟨_, rfl⟩
    rw [hzq] at hr4
    have H3 : Hid (Rr g S zq d w3 ∧ Only g w1 w3 ∧ w3.heap[w2.heap.size]? = some (.cells #[.int .i64 xk, .string xt, .slice pn nn cn, .slice pk nk ck] 41 (0, 0)) ∧ (∃ F : Nat → Prop, (∀ k, F k → w1.heap.size ≤ k ∧ k < w3.heap.size) ∧ VlAt F w3 v #[.int .i64 xk, .string xt, .slice pn nn cn, .slice pk nk ck])) := Hid.mk' (by
      obtain ⟨h1, h2, h3, F, h4, h5⟩ := HZ.out _ rfl
      have hgs := HSZ.out
      refine ⟨hr4, h2.trans ho4, (ho4.block _ (Array.getElem?_eq_some_iff.1 h3).1 (by omega)).trans h3, F, fun k hk => ⟨(h4 k hk).1, by have := (h4 k hk).2; have := ho4.size; omega⟩, VlAt.keep (fun _ x => x) (fun k hk hl => ho4.block k hl ?_) ho4.size _ _ h5⟩
      have := (h4 k hk).1
      have := H1.out.1.lt
      omega)
    have hbx := H3.out.2.2.1
    have c0 : w3.cell? ⟨w2.heap.size, 0, none⟩ = some (.int .i64 xk) := by simp [World.cell?, hbx]
    have c1 : w3.cell? ⟨w2.heap.size, 1, none⟩ = some (.string xt) := by simp [World.cell?, hbx]
    have c2 : w3.cell? ⟨w2.heap.size, 2, none⟩ = some (.slice pn nn cn) := by simp [World.cell?, hbx]
    have c3 : w3.cell? ⟨w2.heap.size, 3, none⟩ = some (.slice pk nk ck) := by simp [World.cell?, hbx]
    have HX : Hid (Only g w w3 ∧ RwT w3 ∧ w3.heap[w.heap.size]? = some (.cells zr4 41 (0, 0))) := Hid.mk' (HKEEP.out _ _ H1.out.2 H3.out.2.1)
    obtain ⟨r0, r1, r2, r3, z0, z1, z2, z3⟩ := rz_of HX.out.2.2
    have HZQ := Hid.mk' hzq
    clear hr4 ho4 hbx HZ hzq
    go_wp2_with fail
    have hp := put4_res (.int .i64 xk) (.string xt) (.slice pn nn cn) (.slice pk nk ck) HX.out.2.2
    obtain ⟨y1, y2, y3⟩ := bare_done HGL.out rfl (.inr trivial) H1.out.2.1 H1.out.2.2.2 H3.out.1 H3.out.2.1 H3.out.2.2.2 hp
    have hrow := hp.row
    show bodyPost _ _ _ _ _ (put4 w3 w.heap.size 0 (.int .i64 xk) (.string xt) (.slice pn nn cn) (.slice pk nk ck))
    generalize put4 w3 w.heap.size 0 (.int .i64 xk) (.string xt) (.slice pn nn cn) (.slice pk nk ck) = w4 at y1 y2 y3 hrow ⊢
    have hz := HZQ.out
    subst hz
    refine ⟨rfl, _, ?_, _, rfl, y1, y2, y3⟩
    simp [results, Tryz.f65, go_sem, World.cell?, hrow]
  · refine hc.mono ?_
    rintro e w2 ⟨rfl, ho3⟩
    subst hrv
    exact ⟨rfl, rfl, H1.out.2.1.trans ho3⟩
theorem value_any (pq : Nat → Rv ByteArray) (g : Nat) (S : ByteArray) (hS : S.size ≤ 65536) (hg8 : g ≠ 6)
    (hpq : ∀ a t b, pq a = .ok t b → a < b ∧ t.size ≤ 65536)
    (hq : ∀ d a X, Rr g S a d X → RwT X → Calls Tryz.prog 128 #[.pointer (some ⟨g, 0, none⟩)] X ((pq a).PostT g S d X)) :
    ∀ n d, d + n = 40 → ∀ a X, Rr g S a d X → RwT X → Calls Tryz.prog 65 #[.pointer (some ⟨g, 0, none⟩)] X ((valP S pq n a).PostV g S d X)
  | 0, d, hdn, a, X, h1, h2 => by
    rw [valP]
    exact value_step _ g S d a X h1 h2 hS hg8 fun Y h3 h4 => bare_any pq _ g S d 0 _ Y h3 h4 hS hdn hg8 (fun a t b e => ⟨Nat.le_of_lt (hpq a t b e).1, (hpq a t b e).2⟩) (fun a v b e => by cases e) hq (fun h => by cases h)
  | n + 1, d, hdn, a, X, h1, h2 => by
    rw [valP]
    exact value_step _ g S d a X h1 h2 hS hg8 fun Y h3 h4 => bare_any pq _ g S d (n + 1) _ Y h3 h4 hS hdn hg8 (fun a t b e => ⟨Nat.le_of_lt (hpq a t b e).1, (hpq a t b e).2⟩) (valP_lt (fun a t b e => (hpq a t b e).1) n) hq (fun _ b Y h5 h6 => value_any pq g S hS hg8 hpq hq n (d + 1) (by omega) b Y h5 h6)
end Go.Proofs.YtkplbggefiemdaaGreatDoor
