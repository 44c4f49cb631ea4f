/-
  object: the reader: object. Conditions: as each says.
-/
import Derived.Test.YtkplbggefiemdaaGreatDoorObP
namespace Go.Proofs.YtkplbggefiemdaaGreatDoor
open Go.RowKit Go.Maps
set_option linter.unusedVariables false
set_option linter.unusedSimpArgs false
theorem namP_lt {pq : Nat → Rv ByteArray} {L : List Nat} (hpq : ∀ a t b, pq a = .ok t b → a ≤ b) {ns : List ByteArray} {p : Nat} {t : ByteArray} {z : Nat} (e : namP pq L ns p = .ok t z) : p < z := by
  unfold namP at e
  have h0 := blP_le L p
  cases hq : pq (blP L p) with
  | ok u q =>
    rw [hq] at e
    have e2 : (if amg ns u = true then Rv.no 131 (blP L p) else if rngO 58 58 (L.drop (blP L q)) = true then Rv.ok u (blP L q + 1) else Rv.no 130 (blP L q)) = .ok t z := e
    have h1 := hpq _ _ _ hq
    have h2 := blP_le L q
    split at e2
    · cases e2
    · split at e2
      · cases e2; omega
      · cases e2
  | no c q => rw [hq] at e; cases e
theorem objT_lt {pq : Nat → Rv ByteArray} {val : Nat → Rv Vl} {L : List Nat} (hpq : ∀ a t b, pq a = .ok t b → a ≤ b) (hadv : ∀ a v b, val a = .ok v b → a < b) {s s' : List ByteArray × List Vl} {p p' : Nat} (e : objT pq val L s p = .ok s' p') : p < p' ∧ ∃ t v, s' = (s.1 ++ [t], s.2 ++ [v]) := by
  unfold objT at e
  cases hn : namP pq L s.1 p with
  | ok t q =>
    rw [hn] at e
    cases hv : val q with
    | ok v z =>
      have e2 : ((val q).bind fun v z => Rv.ok (s.1 ++ [t], s.2 ++ [v]) z) = .ok s' p' := e
      rw [hv] at e2
      have e3 : Rv.ok (s.1 ++ [t], s.2 ++ [v]) z = .ok s' p' := e2
      injection e3 with e4 e5
      subst e5
      have h1 := namP_lt hpq hn
      have h2 := hadv _ _ _ hv
      exact ⟨by omega, t, v, e4.symm⟩
    | no c z =>
      have e2 : ((val q).bind fun v z => Rv.ok (s.1 ++ [t], s.2 ++ [v]) z) = .ok s' p' := e
      rw [hv] at e2
      cases e2
  | no c q => rw [hn] at e; cases e
set_option maxRecDepth 100000 in
set_option maxHeartbeats 8000000 in
theorem object_any (pq : Nat → Rv ByteArray) (val : Nat → Rv Vl) (g : Nat) (S : ByteArray) (d n p : Nat) (w : World) (h : Rr g S p d w) (ht : RwT w) (hS : S.size ≤ 65536) (hdn : d + n = 40) (hp : p < S.size) (hg8 : g ≠ 6)
    (hpq : ∀ a t b, pq a = .ok t b → a ≤ b ∧ t.size ≤ 65536) (hadv : ∀ a v b, val a = .ok v b → a < b)
    (hq : ∀ d a X, Rr g S a d X → RwT X → Calls Tryz.prog 128 #[.pointer (some ⟨g, 0, none⟩)] X ((pq a).PostT g S d X))
    (hval : 0 < n → ∀ a X, Rr g S a (d + 1) X → RwT X → Calls Tryz.prog 65 #[.pointer (some ⟨g, 0, none⟩)] X ((val a).PostV g S (d + 1) X)) :
    Calls Tryz.prog 130 #[.pointer (some ⟨g, 0, none⟩)] w (((brk (objT pq val (Sums.bl S)) (Sums.bl S) 125 n ([], []) p).bind fun s q => Rv.ok (.mk 7 ByteArray.empty s.1 s.2) q).PostV g S d w) := by
  have hmf : ∀ (fn : Fn) (first cap : Array Value) (w : World), (Instr.makeFunc fn first cap).run Tryz.prog w = .ok (.func fn first cap) w := fun _ _ _ _ => rfl
  have hmm := @run_makeMap Tryz.prog
  obtain ⟨x1, x2, x3, x4, x5⟩ := al3 w (.cells #[.pointer (some ⟨g, 0, none⟩)] 86) (.cells #[.int .i64 0, .string ByteArray.empty, .slice none 0 0, .slice none 0 0] 41) (.cells #[.int .i64 7, .string ByteArray.empty, .slice none 0 0, .slice none 0 0] 41)
  have hgB := h.lt
  have HX : Hid (∀ X, X = ((((w.alloc (.cells #[.pointer (some ⟨g, 0, none⟩)] 86)).alloc (.cells #[.int .i64 0, .string ByteArray.empty, .slice none 0 0, .slice none 0 0] 41)).alloc (.cells #[.int .i64 7, .string ByteArray.empty, .slice none 0 0, .slice none 0 0] 41)).alloc (.map #[] 0)).alloc (.cells #[.map (some (w.heap.size + 1 + 1 + 1))] 132) → Calls Tryz.prog 158 #[.pointer (some ⟨g, 0, none⟩), .int .u8 ((125 : Nat) : Int), .func (.func 160) #[] #[.pointer (some ⟨w.heap.size + 1 + 1, 0, none⟩), .pointer (some ⟨w.heap.size, 0, none⟩), .pointer (some ⟨w.heap.size + 1 + 1 + 1 + 1, 0, none⟩)]] X ((brk (objT pq val (Sums.bl S)) (Sums.bl S) 125 n ([], []) p).PostJ (fun s => OJ (w.heap.size + 1 + 1) w.heap.size (w.heap.size + 1 + 1 + 1) (w.heap.size + 1 + 1 + 1 + 1) (w.heap.size + 1) g w.heap.size s.1 s.2) g S d w.heap.size X) ∧ Onb g w.heap.size w X) := Hid.mk' fun X hX => by
    subst hX
    generalize hX3 : ((w.alloc (.cells #[.pointer (some ⟨g, 0, none⟩)] 86)).alloc (.cells #[.int .i64 0, .string ByteArray.empty, .slice none 0 0, .slice none 0 0] 41)).alloc (.cells #[.int .i64 7, .string ByteArray.empty, .slice none 0 0, .slice none 0 0] 41) = X3 at x1 x2 x3 x4 x5 ⊢
    clear hX3
    have b4 := (Below.refl X3.heap.size X3).alloc (Nat.le_refl _) (.map #[] 0)
    have s4 : (X3.alloc (.map #[] 0)).heap.size = w.heap.size + 1 + 1 + 1 + 1 := by rw [World.size_alloc, x4]
    have b5 := (Below.refl (X3.alloc (.map #[] 0)).heap.size (X3.alloc (.map #[] 0))).alloc (Nat.le_refl _) (.cells #[.map (some (w.heap.size + 1 + 1 + 1))] 132)
    have n5 := heap_alloc_new (X3.alloc (.map #[] 0)) (.cells #[.map (some (w.heap.size + 1 + 1 + 1))] 132)
    rw [s4] at n5
    have s5 : ((X3.alloc (.map #[] 0)).alloc (.cells #[.map (some (w.heap.size + 1 + 1 + 1))] 132)).heap.size = w.heap.size + 1 + 1 + 1 + 1 + 1 := by rw [World.size_alloc, s4]
    have hm4 : NmAt (w.heap.size + 1 + 1 + 1) [] (X3.alloc (.map #[] 0)) := by
      have := World.ownsMap_made (H := Unit) X3 Tryz.prog 9 (unitElem (H := Unit))
      rw [x4] at this
      exact this
    have hkeep : ∀ k, k < w.heap.size + 1 + 1 + 1 → ((X3.alloc (.map #[] 0)).alloc (.cells #[.map (some (w.heap.size + 1 + 1 + 1))] 132)).heap[k]? = X3.heap[k]? := fun k hk => (b5.block k (by omega)).trans (b4.block k (by omega))
    have hbw : Below w.heap.size w ((X3.alloc (.map #[] 0)).alloc (.cells #[.map (some (w.heap.size + 1 + 1 + 1))] 132)) := ⟨x5.os, x5.tape, x5.output, by rw [s5]; omega, fun k hk => (hkeep k (by omega)).trans (x5.block k hk)⟩
    refine ⟨brackets_any (objT pq val (Sums.bl S)) (fun s => max s.1.length s.2.length) (fun s => OJ (w.heap.size + 1 + 1) w.heap.size (w.heap.size + 1 + 1 + 1) (w.heap.size + 1 + 1 + 1 + 1) (w.heap.size + 1) g w.heap.size s.1 s.2) g S d n w.heap.size 125 160 #[] #[.pointer (some ⟨w.heap.size + 1 + 1, 0, none⟩), .pointer (some ⟨w.heap.size, 0, none⟩), .pointer (some ⟨w.heap.size + 1 + 1 + 1 + 1, 0, none⟩)] hS hdn hgB hg8 ht.lt (fun _ => rfl) (fun s a b hj ho => hj.keep hgB ho) (fun s a hj => hj.le) (fun s a s' a' e => ?_) (fun hn s a X hr2 ht2 hj hsz => ?_) ([], []) p _ (h.below hbw hgB) (ht.below hbw ht.lt) ?_ (Nat.zero_le _) hp, ⟨hbw.os, hbw.tape, hbw.output, hbw.size, fun k hk _ => hbw.block k hk⟩⟩
    · obtain ⟨e1, t, v, rfl⟩ := objT_lt (fun a t b e => (hpq a t b e).1) hadv e
      exact ⟨e1, by simp⟩
    · have hle : max s.1.length s.2.length ≤ 65536 := by have := hr2.le; omega
      exact obj1_any pq val g (w.heap.size + 1 + 1) w.heap.size (w.heap.size + 1 + 1 + 1) (w.heap.size + 1 + 1 + 1 + 1) (w.heap.size + 1) S (d + 1) a w.heap.size s.1 s.2 X hr2 ht2 hj hS (by omega) (by omega) hgB hg8 ht.lt (fun a t b e => (hpq a t b e).2) (hq (d + 1)) (fun b Y h1 h2 => hval hn b Y h1 h2)
    · exact ⟨.slice none 0 0, .slice none 0 0, [], fun _ => False, ⟨own_nil _ _ _ _, rfl, fun k hk => hk.elim, (hkeep _ (by omega)).trans x3, by simp [Value.ownBlock], by omega⟩, own_nil _ _ _ _, hm4.heap (by rw [s5, s4]; omega) (b5.block _ (by omega)), ⟨(0, 0), (hkeep _ (by omega)).trans x1⟩, ⟨(0, 0), n5⟩, Nat.le_refl _, by omega, by omega, (hkeep _ (by omega)).trans x2, by omega, by omega, by simp [Value.ownBlock]⟩
  have HO := Hid.mk' hgB
  clear h ht hS hdn hp hg8 hadv hval x1 x2 x3 x4 x5 hgB hq hpq
  obtain ⟨r, hr⟩ : ∃ r, brk (objT pq val (Sums.bl S)) (Sums.bl S) 125 n ([], []) p = r := ⟨_, rfl⟩
  rw [hr] at HX ⊢
  clear hr
  go_enter Tryz.func130, Tryz.ntmps130
  go_wp2_with fail
  obtain ⟨hc, ho0⟩ := HX.out _ rfl
  rcases postJ_two hc with ⟨s, q, hr, hc⟩ | ⟨c, q, hr, hc⟩
  · refine hc.mono ?_
    rintro e w3 ⟨rfl, hr3, hj3, ho3⟩
    subst hr
    obtain ⟨ns, ks⟩ := s
    have HO3 : Hid (Onb g w.heap.size w w3) := Hid.mk' (ho0.trans ho3)
    have HR3 := Hid.mk' hr3
    obtain ⟨vn, vk, xs, F, hk, hn3, _, _, _, _, _, _, hR, _, hRV, hRr⟩ := hj3
    have hn4 : w3.ownsRow w.heap.size 9 1 vn ns.length (ns.map Value.string) := hn3
    have hk4 : w3.ownsRow w.heap.size 41 4 vk ks.length xs := hk.own
    obtain ⟨pb, cp, rfl⟩ := own_shape4 hk4
    obtain ⟨pn, cn, rfl⟩ := own_shape4 hn4
    have HK := Hid.mk' hk
    have HN4 := Hid.mk' hn4
    have HRB := Hid.mk' (And.intro hR hRr)
    have c0 : w3.cell? ⟨w.heap.size + 1 + 1, 0, none⟩ = some (.int .i64 7) := by simp [World.cell?, hk.box]
    have c1 : w3.cell? ⟨w.heap.size + 1 + 1, 1, none⟩ = some (.string ByteArray.empty) := by simp [World.cell?, hk.box]
    have c2 : w3.cell? ⟨w.heap.size + 1 + 1, 2, none⟩ = some (.slice pn ns.length cn) := by simp [World.cell?, hk.box]
    have c3 : w3.cell? ⟨w.heap.size + 1 + 1, 3, none⟩ = some (.slice pb ks.length cp) := by simp [World.cell?, hk.box]
    have r0 : w3.cell? ⟨w.heap.size + 1, 0, none⟩ = some (.int .i64 0) := by simp [World.cell?, hR, zr4]
    have r1 : w3.cell? ⟨w.heap.size + 1, 1, none⟩ = some (.string ByteArray.empty) := by simp [World.cell?, hR, zr4]
    have r2 : w3.cell? ⟨w.heap.size + 1, 2, none⟩ = some (.slice none 0 0) := by simp [World.cell?, hR, zr4]
    have r3 : w3.cell? ⟨w.heap.size + 1, 3, none⟩ = some (.slice none 0 0) := by simp [World.cell?, hR, zr4]
    have z0 : w3.frozen? ⟨w.heap.size + 1, 0, none⟩ = false := by simp [World.frozen?, hR]
    have z1 : w3.frozen? ⟨w.heap.size + 1, 1, none⟩ = false := by simp [World.frozen?, hR]
    have z2 : w3.frozen? ⟨w.heap.size + 1, 2, none⟩ = false := by simp [World.frozen?, hR]
    have z3 : w3.frozen? ⟨w.heap.size + 1, 3, none⟩ = false := by simp [World.frozen?, hR]
    clear hr3 ho3 ho0 hk hR hRV hRr hc HX hn3 hn4 hk4
    go_wp2_with fail
    have hp := put4_res (.int .i64 7) (.string ByteArray.empty) (.slice pn ns.length cn) (.slice pb ks.length cp) HRB.out.1
    obtain ⟨y1, y2, y3⟩ := lj_out (k := 7) (ns := ns) rfl HO.out HR3.out HO3.out HK.out (.inr (.inr rfl)) HRB.out.2 (by omega) _ hp (.inr ⟨HN4.out, row_ne HN4.out HRB.out.1 (by decide)⟩)
    have hrow := hp.row
    show bodyPost _ _ _ _ _ (put4 w3 (w.heap.size + 1) 0 (.int .i64 7) (.string ByteArray.empty) (.slice pn ns.length cn) (.slice pb ks.length cp))
    generalize put4 w3 (w.heap.size + 1) 0 (.int .i64 7) (.string ByteArray.empty) (.slice pn ns.length cn) (.slice pb ks.length cp) = w4 at y1 y2 y3 hrow ⊢
    refine ⟨rfl, _, ?_, _, rfl, y1, y2, y3⟩
    simp [results, Tryz.f130, go_sem, World.cell?, hrow]
  · refine hc.mono ?_
    rintro e w3 ⟨rfl, ho3⟩
    subst hr
    exact ⟨rfl, rfl, (ho0.trans ho3).only (Nat.le_refl _)⟩
end Go.Proofs.YtkplbggefiemdaaGreatDoor
