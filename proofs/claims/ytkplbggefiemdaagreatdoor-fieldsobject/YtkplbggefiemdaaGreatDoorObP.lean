/-
  object: the reader: list and object. Conditions: as each says.
-/
import Derived.Test.YtkplbggefiemdaaGreatDoorObO
namespace Go.Proofs.YtkplbggefiemdaaGreatDoor
open Go.RowKit
set_option linter.unusedVariables false
set_option linter.unusedSimpArgs false
theorem thgs_lt {A : Type} {thing : A → Nat → Rv A} {L : List Nat} {cl : Nat} (h : ∀ s p s' p', thing s p = .ok s' p' → p < p') : ∀ (n : Nat) (s : A) (p : Nat) (s' : A) (p' : Nat), thgs thing L cl n s p = .ok s' p' → p < p'
  | 0, s, p, s', p', e => by cases e
  | n + 1, s, p, s', p', e => by
    rw [thgs] at e
    split at e
    · cases e; omega
    · split at e
      · cases ht : thing s (p + 1) with
        | ok a b =>
          rw [ht] at e
          have h1 := h _ _ _ _ ht
          have h2 := thgs_lt h n a b s' p' e
          omega
        | no c b => rw [ht] at e; cases e
      · cases e
theorem brk_lt {A : Type} {thing : A → Nat → Rv A} {L : List Nat} {cl n : Nat} (h : ∀ s p s' p', thing s p = .ok s' p' → p < p') {s : A} {p : Nat} {s' : A} {p' : Nat} (e : brk thing L cl n s p = .ok s' p') : p < p' := by
  unfold brk at e
  have hb := blP_le L (p + 1)
  split at e
  · cases e
  · split at e
    · cases e; omega
    · cases ht : thing s (blP L (p + 1)) with
      | ok a b =>
        rw [ht] at e
        have h1 := h _ _ _ _ ht
        have h2 := thgs_lt h _ a b s' p' e
        omega
      | no c b => rw [ht] at e; cases e
theorem al3 (w : World) (a b c : Obj) : let X := ((w.alloc a).alloc b).alloc c
    X.heap[w.heap.size]? = some a ∧ X.heap[w.heap.size + 1]? = some b ∧ X.heap[w.heap.size + 1 + 1]? = some c ∧ X.heap.size = w.heap.size + 1 + 1 + 1 ∧ Below w.heap.size w X := by
  intro X
  have s1 : (w.alloc a).heap.size = w.heap.size + 1 := World.size_alloc _ _
  have s2 : ((w.alloc a).alloc b).heap.size = w.heap.size + 1 + 1 := by rw [World.size_alloc, s1]
  have b2 := (Below.refl (w.alloc a).heap.size (w.alloc a)).alloc (Nat.le_refl _) b
  have b3 := (Below.refl ((w.alloc a).alloc b).heap.size ((w.alloc a).alloc b)).alloc (Nat.le_refl _) c
  have n1 := heap_alloc_new w a
  have n2 := heap_alloc_new (w.alloc a) b
  have n3 := heap_alloc_new ((w.alloc a).alloc b) c
  rw [s1] at n2
  rw [s2] at n3
  exact ⟨(b3.block _ (by omega)).trans ((b2.block _ (by omega)).trans n1), (b3.block _ (by omega)).trans n2, n3, by show (((w.alloc a).alloc b).alloc c).heap.size = _; rw [World.size_alloc, s2], (((Below.refl _ w).alloc (Nat.le_refl _) a).alloc (by omega) b).alloc (by omega) c⟩
theorem own_nil (w : World) (B e sz : Nat) : w.ownsRow B e sz (.slice none 0 0) 0 [] := ⟨by simp, .inl ⟨rfl, rfl⟩⟩
/-- a result's box is written -/
theorem put4_res {w : World} {R : Nat} (a b c d : Value) (h : w.heap[R]? = some (.cells zr4 41 (0, 0))) : Put4 w (put4 w R 0 a b c d) R #[a, b, c, d] 41 := by
  have := put4_row h 0 a b c d
  simpa [zr4] using this
/-- what list hands out -/
theorem lj_out {g B R V q d : Nat} {S : ByteArray} {D : Nat → Prop} {k : Nat} {ns : List ByteArray} {vn vk : Value} {ks : List Vl} {xs : List Value} {F : Nat → Prop} {w w3 w4 : World} (hB : B = w.heap.size) (hg : g < B) (hr : Rr g S q d w3) (ho : Onb g B w w3) (hk : KJ V B D (.int .i64 (k : Int)) (.string ByteArray.empty) vn vk ks xs F w3) (hD : D R) (hRr : vk.ownBlock ≠ some R) (hRB : B ≤ R) (cs : Array Value) (hp : Put4 w3 w4 R cs 41)
    (hn : (ns = [] ∧ ∃ p c, vn = .slice p 0 c) ∨ (w3.ownsRow B 9 1 vn ns.length (ns.map Value.string) ∧ vn.ownBlock ≠ some R)) :
    Rr g S q d w4 ∧ Only g w w4 ∧ ∃ G : Nat → Prop, (∀ k, G k → w.heap.size ≤ k ∧ k < w4.heap.size) ∧ VlAt G w4 (.mk k ByteArray.empty ns ks) #[.int .i64 (k : Int), .string ByteArray.empty, vn, vk] := by
  subst hB
  have hrow := own_row_lt hk.own
  refine ⟨⟨(hp.block g (by omega)).trans hr.row, hr.le⟩, ⟨hp.os.trans ho.os, hp.tape.trans ho.tape, hp.output.trans ho.output, by have := ho.size; rw [hp.size]; omega, fun k h1 h2 => (hp.block k (by omega)).trans (ho.block k h1 h2)⟩, fun j => F j ∨ vk.ownBlock = some j ∨ (vn.ownBlock = some j ∧ w.heap.size ≤ j ∧ j < w3.heap.size ∧ vn.ownBlock ≠ some R), ?_, ?_⟩
  · rintro j (h | h | ⟨h, h1, h2, h3⟩)
    · obtain ⟨a, b, _⟩ := hk.fF j h
      rw [hp.size]
      exact ⟨a, b⟩
    · have := hrow j h
      rw [hp.size]
      exact this
    · rw [hp.size]
      exact ⟨h1, h2⟩
  · refine VlAt.keep (F := fun j => F j ∨ vk.ownBlock = some j ∨ (vn.ownBlock = some j ∧ w.heap.size ≤ j ∧ j < w3.heap.size ∧ vn.ownBlock ≠ some R)) (X := w3) (fun _ x => x) (fun j hj _ => hp.block j fun e => ?_) (by rw [hp.size]; omega) _ _ ?_
    · subst e
      rcases hj with h | h | ⟨h, h1, h2, h3⟩
      · exact (hk.fF j h).2.2.2.2 hD
      · exact hRr h
      · exact h3 h
    · rw [VlAt]
      refine ⟨vn, vk, rfl, ?_, kids_own _ hk.own (KidsL.keep (fun _ x => .inl x) (fun _ _ _ => rfl) (Nat.le_refl _) _ _ hk.kids) (fun j hj => .inr (.inl hj))⟩
      rcases hn with hn | ⟨hn, hne⟩
      · exact .inl hn
      · exact strs_own _ hn (fun j hj => .inr (.inr ⟨hj, (own_row_lt hn j hj).1, (own_row_lt hn j hj).2, hne⟩))
set_option maxRecDepth 100000 in
set_option maxHeartbeats 8000000 in
theorem list_any (val : Nat → Rv Vl) (g : Nat) (S : ByteArray) (d n p : Nat) (w : World) (h : Rr g S p d w) (ht : RwT w) (hS : S.size ≤ 65536) (hdn : d + n = 40) (hp : p < S.size) (hg8 : g ≠ 6)
    (hadv : ∀ a v b, val a = .ok v b → a < b)
    (hval : 0 < n → ∀ a X, Rr g S a (d + 1) X → RwT X → Calls Tryz.prog 65 #[.pointer (some ⟨g, 0, none⟩)] X ((val a).PostV g S (d + 1) X)) :
    Calls Tryz.prog 129 #[.pointer (some ⟨g, 0, none⟩)] w (((brk (lstT val) (Sums.bl S) 93 n [] p).bind fun ks q => Rv.ok (.mk 6 ByteArray.empty [] ks) q).PostV g S d w) := by
  have hmf : ∀ (fn : Fn) (first cap : Array Value) (w : World), (Instr.makeFunc fn first cap).run Tryz.prog w = .ok (.func fn first cap) w := fun _ _ _ _ => rfl
  obtain ⟨x1, x2, x3, x4, x5⟩ := al3 w (.cells #[.pointer (some ⟨g, 0, none⟩)] 86) (.cells #[.int .i64 0, .string ByteArray.empty, .slice none 0 0, .slice none 0 0] 41) (.cells #[.int .i64 6, .string ByteArray.empty, .slice none 0 0, .slice none 0 0] 41)
  have hgB := h.lt
  have HX : Hid (∀ X, X = ((w.alloc (.cells #[.pointer (some ⟨g, 0, none⟩)] 86)).alloc (.cells #[.int .i64 0, .string ByteArray.empty, .slice none 0 0, .slice none 0 0] 41)).alloc (.cells #[.int .i64 6, .string ByteArray.empty, .slice none 0 0, .slice none 0 0] 41) → Calls Tryz.prog 158 #[.pointer (some ⟨g, 0, none⟩), .int .u8 ((93 : Nat) : Int), .func (.func 159) #[] #[.pointer (some ⟨w.heap.size + 1 + 1, 0, none⟩), .pointer (some ⟨w.heap.size, 0, none⟩)]] X ((brk (lstT val) (Sums.bl S) 93 n [] p).PostJ (LJ (w.heap.size + 1 + 1) w.heap.size (w.heap.size + 1) g w.heap.size (.int .i64 6) (.slice none 0 0)) g S d w.heap.size X) ∧ Onb g w.heap.size w X) := Hid.mk' fun X hX => by
    subst hX
    refine ⟨brackets_any (lstT val) List.length (LJ (w.heap.size + 1 + 1) w.heap.size (w.heap.size + 1) g w.heap.size (.int .i64 6) (.slice none 0 0)) g S d n w.heap.size 93 159 #[] #[.pointer (some ⟨w.heap.size + 1 + 1, 0, none⟩), .pointer (some ⟨w.heap.size, 0, none⟩)] hS hdn hgB hg8 ht.lt (fun _ => rfl) (fun s a b hj ho => hj.keep hgB ho) (fun s a hj => hj.le) (fun s a s' a' e => ?_) (fun hn s a X hr2 ht2 hj hsz => ?_) [] p _ (h.below x5 hgB) (ht.below x5 ht.lt) ?_ (Nat.zero_le _) hp, ⟨x5.os, x5.tape, x5.output, x5.size, fun k hk _ => x5.block k hk⟩⟩
    · unfold lstT at e
      cases hv : val a with
      | ok v b =>
        rw [hv] at e
        have e2 : Rv.ok (s ++ [v]) b = Rv.ok s' a' := e
        injection e2 with e3 e4
        subst e3 e4
        exact ⟨hadv _ _ _ hv, by simp⟩
      | no c b => rw [hv] at e; cases e
    · have hle : s.length ≤ 65536 := by have := hr2.le; omega
      exact list1_any g (w.heap.size + 1 + 1) w.heap.size (w.heap.size + 1) S (d + 1) a w.heap.size (.int .i64 6) (.slice none 0 0) (val a) s X hr2 ht2 hj hle hgB hg8 (fun Y h1 h2 => hval hn a Y h1 h2)
    · exact ⟨.slice none 0 0, [], fun _ => False, ⟨own_nil _ _ _ _, rfl, fun k hk => hk.elim, x3, by simp [Value.ownBlock], by omega⟩, ⟨(0, 0), x1⟩, Nat.le_refl _, by omega, x2, by omega, by omega, by simp [Value.ownBlock]⟩
  have HO := Hid.mk' hgB
  clear h ht hS hdn hp hg8 hadv hval x1 x2 x3 x4 x5 hgB
  obtain ⟨r, hr⟩ : ∃ r, brk (lstT val) (Sums.bl S) 93 n [] p = r := ⟨_, rfl⟩
  rw [hr] at HX ⊢
  clear hr
  go_enter Tryz.func129, Tryz.ntmps129
  go_wp2_with fail
  obtain ⟨hc, ho0⟩ := HX.out _ rfl
  rcases postJ_two hc with ⟨ks, q, hr, hc⟩ | ⟨c, q, hr, hc⟩
  · refine hc.mono ?_
    rintro e w3 ⟨rfl, hr3, hj3, ho3⟩
    subst hr
    have HO3 : Hid (Onb g w.heap.size w w3) := Hid.mk' (ho0.trans ho3)
    have HR3 := Hid.mk' hr3
    obtain ⟨vk, xs, F, hk, _, _, _, hR, _, hRV, hRr⟩ := hj3
    obtain ⟨pb, cp, rfl⟩ := own_shape4 hk.own
    have HK := Hid.mk' hk
    have HRB := Hid.mk' (And.intro hR hRr)
    have c0 : w3.cell? ⟨w.heap.size + 1 + 1, 0, none⟩ = some (.int .i64 6) := by simp [World.cell?, hk.box]
    have c1 : w3.cell? ⟨w.heap.size + 1 + 1, 1, none⟩ = some (.string ByteArray.empty) := by simp [World.cell?, hk.box]
    have c2 : w3.cell? ⟨w.heap.size + 1 + 1, 2, none⟩ = some (.slice none 0 0) := by simp [World.cell?, hk.box]
    have c3 : w3.cell? ⟨w.heap.size + 1 + 1, 3, none⟩ = some (.slice pb ks.length cp) := by simp [World.cell?, hk.box]
    have r0 : w3.cell? ⟨w.heap.size + 1, 0, none⟩ = some (.int .i64 0) := by simp [World.cell?, hR, zr4]
    have r1 : w3.cell? ⟨w.heap.size + 1, 1, none⟩ = some (.string ByteArray.empty) := by simp [World.cell?, hR, zr4]
    have r2 : w3.cell? ⟨w.heap.size + 1, 2, none⟩ = some (.slice none 0 0) := by simp [World.cell?, hR, zr4]
    have r3 : w3.cell? ⟨w.heap.size + 1, 3, none⟩ = some (.slice none 0 0) := by simp [World.cell?, hR, zr4]
    have z0 : w3.frozen? ⟨w.heap.size + 1, 0, none⟩ = false := by simp [World.frozen?, hR]
    have z1 : w3.frozen? ⟨w.heap.size + 1, 1, none⟩ = false := by simp [World.frozen?, hR]
    have z2 : w3.frozen? ⟨w.heap.size + 1, 2, none⟩ = false := by simp [World.frozen?, hR]
    have z3 : w3.frozen? ⟨w.heap.size + 1, 3, none⟩ = false := by simp [World.frozen?, hR]
    clear hr3 ho3 ho0 hk hR hRV hRr hc HX
    go_wp2_with fail
    have hp := put4_res (.int .i64 6) (.string ByteArray.empty) (.slice none 0 0) (.slice pb ks.length cp) HRB.out.1
    obtain ⟨y1, y2, y3⟩ := lj_out (k := 6) (ns := []) rfl HO.out HR3.out HO3.out HK.out rfl HRB.out.2 (by omega) _ hp (.inl ⟨rfl, _, _, rfl⟩)
    have hrow := hp.row
    show bodyPost _ _ _ _ _ (put4 w3 (w.heap.size + 1) 0 (.int .i64 6) (.string ByteArray.empty) (.slice none 0 0) (.slice pb ks.length cp))
    generalize put4 w3 (w.heap.size + 1) 0 (.int .i64 6) (.string ByteArray.empty) (.slice none 0 0) (.slice pb ks.length cp) = w4 at y1 y2 y3 hrow ⊢
    refine ⟨rfl, _, ?_, _, rfl, y1, y2, y3⟩
    simp [results, Tryz.f129, go_sem, World.cell?, hrow]
  · refine hc.mono ?_
    rintro e w3 ⟨rfl, ho3⟩
    subst hr
    exact ⟨rfl, rfl, (ho0.trans ho3).only (Nat.le_refl _)⟩
end Go.Proofs.YtkplbggefiemdaaGreatDoor
