/-
  object: the reader: what object does within its brackets: its two appends. Conditions: as each says.
-/
import Derived.Test.YtkplbggefiemdaaGreatDoorObN
namespace Go.Proofs.YtkplbggefiemdaaGreatDoor
open Go.RowKit Go.Shelf
set_option linter.unusedVariables false
set_option linter.unusedSimpArgs false
/-- what object keeps within its brackets -/
def OJ (V P M PM R g B : Nat) (ns : List ByteArray) (ks : List Vl) (w : World) : Prop :=
  ∃ vn vk xs F, KJ V B (fun k => some k = vn.ownBlock ∨ k = M ∨ k = R) (.int .i64 7) (.string ByteArray.empty) vn vk ks xs F w ∧ w.ownsRow B 9 1 vn ns.length (ns.map Value.string) ∧ NmAt M ns w ∧ BoxP P g w ∧ BoxM PM M w ∧ B ≤ P ∧ B ≤ PM ∧ B ≤ M ∧ w.heap[R]? = some (.cells zr4 41 (0, 0)) ∧ B ≤ R ∧ R ≠ V ∧ vk.ownBlock ≠ some R
theorem NmAt.ne {M k : Nat} {ns : List ByteArray} {w : World} (h : NmAt M ns w) {cs : Array Value} {e : TypeId} {fz : Nat × Nat} (hk : w.heap[k]? = some (.cells cs e fz)) : k ≠ M := by
  rintro rfl
  obtain ⟨es, clock, hb, _⟩ := h
  rw [hk] at hb
  cases hb
theorem row_ne {w : World} {B e n sz k : Nat} {v : Value} {xs : List Value} (h : w.ownsRow B e sz v n xs) {cs : Array Value} {e' : TypeId} {fz : Nat × Nat} (hk : w.heap[k]? = some (.cells cs e' fz)) (he : e' ≠ e) : v.ownBlock ≠ some k := by
  intro hv
  rcases h.2 with ⟨rfl, _⟩ | ⟨g', cap, cur, rfl, h1, h2, _⟩
  · cases hv
  · have : g' = k := by simpa [Value.ownBlock] using hv
    subst this
    rw [hk] at h2
    simp at h2
    exact he h2.2.1
theorem row_nm {w : World} {B e n sz M : Nat} {v : Value} {xs : List Value} {ns : List ByteArray} (h : w.ownsRow B e sz v n xs) (hm : NmAt M ns w) : v.ownBlock ≠ some M := by
  intro hv
  rcases h.2 with ⟨rfl, _⟩ | ⟨g', cap, cur, rfl, h1, h2, _⟩
  · cases hv
  · have : g' = M := by simpa [Value.ownBlock] using hv
    subst this
    exact hm.ne h2 rfl
theorem row_row {w : World} {B e e' n n' sz sz' : Nat} {v v' : Value} {xs xs' : List Value} (h : w.ownsRow B e sz v n xs) (h' : w.ownsRow B e' sz' v' n' xs') (he : e' ≠ e) (k : Nat) (hk : v'.ownBlock = some k) : v.ownBlock ≠ some k := by
  rcases h'.2 with ⟨rfl, _⟩ | ⟨g', cap, cur, rfl, h1, h2, _⟩
  · cases hk
  · have : g' = k := by simpa [Value.ownBlock] using hk
    subst this
    exact row_ne h h2 he
theorem OJ.keep {V P M PM R g B : Nat} {ns : List ByteArray} {ks : List Vl} {w w' : World} (h : OJ V P M PM R g B ns ks w) (hg : g < B) (ho : Only g w w') : OJ V P M PM R g B ns ks w' := by
  obtain ⟨vn, vk, xs, F, hk, hn, hm, ⟨f1, hp⟩, ⟨f2, hpm⟩, h1, h2, h3, h4, h5, h6, h7⟩ := h
  exact ⟨vn, vk, xs, F, hk.keep ho.size (fun k x y => ho.block k y (by omega)), own_keptO hn fun k hk => ho.block k (own_row_lt hn k hk).2 (by have := (own_row_lt hn k hk).1; omega), hm.heap ho.size (ho.block M hm.lt (by omega)), ⟨f1, (ho.block P (Array.getElem?_eq_some_iff.1 hp).1 (by omega)).trans hp⟩, ⟨f2, (ho.block PM (Array.getElem?_eq_some_iff.1 hpm).1 (by omega)).trans hpm⟩, h1, h2, h3, (ho.block R (Array.getElem?_eq_some_iff.1 h4).1 (by omega)).trans h4, h5, h6, h7⟩
theorem OJ.le {V P M PM R g B : Nat} {ns : List ByteArray} {ks : List Vl} {w : World} (h : OJ V P M PM R g B ns ks w) : B ≤ w.heap.size := by
  obtain ⟨vn, vk, xs, F, hk, _⟩ := h
  have := hk.lt
  have := hk.BV
  omega
theorem NA.append {g M V : Nat} {S : ByteArray} {d p q B : Nat} {D : Nat → Prop} {ns : List ByteArray} {t : ByteArray} {kk ss vn vk : Value} {ks : List Vl} {xs : List Value} {F : Nat → Prop} {W0 : World} {f4 f5 v' : Value} {X Y : World} (h : NA g M S d p q ns t W0 true true f4 f5 X) (hk : KJ V B D kk ss vn vk ks xs F W0) (hn : W0.ownsRow B 9 1 vn ns.length (ns.map Value.string)) (hm : NmAt M ns W0) (hgB : g < B) (hown : Y.ownsRow B 9 1 v' (ns.length + 1) (ns.map Value.string ++ [.string t])) (hgr : X.grownBy Y vn.ownBlock) (hloc : v'.ownBlock = vn.ownBlock ∨ v'.ownBlock = some X.heap.size) : NB g M V S d q B ns t kk ss vn vk W0 false v' Y := by
  obtain ⟨h1, h2, h3⟩ := h
  rw [if_pos rfl] at h2
  obtain ⟨_, hr, hnm⟩ := h2
  have hs1 := h1.size
  have hs2 := hgr.size
  have hgr0 : some g ≠ vn.ownBlock := fun e => by have := (own_row_lt hn g e.symm).1; omega
  have hMr : some M ≠ vn.ownBlock := fun e => row_nm hn hm e.symm
  have hVr : some V ≠ vn.ownBlock := fun e => row_ne hn hk.box (by decide) e.symm
  have hVM : V ≠ M := hm.ne hk.box
  have hVg : V ≠ g := by have := hk.BV; omega
  refine ⟨⟨(hgr.block g hr.lt hgr0).trans hr.row, hr.le⟩, hnm.heap hs2 (hgr.block M hnm.lt hMr), by rw [List.map_append]; exact hown, ?_, hloc.imp id (fun e => ⟨_, e, hs1⟩), ⟨hgr.os.trans h1.os, hgr.tape.trans h1.tape, hgr.output.trans h1.output, by omega, fun k a b c e f => (hgr.block k (by omega) f).trans (h1.block k a b c (by simp))⟩⟩
  exact (hgr.block V (by have := hk.lt; omega) hVr).trans ((h1.block V hk.lt hVg hVM (by simp)).trans hk.box)
/-- behind the first append -/
theorem NB.kj {g M V R : Nat} {S : ByteArray} {d q B : Nat} {ns : List ByteArray} {t : ByteArray} {kk ss vn vk : Value} {W0 : World} {f6 : Value} {X : World} {ks : List Vl} {xs : List Value} {F : Nat → Prop} (h : NB g M V S d q B ns t kk ss vn vk W0 true f6 X) (hk : KJ V B (fun k => some k = vn.ownBlock ∨ k = M ∨ k = R) kk ss vn vk ks xs F W0) (hn : W0.ownsRow B 9 1 vn ns.length (ns.map Value.string)) (hm : NmAt M ns W0) (hgB : g < B) : KJ V B (fun k => some k = f6.ownBlock ∨ k = M ∨ k = R) kk ss f6 vk ks xs F X := by
  have hb : ∀ k, B ≤ k → k < W0.heap.size → k ≠ M → k ≠ V → some k ≠ vn.ownBlock → X.heap[k]? = W0.heap[k]? := fun k a b c e f => h.kq.block k b (by omega) c e f
  have hs := h.kq.size
  refine ⟨own_keptO hk.own fun k hkk => ?_, KidsL.keep (fun _ x => x) (fun k hF hl => ?_) hs _ _ hk.kids, fun k hF => ?_, by simpa using h.box, hk.rowV, hk.BV⟩
  · obtain ⟨a, b⟩ := own_row_lt hk.own k hkk
    refine hb k a b (fun e => ?_) (fun e => hk.rowV (by rw [← e]; exact hkk)) (fun e => ?_)
    · subst e
      exact row_nm hk.own hm hkk
    · exact row_row hn hk.own (by decide) k hkk e.symm
  · obtain ⟨a, b, c, e, f⟩ := hk.fF k hF
    exact hb k a b (fun e => f (.inr (.inl e))) e (fun e => f (.inl e))
  · obtain ⟨a, b, c, e, f⟩ := hk.fF k hF
    refine ⟨a, by omega, c, e, ?_⟩
    rintro (x | x | x)
    · rcases h.loc with l | ⟨z, l, hz⟩
      · exact f (.inl (x.trans l))
      · rw [l] at x
        simp at x
        omega
    · exact f (.inr (.inl x))
    · exact f (.inr (.inr x))
set_option maxRecDepth 100000 in
set_option maxHeartbeats 16000000 in
theorem obj1_any (pq : Nat → Rv ByteArray) (val : Nat → Rv Vl) (g V P M PM R : Nat) (S : ByteArray) (d p B : Nat) (ns : List ByteArray) (ks : List Vl) (w : World) (h : Rr g S p d w) (ht : RwT w) (hj : OJ V P M PM R g B ns ks w) (hS : S.size ≤ 65536) (hn : ks.length ≤ 65536) (hnn : ns.length ≤ 65536) (hgB : g < B) (hg8 : g ≠ 6) (h8 : 6 < B)
    (hpl : ∀ a t b, pq a = .ok t b → t.size ≤ 65536)
    (hq : ∀ a X, Rr g S a d X → RwT X → Calls Tryz.prog 128 #[.pointer (some ⟨g, 0, none⟩)] X ((pq a).PostT g S d X))
    (hval : ∀ a X, Rr g S a d X → RwT X → Calls Tryz.prog 65 #[.pointer (some ⟨g, 0, none⟩)] X ((val a).PostV g S d X)) :
    Calls Tryz.prog 160 #[.pointer (some ⟨V, 0, none⟩), .pointer (some ⟨P, 0, none⟩), .pointer (some ⟨PM, 0, none⟩)] w ((objT pq val (Sums.bl S) (ns, ks) p).PostJ (fun s => OJ V P M PM R g B s.1 s.2) g S d B w) := by
  obtain ⟨vn, vk, xs, F, hk, hnr, hm, hbp, hbm, hBP, hBPM, hBM, hRB, hBR, hRV, hRW⟩ := hj
  obtain ⟨pn, cn, rfl⟩ := own_shape4 hnr
  obtain ⟨pb, cp, rfl⟩ := own_shape4 hk.own
  obtain ⟨nb0, t, q0, hnt⟩ : ∃ nb t q, (nb = false ∧ namP pq (Sums.bl S) ns p = .ok t q) ∨ (nb = true ∧ ∃ c z, namP pq (Sums.bl S) ns p = .no c z) := by
    cases namP pq (Sums.bl S) ns p with
    | ok v q => exact ⟨false, v, q, .inl ⟨rfl, rfl⟩⟩
    | no c z => exact ⟨true, ByteArray.empty, 0, .inr ⟨rfl, c, z, rfl⟩⟩
  have HKJ0 := Hid.mk' hk
  have HNR := Hid.mk' hnr
  have HM := Hid.mk' hm
  have HGB := Hid.mk' hgB
  have HLE := Hid.mk' hn
  have HLN := Hid.mk' hnn
  have HGV : Hid (g ≠ V) := Hid.mk' (by have := hk.BV; omega)
  have HRX := Hid.mk' (And.intro hRB (And.intro hBR (And.intro hRV hRW)))
  have HMV : Hid (M ≠ V) := Hid.mk' (Ne.symm (hm.ne hk.box))
  have HPB := Hid.mk' (And.intro hbp (And.intro hbm (And.intro hBP (And.intro hBPM hBM))))
  have HBX0 : Hid (∀ Z, Kp g M none w Z → Z.cell? ⟨V, 2, none⟩ = some (.slice pn ns.length cn) ∧ Z.cell? ⟨P, 0, none⟩ = some (.pointer (some ⟨g, 0, none⟩)) ∧ Z.cell? ⟨PM, 0, none⟩ = some (.map (some M)) ∧ RwT Z) := Hid.mk' fun Z hZ => by
    have hV := (hZ.block V hk.lt (by have := hk.BV; omega) (hm.ne hk.box) (by simp)).trans hk.box
    obtain ⟨fz, hb⟩ := hbp
    have hP := (hZ.block P (Array.getElem?_eq_some_iff.1 hb).1 (by omega) (hm.ne hb) (by simp)).trans hb
    obtain ⟨fz2, hb2⟩ := hbm
    have hP2 := (hZ.block PM (Array.getElem?_eq_some_iff.1 hb2).1 (by omega) (hm.ne hb2) (by simp)).trans hb2
    obtain ⟨t8, f8, hr8⟩ := ht.ex
    exact ⟨by simp [World.cell?, hV], by simp [World.cell?, hP], by simp [World.cell?, hP2], ⟨t8, f8, (hZ.block 6 ht.lt (Ne.symm hg8) (hm.ne hr8) (by simp)).trans hr8⟩⟩
  have HNM : Hid (∀ Z, Rr g S p d Z → RwT Z → NmAt M ns Z → (nb0 = false ∧ Calls Tryz.prog 161 #[.pointer (some ⟨g, 0, none⟩), .map (some M)] Z fun e w' => e = .returned (.string t) ∧ Rr g S q0 d w' ∧ NmAt M (ns ++ [t]) w' ∧ Kp g M none Z w') ∨ (∃ c z, namP pq (Sums.bl S) ns p = .no c z ∧ Calls Tryz.prog 161 #[.pointer (some ⟨g, 0, none⟩), .map (some M)] Z fun e w' => e = .panicked (flt c z) ∧ Kp g M none Z w')) := Hid.mk' fun Z h1 h2 h3 => by
    have hc := name_any pq g M S d p ns Z h1 h2 h3 hS hnn hg8 (by omega) hpl hq
    rcases hnt with ⟨hb, e⟩ | ⟨hb, c, z, e⟩
    · rw [e] at hc
      exact .inl ⟨hb, hc⟩
    · rw [e] at hc
      exact .inr ⟨c, z, e, hc⟩
  have HNT := Hid.mk' hnt
  have HVAL := Hid.mk' hval
  have HA00 : Hid (NA g M S d p q0 ns t w false false undef undef { w with drawn := w.drawn + 1 }) := Hid.mk' ⟨⟨rfl, rfl, rfl, Nat.le_refl _, fun _ _ _ _ _ => rfl⟩, (by rw [if_neg (by decide)]; exact ⟨⟨h.row, h.le⟩, hm.heap (Nat.le_refl _) rfl⟩), fun x => by cases x⟩
  have HON : Hid (∀ Z, Kp g M none w Z → Onb g B w Z) := Hid.mk' fun Z hZ => ⟨hZ.os, hZ.tape, hZ.output, hZ.size, fun k h1 h2 => hZ.block k (by have := hk.lt; have := hk.BV; omega) h2 (by omega) (by simp)⟩
  obtain ⟨r, hr⟩ : ∃ r, objT pq val (Sums.bl S) (ns, ks) p = r := ⟨_, rfl⟩
  rw [hr]
  have HRR : Hid (((namP pq (Sums.bl S) ns p).bind fun t q => (val q).bind fun v z => Rv.ok (ns ++ [t], ks ++ [v]) z) = r) := Hid.mk' hr
  have HG8 := Hid.mk' (And.intro hg8 (And.intro h8 ht))
  clear hval hnt hk hRB hBR hRV hRW hbp hbm hn hnn hgB hg8 ht h hBP hBPM hBM hnr hm hq hpl hS hr h8
  go_enter Tryz.func160, Tryz.ntmps160
  refine wp_seq ?_
  refine (wpIn_wide (n := 6)).1 ?_
  refine region_rel (by kernel_rfl) (fun zz => { tmps := #[.pointer (some ⟨V, 0, none⟩), .pointer (some ⟨P, 0, none⟩), .pointer (some ⟨PM, 0, none⟩), zz 0, zz 1, zz 2, zz 3, zz 4, zz 5, zz 6, zz 7, undef, undef, undef, undef, undef, undef, undef, undef, undef], defers := [] }) (fun _ => undef) _ (fun L zz Z => NI g M V S d p q0 B ns t (.int .i64 7) (.string ByteArray.empty) (.slice pn ns.length cn) (.slice pb ks.length cp) w L zz Z ∧ (nb0 = true → L 4 = false)) (fun L' hL => ⟨⟨fun x => (by rw [hL] at x; cases x), fun x => (by rw [hL] at x; cases x), fun x => (by rw [hL] at x; cases x), fun x => (by rw [hL] at x; cases x), fun x => (by rw [hL] at x; cases x), fun x => (by rw [hL] at x; cases x), fun x => (by rw [hL] at x; cases x), ⟨fun x => (by rw [hL] at x; cases x), fun x => (by rw [hL] at x; cases x)⟩, fun _ => ⟨⟨hL _, hL _⟩, by rw [hL, hL]; exact HA00.out⟩, fun x => (by rw [hL] at x; cases x)⟩, fun _ => hL _⟩) (deps_of' (by kernel_rfl)) ?_ ?_
  · intro L zz Z hII i0 hi0 hL op ho hdone KK hKK
    have hlt : i0 < 9 := hi0
    obtain ⟨hI, hNB⟩ := hII
    have hnb : ∀ i, i ≠ 4 → ∀ L2 : Nat → Bool, (∀ k, L2 k = if k = i then true else L k) → nb0 = true → L2 4 = false := fun i hi L2 h2 h => by rw [h2, if_neg (Ne.symm hi)]; exact hNB h
    have h6f : ∀ k, k < 6 → L k = false → L 6 = false := fun k hk hl => by
      cases h6 : L 6
      · rfl
      · rw [hI.e6 h6 k hk] at hl
        cases hl
    rcases (show i0 = 0 ∨ i0 = 1 ∨ i0 = 2 ∨ i0 = 3 ∨ i0 = 4 ∨ i0 = 5 ∨ i0 = 6 ∨ i0 = 7 ∨ i0 = 8 by omega) with rfl | rfl | rfl | rfl | rfl | rfl | rfl | rfl | rfl
    · have h6 := h6f 0 (by decide) hL
      simp at ho; subst ho
      have hKX := hKK (.pointer (some ⟨V, 2, none⟩)) Z (fun L2 h2 => ⟨hI.s0 h6 rfl L2 h2, hnb 0 (by decide) L2 h2⟩)
      simp [wpOpIn, Region.wanted, yielded, Oper.wpIn, Oper.semAt_eq, execOp, Oper.uponIn, go_sem]
      first | exact hKX | (simp [upd] at hKX; exact hKX) | (simp [upd] at hKX ⊢; exact hKX)
    · have h6 := h6f 1 (by decide) hL
      simp at ho; subst ho; simp [Region.binds] at hdone
      have e0 := hI.e0 hdone
      have c3 := (HBX0.out Z (hI.m1 h6).2.1).1
      have hKX := hKK (.slice pn ns.length cn) Z (fun L2 h2 => ⟨hI.s1 h6 rfl hdone L2 h2, hnb 1 (by decide) L2 h2⟩)
      simp [wpOpIn, Region.wanted, yielded, Oper.wpIn, Oper.semAt_eq, execOp, Oper.uponIn, go_sem, e0, c3]
      first | exact hKX | (simp [upd, e0, c3] at hKX; exact hKX) | (simp [upd, e0, c3] at hKX ⊢; exact hKX)
    · have h6 := h6f 2 (by decide) hL
      simp at ho; subst ho
      have c3 := (HBX0.out Z (hI.m1 h6).2.1).2.1
      have hKX := hKK (.pointer (some ⟨g, 0, none⟩)) Z (fun L2 h2 => ⟨hI.s2 h6 rfl L2 h2, hnb 2 (by decide) L2 h2⟩)
      simp [wpOpIn, Region.wanted, yielded, Oper.wpIn, Oper.semAt_eq, execOp, Oper.uponIn, go_sem, c3]
      first | exact hKX | (simp [upd, c3] at hKX; exact hKX) | (simp [upd, c3] at hKX ⊢; exact hKX)
    · have h6 := h6f 3 (by decide) hL
      simp at ho; subst ho
      have c3 := (HBX0.out Z (hI.m1 h6).2.1).2.2.1
      have hKX := hKK (.map (some M)) Z (fun L2 h2 => ⟨hI.s3 h6 rfl L2 h2, hnb 3 (by decide) L2 h2⟩)
      simp [wpOpIn, Region.wanted, yielded, Oper.wpIn, Oper.semAt_eq, execOp, Oper.uponIn, go_sem, c3]
      first | exact hKX | (simp [upd, c3] at hKX; exact hKX) | (simp [upd, c3] at hKX ⊢; exact hKX)
    · have h6 := h6f 4 (by decide) hL
      simp at ho; subst ho; simp [Region.binds] at hdone
      have e2 := hI.e2 (by simp [hdone])
      have e3 := hI.e3 (by simp [hdone])
      have hA := (hI.m1 h6).2
      have hA1 := hA.1
      have hR1 : Rr g S p d Z ∧ NmAt M ns Z := by
        obtain ⟨_, h9, _⟩ := hA
        rw [hL, if_neg (by decide)] at h9
        exact h9
      simp [wpOpIn, Region.wanted, yielded, Oper.wpIn, Oper.semAt_eq, execOp, Oper.uponIn, go_sem, e2, e3]
      refine ⟨trivial, ?_⟩
      rcases HNM.out Z hR1.1 (HBX0.out Z hA1).2.2.2 hR1.2 with ⟨hnbf, hc⟩ | ⟨c, z, hrn, hc⟩
      · refine CallsIn.mono (callsIn_wide.2 hc) ?_
        rintro e Y ⟨rfl, hr2, hm2, ho2⟩
        have hKX := hKK (.string t) Y (fun L2 h2 => ⟨hI.s4 h6 ⟨by simp [hdone], by simp [hdone]⟩ rfl (fun hy => by rw [hL] at hy; exact hy.call hr2 hm2 ho2) L2 h2, fun hh => by rw [hnbf] at hh; cases hh⟩)
        first | exact hKX | (simp [upd, e2, e3] at hKX; exact hKX) | (simp [upd, e2, e3] at hKX ⊢; exact hKX)
      · refine CallsIn.mono (callsIn_wide.2 hc) ?_
        rintro e Y ⟨rfl, ho2⟩
        have hR := HRR.out
        rw [hrn] at hR
        have hr2 : Rv.no c z = r := hR
        subst hr2
        exact ⟨rfl, rfl, HON.out Y (hA1.trans ho2)⟩
    · have h6 := h6f 5 (by decide) hL
      simp at ho; subst ho; simp [Region.binds] at hdone
      have h4 : L 4 = true := by simp [hdone]
      have e4 : zz 4 = .string t := by
        obtain ⟨_, h9, _⟩ := (hI.m1 h6).2
        rw [h4, if_pos rfl] at h9
        exact h9.1
      have hKX := hKK (.slice (some ⟨Z.heap.size, 0, none⟩) 1 1) (Z.alloc (.cells #[.string t] 9)) (fun L2 h2 => ⟨hI.s5 h6 (fun hy => by rw [h4] at hy ⊢; exact hy.build) L2 h2, hnb 5 (by decide) L2 h2⟩)
      have hbz := build_str t Z
      simp [wpOpIn, Region.wanted, yielded, Oper.wpIn, Oper.semAt_eq, execOp, Oper.uponIn, go_sem, e4, hbz]
      first | exact hKX | (simp [upd, e4] at hKX; exact hKX) | (simp [upd, e4] at hKX ⊢; exact hKX)
    · simp at ho; subst ho; simp [Region.binds] at hdone
      have hall : ∀ k, k < 6 → L k = true := fun k hk => by
        have k1 : L 1 = true := by simp [hdone]
        have k4 : L 4 = true := by simp [hdone]
        have k5 : L 5 = true := by simp [hdone]
        rcases (show k = 0 ∨ k = 1 ∨ k = 2 ∨ k = 3 ∨ k = 4 ∨ k = 5 by omega) with rfl | rfl | rfl | rfl | rfl | rfl
        · exact hI.dd.1 k1
        · exact k1
        · exact (hI.dd.2 k4).1
        · exact (hI.dd.2 k4).2
        · exact k4
        · exact k5
      have e1 := hI.e1 (hall 1 (by decide))
      have hA := (hI.m1 hL).2
      rw [hall 4 (by decide), hall 5 (by decide)] at hA
      obtain ⟨x1, x3, x4⟩ := hA
      obtain ⟨_, b5, e5, y1, y2, y3⟩ := x4 rfl
      obtain ⟨v', Y, a1, a2, a3, a4⟩ := append_str Z B (.slice pn ns.length cn) ns.length (ns.map Value.string) t (own_keptO HNR.out fun k hk => x1.block k (own_row_lt HNR.out k hk).2 (by have := (own_row_lt HNR.out k hk).1; have := HGB.out; omega) (fun e => row_nm HNR.out HM.out (by rw [← e]; exact hk)) (by simp)) b5 y3 HLN.out (by have := x1.size; have := HKJ0.out.lt; have := HKJ0.out.BV; omega) 36
      have hKX := hKK v' Y (fun L2 h2 => ⟨hI.s6 hL hall (fun hy => by rw [hall 4 (by decide), hall 5 (by decide)] at hy; exact hy.append HKJ0.out HNR.out HM.out HGB.out a2 a3 a4) L2 h2, hnb 6 (by decide) L2 h2⟩)
      simp [wpOpIn, Region.wanted, yielded, Oper.wpIn, Oper.semAt_eq, execOp, Oper.uponIn, resolve, invoke, builtin, Act.eval, Act.put, e1, e5, a1]
      refine ⟨fun _ _ => trivial, ?_⟩
      first | exact hKX | (simp [upd, e1, e5] at hKX; exact hKX) | (simp [upd, e1, e5] at hKX ⊢; exact hKX)
    · simp at ho; subst ho; simp [Region.binds] at hdone
      have h6 : L 6 = true := by simp [hdone]
      have hKX := hKK (.pointer (some ⟨V, 2, none⟩)) Z (fun L2 h2 => ⟨hI.s7 h6 rfl L2 h2, hnb 7 (by decide) L2 h2⟩)
      simp [wpOpIn, Region.wanted, yielded, Oper.wpIn, Oper.semAt_eq, execOp, Oper.uponIn, go_sem]
      first | exact hKX | (simp [upd] at hKX; exact hKX) | (simp [upd] at hKX ⊢; exact hKX)
    · simp at ho; subst ho; simp [Region.binds] at hdone
      have h7 : L 7 = true := by simp [hdone]
      have h6 : L 6 = true := by
        cases h6 : L 6
        · rw [(hI.m1 h6).1.1] at h7; cases h7
        · rfl
      have e7 := hI.e7 h7
      have hB := hI.m2 h6
      obtain ⟨pf, cf, e6⟩ := own_shape4 hB.own
      have hbx := hB.box
      rw [hL] at hbx
      have u3 : Z.cell? ⟨V, 2, none⟩ = some (.slice pn ns.length cn) := by simp [World.cell?, hbx]
      have v3 : Z.frozen? ⟨V, 2, none⟩ = false := by simp [World.frozen?, hbx]
      have hKX := hKK undef (Z.setCell ⟨V, 2, none⟩ (zz 6)) (fun L2 h2 => ⟨hI.s8 h6 (fun hy => hy.hang HGV.out HMV.out) L2 h2, hnb 8 (by decide) L2 h2⟩)
      rw [e6] at hKX
      simp [wpOpIn, Region.wanted, yielded, Oper.wpIn, Oper.semAt_eq, execOp, Oper.uponIn, go_sem, e6, e7, u3, v3]
      first | exact hKX | (simp [upd, e6, e7] at hKX; exact hKX) | (simp [upd, e6, e7] at hKX ⊢; exact hKX)
  · intro L zz w1 hall hII
    obtain ⟨hI, hNB⟩ := hII
    have hnbf : nb0 = false := by
      cases hb : nb0
      · rfl
      · have := hNB hb
        rw [hall 4 (by decide)] at this
        cases this
    have hB := hI.m2 (hall 6 (by decide))
    rw [hall 8 (by decide)] at hB
    have e0 := hI.e0 (hall 0 (by decide))
    have e1 := hI.e1 (hall 1 (by decide))
    have e2 := hI.e2 (hall 2 (by decide))
    have e3 := hI.e3 (hall 3 (by decide))
    have e7 := hI.e7 (hall 7 (by decide))
    have e4 := hI.e4 (hall 4 (by decide))
    simp only [e0, e1, e2, e3, e4, e7]
    generalize zz 5 = s5
    generalize zz 6 = s6 at hB ⊢
    have HB := Hid.mk' hB
    clear hI hNB hall e0 e1 e2 e3 e4 e7
    obtain ⟨_, hnt2⟩ : nb0 = false ∧ namP pq (Sums.bl S) ns p = .ok t q0 := by
      rcases HNT.out with hh | ⟨hh, _⟩
      · exact hh
      · rw [hnbf] at hh; cases hh
    have HR1 : Hid (((val q0).bind fun v z => Rv.ok (ns ++ [t], ks ++ [v]) z) = r) := Hid.mk' (by have := HRR.out; rw [hnt2] at this; exact this)
    obtain ⟨nb, v, q, hnv⟩ : ∃ nb v q, (nb = false ∧ val q0 = .ok v q) ∨ (nb = true ∧ ∃ c z, val q0 = .no c z) := by
      cases val q0 with
      | ok v q => exact ⟨false, v, q, .inl ⟨rfl, rfl⟩⟩
      | no c z => exact ⟨true, .mk 0 ByteArray.empty [] [], 0, .inr ⟨rfl, c, z, rfl⟩⟩
    have HNV := Hid.mk' hnv
    have HKJ := Hid.mk' (hB.kj HKJ0.out HNR.out HM.out HGB.out)
    have HGW : Hid (g < w1.heap.size) := Hid.mk' hB.rr.lt
    have HDD : Hid (∀ k : Nat, (fun k => some k = s6.ownBlock ∨ k = M ∨ k = R : Nat → Prop) k → k < w1.heap.size) := Hid.mk' fun k hk => by
      rcases hk with e | rfl | rfl
      · exact (own_row_lt hB.own k e.symm).2
      · exact hB.nm.lt
      · have := (Array.getElem?_eq_some_iff.1 HRX.out.1).1; have := hB.kq.size; omega
    have HBP : Hid (BoxP P g w1 ∧ BoxM PM M w1) := Hid.mk' (by
      obtain ⟨⟨fz, hb⟩, ⟨fz2, hb2⟩, x1, x2, x3⟩ := HPB.out
      have := HGB.out
      have hV := HKJ0.out.box
      have n1 : P ≠ V := fun e => by subst e; rw [hb] at hV; simp at hV
      have n2 : PM ≠ V := fun e => by subst e; rw [hb2] at hV; simp at hV
      exact ⟨⟨fz, (hB.kq.block P (Array.getElem?_eq_some_iff.1 hb).1 (by omega) (HM.out.ne hb) n1 (fun e => row_ne HNR.out hb (by decide) e.symm)).trans hb⟩, ⟨fz2, (hB.kq.block PM (Array.getElem?_eq_some_iff.1 hb2).1 (by omega) (HM.out.ne hb2) n2 (fun e => row_ne HNR.out hb2 (by decide) e.symm)).trans hb2⟩⟩)
    have HO1 : Hid (Onb g B w w1) := Hid.mk' ⟨hB.kq.os, hB.kq.tape, hB.kq.output, hB.kq.size, fun k h1 h2 => hB.kq.block k (by have := HKJ0.out.lt; have := HKJ0.out.BV; omega) h2 (by have := HPB.out.2.2.2.2; omega) (by have := HKJ0.out.BV; omega) (fun e => by have := (own_row_lt HNR.out k e.symm).1; omega)⟩
    have HBX : Hid (∀ Z, Only g w1 Z → Z.cell? ⟨V, 3, none⟩ = some (.slice pb ks.length cp) ∧ Z.cell? ⟨P, 0, none⟩ = some (.pointer (some ⟨g, 0, none⟩)) ∧ RwT Z) := Hid.mk' fun Z hZ => by
      have hV := (hZ.block V HKJ.out.lt (Ne.symm HGV.out)).trans HKJ.out.box
      obtain ⟨fz, hb⟩ := HBP.out.1
      have hP := (hZ.block P (Array.getElem?_eq_some_iff.1 hb).1 (by have := HGB.out; have := HPB.out.2.2.1; omega)).trans hb
      exact ⟨by simp [World.cell?, hV], by simp [World.cell?, hP], (HG8.out.2.2.onb HO1.out HG8.out.1 HG8.out.2.1).only hZ HG8.out.1⟩
    have HVV : Hid (∀ Z, Rr g S q0 d Z → RwT Z → (nb = false ∧ Calls Tryz.prog 65 #[.pointer (some ⟨g, 0, none⟩)] Z fun e w' => ∃ cs, e = .returned (.agg cs) ∧ Rr g S q d w' ∧ Only g Z w' ∧ ∃ F : Nat → Prop, (∀ k, F k → Z.heap.size ≤ k ∧ k < w'.heap.size) ∧ VlAt F w' v cs) ∨ (∃ c z, val q0 = .no c z ∧ Calls Tryz.prog 65 #[.pointer (some ⟨g, 0, none⟩)] Z fun e w' => e = .panicked (flt c z) ∧ Only g Z w')) := Hid.mk' fun Z h1 h2 => by
      have hc := HVAL.out q0 Z h1 h2
      rcases hnv with ⟨hb, e⟩ | ⟨hb, c, z, e⟩
      · rw [e] at hc
        exact .inl ⟨hb, hc⟩
      · rw [e] at hc
        exact .inr ⟨c, z, e, hc⟩
    have HA0 : Hid (PhA g S d q0 q v w1 false false undef undef { w1 with drawn := w1.drawn + 1 }) := Hid.mk' ⟨⟨rfl, rfl, rfl, Nat.le_refl _, fun _ _ _ => rfl⟩, fun _ => False, fun _ hf => hf.elim, (by rw [if_neg (by decide)]; exact ⟨hB.rr.row, hB.rr.le⟩), fun x => by cases x⟩
    clear hB hnv
    show Code.wp _ _ _ _ _
    refine (wpIn_wide (n := 6)).1 ?_
    refine region_rel (by kernel_rfl) (fun zz => { tmps := #[.pointer (some ⟨V, 0, none⟩), .pointer (some ⟨P, 0, none⟩), .pointer (some ⟨PM, 0, none⟩), .pointer (some ⟨V, 2, none⟩), .slice pn ns.length cn, .pointer (some ⟨g, 0, none⟩), .map (some M), .string t, s5, s6, .pointer (some ⟨V, 2, none⟩), zz 0, zz 1, zz 2, zz 3, zz 4, zz 5, zz 6, zz 7, zz 9], defers := [] }) (fun _ => undef) _ (fun L zz Z => KI g V S d q0 q B (fun k => some k = s6.ownBlock ∨ k = M ∨ k = R) v ks xs (.int .i64 7) (.string ByteArray.empty) s6 (.slice pb ks.length cp) w1 L zz Z ∧ (nb = true → L 3 = false)) (fun L' hL => ⟨⟨fun x => (by rw [hL] at x; cases x), fun x => (by rw [hL] at x; cases x), fun x => (by rw [hL] at x; cases x), fun x => (by rw [hL] at x; cases x), fun x => (by rw [hL] at x; cases x), fun x => (by rw [hL] at x; cases x), fun x => (by rw [hL] at x; cases x), fun _ => ⟨⟨hL _, hL _, hL _, hL _⟩, by rw [hL, hL]; exact HA0.out⟩, fun x => (by rw [hL] at x; cases x)⟩, fun _ => hL _⟩) (deps_of' (by kernel_rfl)) ?_ ?_
    · intro L zz Z hII i0 hi0 hL op ho hdone KK hKK
      have hlt : i0 < 11 := hi0
      obtain ⟨hI, hNB⟩ := hII
      have hnb : ∀ i, i ≠ 3 → ∀ L2 : Nat → Bool, (∀ k, L2 k = if k = i then true else L k) → nb = true → L2 3 = false := fun i hi L2 h2 h => by rw [h2, if_neg (Ne.symm hi)]; exact hNB h
      have h6f : ∀ k, k < 6 → L k = false → L 6 = false := fun k hk hl => by
        cases h6 : L 6
        · rfl
        · rw [(hI.e6 h6).1 k hk] at hl
          cases hl
      rcases (show i0 = 0 ∨ i0 = 1 ∨ i0 = 2 ∨ i0 = 3 ∨ i0 = 4 ∨ i0 = 5 ∨ i0 = 6 ∨ i0 = 7 ∨ i0 = 8 ∨ i0 = 9 ∨ i0 = 10 by omega) with rfl | rfl | rfl | rfl | rfl | rfl | rfl | rfl | rfl | rfl | rfl
      · have h6 := h6f 0 (by decide) hL
        simp at ho; subst ho
        have hKX := hKK (.pointer (some ⟨V, 3, none⟩)) Z (fun L2 h2 => ⟨hI.s0 h6 rfl L2 h2, hnb 0 (by decide) L2 h2⟩)
        simp [wpOpIn, Region.wanted, yielded, Oper.wpIn, Oper.semAt_eq, execOp, Oper.uponIn, go_sem]
        first | exact hKX | (simp [upd] at hKX; exact hKX) | (simp [upd] at hKX ⊢; exact hKX)
      · have h6 := h6f 1 (by decide) hL
        simp at ho; subst ho; simp [Region.binds] at hdone
        obtain ⟨_, ho9, F9, hF9, hr9, h59⟩ := hI.m1 h6
        have e0 := hI.e0 hdone
        have c3 := (HBX.out Z ho9).1
        have hKX := hKK (.slice pb ks.length cp) Z (fun L2 h2 => ⟨hI.s1 h6 rfl L2 h2, hnb 1 (by decide) L2 h2⟩)
        simp [wpOpIn, Region.wanted, yielded, Oper.wpIn, Oper.semAt_eq, execOp, Oper.uponIn, go_sem, e0, c3]
        first | exact hKX | (simp [upd, e0, c3] at hKX; exact hKX) | (simp [upd, e0, c3] at hKX ⊢; exact hKX)
      · have h6 := h6f 2 (by decide) hL
        simp at ho; subst ho
        obtain ⟨_, ho9, F9, hF9, hr9, h59⟩ := hI.m1 h6
        have cp0 := (HBX.out Z ho9).2.1
        have hKX := hKK (.pointer (some ⟨g, 0, none⟩)) Z (fun L2 h2 => ⟨hI.s2 h6 rfl L2 h2, hnb 2 (by decide) L2 h2⟩)
        simp [wpOpIn, Region.wanted, yielded, Oper.wpIn, Oper.semAt_eq, execOp, Oper.uponIn, go_sem, cp0]
        first | exact hKX | (simp [upd, cp0] at hKX; exact hKX) | (simp [upd, cp0] at hKX ⊢; exact hKX)
      · have h6 := h6f 3 (by decide) hL
        simp at ho; subst ho; simp [Region.binds] at hdone
        have e2 := hI.e2 hdone
        have hA := (hI.m1 h6).2
        have hA1 := hA.1
        have hR1 : Rr g S q0 d Z := by
          obtain ⟨_, F9, _, h9, _⟩ := hA
          rw [hL, if_neg (by decide)] at h9
          exact h9
        simp [wpOpIn, Region.wanted, yielded, Oper.wpIn, Oper.semAt_eq, execOp, Oper.uponIn, go_sem, e2]
        refine ⟨trivial, ?_⟩
        rcases HVV.out Z hR1 (HBX.out Z hA1).2.2 with ⟨hnbf, hc⟩ | ⟨c, z, hrn, hc⟩
        · refine CallsIn.mono (callsIn_wide.2 hc) ?_
          rintro e Y ⟨cs, rfl, hr2, ho2, hv2⟩
          have hKX := hKK (.agg cs) Y (fun L2 h2 => ⟨hI.s3 h6 (fun hy => by rw [hL] at hy; exact hy.call HGW.out cs hr2 ho2 hv2) L2 h2, fun hh => by rw [hnbf] at hh; cases hh⟩)
          first | exact hKX | (simp [upd, e2] at hKX; exact hKX) | (simp [upd, e2] at hKX ⊢; exact hKX)
        · refine CallsIn.mono (callsIn_wide.2 hc) ?_
          rintro e Y ⟨rfl, ho2⟩
          have hR := HR1.out
          rw [hrn] at hR
          have hr2 : Rv.no c z = r := hR
          subst hr2
          exact ⟨rfl, rfl, HO1.out.trans ((hA1.trans ho2).onb (by have := HKJ.out.lt; have := HKJ.out.BV; omega))⟩
      · have h6 := h6f 4 (by decide) hL
        simp at ho; subst ho; simp [Region.binds] at hdone
        obtain ⟨_, ho9, F9, hF9, hr9, h59⟩ := hI.m1 h6
        have e1 := hI.e1 hdone
        have hKX := hKK (.int .i64 (ks.length : Int)) Z (fun L2 h2 => ⟨hI.s4 h6 rfl L2 h2, hnb 4 (by decide) L2 h2⟩)
        simp [wpOpIn, Region.wanted, yielded, Oper.wpIn, Oper.semAt_eq, execOp, Oper.uponIn, go_sem, e1]
        first | exact hKX | (simp [upd, e1] at hKX; exact hKX) | (simp [upd, e1] at hKX ⊢; exact hKX)
      · have h6 := h6f 5 (by decide) hL
        simp at ho; subst ho
        have hKX := hKK (.slice (some ⟨Z.heap.size, 0, none⟩) 1 1) (Z.alloc (.cells zr4 41)) (fun L2 h2 => ⟨hI.s5 h6 (fun hy => hy.build HGW.out) L2 h2, hnb 5 (by decide) L2 h2⟩)
        have hbz := build_zero Z
        simp only [zr4] at hbz
        simp [wpOpIn, Region.wanted, yielded, Oper.wpIn, Oper.semAt_eq, execOp, Oper.uponIn, go_sem, hbz]
        first | exact hKX | (simp [upd] at hKX; exact hKX) | (simp [upd] at hKX ⊢; exact hKX)
      · simp at ho; subst ho; simp [Region.binds] at hdone
        have hall : ∀ k, k < 6 → L k = true := fun k hk => by
          rcases (show k = 0 ∨ k = 1 ∨ k = 2 ∨ k = 3 ∨ k = 4 ∨ k = 5 by omega) with rfl | rfl | rfl | rfl | rfl | rfl <;> simp [hdone]
        have e1 := hI.e1 (hall 1 (by decide))
        have hA := (hI.m1 hL).2
        rw [hall 3 (by decide), hall 5 (by decide)] at hA
        obtain ⟨x1, F9, x2, x3, x4⟩ := hA
        obtain ⟨b5, e5, y1, y2, y3, y4⟩ := x4 rfl
        obtain ⟨v', Y, a1, a2, a3, a4⟩ := append_zero Z B (.slice pb ks.length cp) ks.length xs (own_keptO HKJ.out.own fun k hk => x1.block k (own_row_lt HKJ.out.own k hk).2 (by have := (own_row_lt HKJ.out.own k hk).1; have := HGB.out; omega)) b5 y3 HLE.out (by have := x1.size; have := HKJ.out.lt; have := HKJ.out.BV; omega) 39
        obtain ⟨g', cap, rfl, q1, q2, q3, q4⟩ := own4_open a2
        have hKX := hKK (.slice (some ⟨g', 0, none⟩) (ks.length + 1) cap) Y (fun L2 h2 => ⟨hI.s6 hL hall ⟨g', cap, rfl, (by rcases a4 with e | e; exact .inl e; exact .inr (by have e9 : g' = Z.heap.size := (by simpa [Value.ownBlock] using e); have := x1.size; omega))⟩ (fun hy => by rw [hall 3 (by decide), hall 5 (by decide)] at hy; exact hy.append HKJ.out HGB.out HDD.out a2 a3 a4) L2 h2, hnb 6 (by decide) L2 h2⟩)
        simp [wpOpIn, Region.wanted, yielded, Oper.wpIn, Oper.semAt_eq, execOp, Oper.uponIn, resolve, invoke, builtin, Act.eval, Act.put, e1, e5, a1]
        refine ⟨fun _ _ => trivial, ?_⟩
        first | exact hKX | (simp [upd, e1, e5] at hKX; exact hKX) | (simp [upd, e1, e5] at hKX ⊢; exact hKX)
      · simp at ho; subst ho; simp [Region.binds] at hdone
        have h6 : L 6 = true := by simp [hdone]
        obtain ⟨hall, g', cap, e6, hloc⟩ := hI.e6 h6
        have e4 := hI.e4 (hall 4 (by decide))
        have hix := idx_last g' ks.length cap Z HLE.out
        have hKX := hKK (.pointer (some ⟨g', ks.length * 4, none⟩)) Z (fun L2 h2 => ⟨hI.s7 h6 ⟨g', cap, e6, rfl⟩ L2 h2, hnb 7 (by decide) L2 h2⟩)
        simp [wpOpIn, Region.wanted, yielded, Oper.wpIn, Oper.semAt_eq, execOp, Oper.uponIn, go_sem, e4, e6, hix]
        first | exact hKX | (simp [upd, e4, e6] at hKX; exact hKX) | (simp [upd, e4, e6] at hKX ⊢; exact hKX)
      · simp at ho; subst ho; simp [Region.binds] at hdone
        have h7 : L 7 = true := by simp [hdone]
        have h6 : L 6 = true := by
          cases h6 : L 6
          · rw [(hI.m1 h6).1.1] at h7; cases h7
          · rfl
        obtain ⟨hall, g', cap, e6, hloc⟩ := hI.e6 h6
        obtain ⟨g2, cap2, e62, e7⟩ := hI.e7 h7
        obtain ⟨rfl, rfl⟩ : g2 = g' ∧ cap2 = cap := by rw [e6] at e62; simp at e62; omega
        have hB := hI.m2 h6
        have hB2 := hB
        rw [hL, e6] at hB
        obtain ⟨F9, g9, cap9, a, b, c, e, e3, t6, _, _, tv, _, _, _, _, t10, _⟩ := hB
        obtain ⟨xk, xt, pn, nn, cn, pk, nk, ck, hform⟩ := tv.form
        obtain ⟨rfl, rfl, rfl, rfl⟩ : a = .int .i64 xk ∧ b = .string xt ∧ c = .slice pn nn cn ∧ e = .slice pk nk ck := by simpa using hform
        obtain ⟨rfl, rfl⟩ : g9 = g2 ∧ cap9 = cap2 := by simp at t6; omega
        simp only [Bool.false_eq_true, if_false] at t10
        obtain ⟨g8, cap8, t8, _, _, _, hcl, hfz⟩ := own4_open t10
        obtain ⟨rfl, rfl⟩ : g8 = g9 ∧ cap8 = cap9 := by simp at t8; omega
        have hxl : xs.length = ks.length * 4 := HKJ.out.own.1
        have u0 : Z.cell? ⟨g8, ks.length * 4, none⟩ = some (.int .i64 0) := hcl _ _ (by rw [← hxl]; simp)
        have u1 : Z.cell? ⟨g8, ks.length * 4 + 1, none⟩ = some (.string ByteArray.empty) := hcl _ _ (by rw [← hxl]; simp)
        have u2 : Z.cell? ⟨g8, ks.length * 4 + 2, none⟩ = some (.slice none 0 0) := hcl _ _ (by rw [← hxl]; simp)
        have u3 : Z.cell? ⟨g8, ks.length * 4 + 3, none⟩ = some (.slice none 0 0) := hcl _ _ (by rw [← hxl]; simp)
        have v0 : Z.frozen? ⟨g8, ks.length * 4, none⟩ = false := hfz _ (by omega)
        have v1 : Z.frozen? ⟨g8, ks.length * 4 + 1, none⟩ = false := hfz _ (by omega)
        have v2 : Z.frozen? ⟨g8, ks.length * 4 + 2, none⟩ = false := hfz _ (by omega)
        have v3 : Z.frozen? ⟨g8, ks.length * 4 + 3, none⟩ = false := hfz _ (by omega)
        have hKX := hKK undef (put4 Z g8 (ks.length * 4) (.int .i64 xk) (.string xt) (.slice pn nn cn) (.slice pk nk ck)) (fun L2 h2 => ⟨hI.s8 h6 (fun hy => by rw [e3, e6] at hy ⊢; exact hy.put HGB.out hxl hloc) L2 h2, hnb 8 (by decide) L2 h2⟩)
        unfold put4 at hKX
        simp [wpOpIn, Region.wanted, yielded, Oper.wpIn, Oper.semAt_eq, execOp, Oper.uponIn, go_sem, e3, e7, u0, u1, u2, u3, v0, v1, v2, v3]
        first | exact hKX | (simp [upd, e3, e7] at hKX; exact hKX) | (simp [upd, e3, e7] at hKX ⊢; exact hKX)
      · simp at ho; subst ho; simp [Region.binds] at hdone
        have h6 : L 6 = true := by simp [hdone]
        have hKX := hKK (.pointer (some ⟨V, 3, none⟩)) Z (fun L2 h2 => ⟨hI.s9 h6 rfl L2 h2, hnb 9 (by decide) L2 h2⟩)
        simp [wpOpIn, Region.wanted, yielded, Oper.wpIn, Oper.semAt_eq, execOp, Oper.uponIn, go_sem]
        first | exact hKX | (simp [upd] at hKX; exact hKX) | (simp [upd] at hKX ⊢; exact hKX)
      · simp at ho; subst ho; simp [Region.binds] at hdone
        have h9 : L 9 = true := by simp [hdone]
        have h6 : L 6 = true := by
          cases h6 : L 6
          · rw [(hI.m1 h6).1.2.2.1] at h9; cases h9
          · rfl
        obtain ⟨hall, g', cap, e6, hloc⟩ := hI.e6 h6
        have e9 := hI.e9 h9
        have hB := hI.m2 h6
        rw [hL] at hB
        obtain ⟨_, _, _, _, _, _, _, _, _, _, _, _, _, _, _, _, _, t11⟩ := hB
        have u3 : Z.cell? ⟨V, 3, none⟩ = some (.slice pb ks.length cp) := by simp [World.cell?, t11]
        have v3 : Z.frozen? ⟨V, 3, none⟩ = false := by simp [World.frozen?, t11]
        have hKX := hKK undef (Z.setCell ⟨V, 3, none⟩ (zz 6)) (fun L2 h2 => ⟨hI.s10 h6 (fun hy => hy.hang HGV.out) L2 h2, hnb 10 (by decide) L2 h2⟩)
        rw [e6] at hKX
        simp [wpOpIn, Region.wanted, yielded, Oper.wpIn, Oper.semAt_eq, execOp, Oper.uponIn, go_sem, e6, e9, u3, v3]
        first | exact hKX | (simp [upd, e6, e9] at hKX; exact hKX) | (simp [upd, e6, e9] at hKX ⊢; exact hKX)
    · intro L zz Z hall hII
      obtain ⟨hI, hNB⟩ := hII
      have hnbf : nb = false := by
        cases hb : nb
        · rfl
        · have := hNB hb
          rw [hall 3 (by decide)] at this
          cases this
      have hB := hI.m2 (hall 6 (by decide))
      rw [hall 8 (by decide), hall 10 (by decide)] at hB
      obtain ⟨hkp, hr2, xs2, F2, hk2⟩ := hB.done HKJ.out.BV
      obtain ⟨_, hnv2⟩ : nb = false ∧ val q0 = .ok v q := by
        rcases HNV.out with hh | ⟨hh, _⟩
        · exact hh
        · rw [hnbf] at hh; cases hh
      have hR := HR1.out
      rw [hnv2] at hR
      have hr3 : Rv.ok (ns ++ [t], ks ++ [v]) q = r := hR
      subst hr3
      have hon : Onb g B w1 Z := ⟨hkp.os, hkp.tape, hkp.output, hkp.size, fun k h1 h2 => hkp.block k (by have := HKJ.out.lt; have := HKJ.out.BV; omega) h2 (by have := HKJ.out.BV; omega) (fun e => by have := (own_row_lt HKJ.out.own k e.symm).1; omega)⟩
      have hrx : Z.heap[R]? = some (.cells zr4 41 (0, 0)) ∧ B ≤ R ∧ R ≠ V ∧ (zz 6).ownBlock ≠ some R := by
        obtain ⟨x1, x2, x3, x4⟩ := HRX.out
        obtain ⟨_, ga, cap, e6, hloc⟩ := hI.e6 (hall 6 (by decide))
        have hRlt := (Array.getElem?_eq_some_iff.1 x1).1
        have hgB := HGB.out
        have h1 : w1.heap[R]? = some (.cells zr4 41 (0, 0)) := (HB.out.kq.block R hRlt (by omega) (HM.out.ne x1) x3 (fun e => row_ne HNR.out x1 (by decide) e.symm)).trans x1
        have hs1 := HB.out.kq.size
        refine ⟨(hkp.block R (by omega) (by omega) x3 (fun e => x4 e.symm)).trans h1, x2, x3, fun e => ?_⟩
        rw [e6] at e
        have eR : ga = R := by simpa [Value.ownBlock] using e
        rcases hloc with l | l
        · exact x4 (by rw [← l, eR])
        · omega
      have hoj : OJ V P M PM R g B (ns ++ [t]) (ks ++ [v]) Z := by
        obtain ⟨⟨fz, hb⟩, ⟨fz2, hb2⟩⟩ := HBP.out
        have hV := HKJ.out.box
        have hgB := HGB.out
        obtain ⟨_, _, x1, x2, x3⟩ := HPB.out
        have n1 : P ≠ V := fun e => by subst e; rw [hb] at hV; simp at hV
        have n2 : PM ≠ V := fun e => by subst e; rw [hb2] at hV; simp at hV
        refine ⟨s6, _, xs2, F2, hk2, ?_, HB.out.nm.heap hkp.size (hkp.block M HB.out.nm.lt (by omega) HMV.out (fun e => row_nm HKJ.out.own HB.out.nm e.symm)), ⟨fz, (hkp.block P (Array.getElem?_eq_some_iff.1 hb).1 (by omega) n1 (fun e => row_ne HKJ.out.own hb (by decide) e.symm)).trans hb⟩, ⟨fz2, (hkp.block PM (Array.getElem?_eq_some_iff.1 hb2).1 (by omega) n2 (fun e => row_ne HKJ.out.own hb2 (by decide) e.symm)).trans hb2⟩, x1, x2, x3, hrx⟩
        rw [List.length_append]
        refine own_keptO HB.out.own fun k hk => hkp.block k (own_row_lt HB.out.own k hk).2 (by have := (own_row_lt HB.out.own k hk).1; omega) (fun e => ?_) (fun e => row_row HKJ.out.own HB.out.own (by decide) k hk e.symm)
        subst e
        exact row_ne HB.out.own hV (by decide) hk
      go_end0
      exact ⟨rfl, hr2, hoj, HO1.out.trans hon⟩
end Go.Proofs.YtkplbggefiemdaaGreatDoor
