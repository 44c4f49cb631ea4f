/-
  dragnetlaw7.ManyGrows, for every input. Conditions: as it says.
-/
import Derived.Test.YtlejfeapnnioeaaDoorRel
import Derived.Test.YtlejfeapnnioeaaDoorCommon
import Derived.Deep.RegionHeld3
namespace Go.Proofs.YtlejfeapnnioeaaDoor
open Go.RowKit Go.Shelf
set_option linter.unusedVariables false
set_option linter.unusedSimpArgs false
theorem strG_one (L : List ByteArray) : ∀ u ∈ strL L, u.oneCell' = true := by
  intro u hu
  unfold strL at hu
  obtain ⟨y, _, rfl⟩ := List.mem_map.1 hu
  rfl
theorem strG_len (L : List ByteArray) (n : Nat) (h : L.length = n) : (strL L).length = n * 1 := by
  unfold strL
  rw [List.length_map, h, Nat.mul_one]
theorem strG_news {V : World} {g : Nat} {L : List ByteArray} (h : StrAt V (some ⟨g, 0, none⟩) L) : ∀ j u, (strL L)[j]? = some u → V.cell? ((⟨g, 0, none⟩ : Addr).add j) = some u := by
  intro j u hu
  unfold strL at hu
  rw [List.getElem?_map] at hu
  have hj : j < L.length := by
    rcases Nat.lt_or_ge j L.length with h1 | h1
    · exact h1
    · rw [List.getElem?_eq_none h1] at hu
      cases hu
  obtain ⟨g9, o9, h9, h10⟩ := h j hj
  cases h9
  rw [Addr.add_lit, h10, ← hu, List.getElem?_eq_getElem hj, List.getD_eq_getElem?_getD, List.getElem?_eq_getElem hj]
  rfl
theorem emp_own (V : World) (B : Nat) (hB : B ≤ V.heap.size) : (V.alloc (.cells #[] 9)).ownsRow B 9 1 (.slice (some ⟨V.heap.size, 0, none⟩) 0 0) 0 [] :=
  ⟨rfl, .inr ⟨V.heap.size, 0, #[], rfl, hB, heap_alloc_new V _, Nat.le_refl _, Nat.zero_le _, rfl, rfl⟩⟩
theorem app_bel {w V V3 : World} {B n : Nat} {v : Value} {xs : List Value} (hB : B ≤ V.heap.size) (ho : V.ownsRow B 9 1 v n xs) (hb : Below B w V) (hg : V.grownBy V3 v.ownBlock) : Below B w V3 :=
  hb.grown hg hB (fun k e => (ho.lt k e).1)
theorem strL_snoc (L : List ByteArray) (y : ByteArray) : strL (L ++ [y]) = strL L ++ [.string y] := by simp [strL]
@[irreducible] def nsG (fold : Bool) (L : List ByteArray) : Nat := (Mn.nsOf (Mn.wds fold L)).length
theorem al_states {K : World → Prop} {b : Nat} {w V : World} {fold : Bool} (sb : Nat) (L : List ByteArray) (hM : ∃ B, ManyM B sb (Mn.wds fold L) fold V) :
    Calls Tryd.prog 14 #[.pointer (some ⟨sb, 0, none⟩)] V fun e w' => e = .returned (.int .i64 (nsG fold L : Int)) ∧ w' = V := by
  obtain ⟨B, hM⟩ := hM
  unfold nsG
  exact states_many B sb _ fold V hM
theorem ns_le {fold : Bool} {L : List ByteArray} (h : Mn.Fit fold L) : nsG fold L ≤ 2000 := by
  unfold nsG
  have h1 := Mn.nsOf_len 40 (Mn.wds fold L) (fun x hx => by
    obtain ⟨y, hy, rfl⟩ := Mn.mem_wds.1 hx
    rw [Sums.bl_length, Mn.fd_size]
    exact (h.siz y hy).2)
  rw [Mn.wds_len] at h1
  have h2 := h.len
  have h3 : L.length * 40 ≤ 30 * 40 := Nat.mul_le_mul_right _ h2
  omega
theorem al_bad {K : World → Prop} {b : Nat} {w V : World} {fold : Bool} (q : Option Addr) (c : Nat) {Lb : List ByteArray} {n : Nat} (k : Nat) (hn : Lb.length = n) (h : AlW K b w V) (hs : StrAt V q Lb) (h64 : n ≤ 64) (hc : n ≤ c) (hcm : c ≤ 9223372036854775807) (hz : ∀ x ∈ Lb, x.size ≤ 1125899906842624) (hk : k < n) (hb : Mn.bad fold Lb k = true) (hj : ∀ j, j < k → Mn.bad fold Lb j = false) :
    Calls Tryd.prog 7 #[.slice q n c, .bool fold] V fun e w' => e = .returned (.tuple #[.pointer none, .int .i64 70, .int .i64 (k : Int)]) ∧ AlW K b w w' := by
  subst hn
  refine (new_any q c Lb fold V hs (by omega) h64 hc hcm hz).mono ?_
  rintro e w' ⟨hB, h1⟩
  rcases h1 with ⟨k', h1, h2, h3, rfl⟩ | ⟨hg, _⟩
  · have e : k' = k := by
      rcases Nat.lt_trichotomy k k' with h4 | h4 | h4
      · rw [h3 k h4] at hb
        cases hb
      · exact h4.symm
      · rw [hj k' h4] at h2
        cases h2
    subst e
    exact ⟨rfl, h.keep hB⟩
  · rw [hg.none_ k hk] at hb
    cases hb
theorem more_ns2 {fold : Bool} {L : List ByteArray} {z : ByteArray} (h : Mn.Fit fold (L ++ [z])) : nsG fold L ≤ nsG fold (L ++ [z]) ∧ nsG fold (L ++ [z]) ≤ nsG fold L + z.size ∧ Mn.begK L z L.length = decide (nsG fold (L ++ [z]) = nsG fold L) := by
  unfold nsG
  exact Mn.grow_ns h
theorem own_cap {V : World} {B g n c : Nat} {xs : List Value} (h : V.ownsRow B 9 1 (.slice (some ⟨g, 0, none⟩) n c) n xs) : n ≤ c ∧ c ≤ 9223372036854775807 := by
  rcases h.2 with ⟨h1, _⟩ | ⟨g', cap', cur, h1, h2, h3, h4, h5, _⟩
  · cases h1
  · simp only [Value.slice.injEq] at h1
    obtain ⟨_, _, rfl⟩ := h1
    unfold maxLen at h5
    exact ⟨h4, h5⟩
theorem one_news {V : World} {g : Nat} {x : ByteArray} (h : V.cell? ⟨g, 0, none⟩ = some (.string x)) : ∀ (j : Nat) (u : Value), [Value.string x][j]? = some u → V.cell? ((⟨g, 0, none⟩ : Addr).add j) = some u := by
  intro j u hu
  match j, hu with
  | 0, hu =>
    simp at hu
    subst hu
    rw [Addr.add_lit]
    exact h
theorem gx_b {ws w3 : World} (x0 : ByteArray) (hg : ((ws.drew.alloc (.cells #[] 9)).alloc (.cells #[.string x0] 9)).grownBy w3 (Value.slice (some ⟨ws.heap.size, 0, none⟩) 0 0).ownBlock) : w3.cell? ⟨ws.heap.size + 1, 0, none⟩ = some (.string x0) := by
  have h1 := hg.block (ws.heap.size + 1) (by simp) (by simp [Value.ownBlock])
  have h2 := heap_alloc_new (ws.drew.alloc (.cells #[] 9)) (.cells #[.string x0] 9)
  rw [World.size_alloc] at h2
  refine (World.cell?_of_block (a := ⟨ws.heap.size + 1, 0, none⟩) h1).trans ?_
  exact one_cell h2
theorem gx_c {ws w3 : World} (x0 : ByteArray) (hg : ((ws.drew.alloc (.cells #[.string x0] 9)).alloc (.cells #[] 9)).grownBy w3 (Value.slice (some ⟨ws.heap.size + 1, 0, none⟩) 0 0).ownBlock) : w3.cell? ⟨ws.heap.size, 0, none⟩ = some (.string x0) := by
  have h1 := hg.block ws.heap.size (by simp; omega) (by simp [Value.ownBlock])
  have h2 := heap_alloc_new ws.drew (.cells #[.string x0] 9)
  have h3 : ((ws.drew.alloc (.cells #[.string x0] 9)).alloc (.cells #[] 9)).heap[ws.heap.size]? = (ws.drew.alloc (.cells #[.string x0] 9)).heap[ws.heap.size]? := Below.heap_alloc _ _ _ (by simp)
  refine (World.cell?_of_block (a := ⟨ws.heap.size, 0, none⟩) (h1.trans h3)).trans ?_
  exact one_cell h2
theorem own_some {V : World} {B n : Nat} {v : Value} {xs : List Value} (h : V.ownsRow B 9 1 v n xs) (h0 : 0 < n) : ∃ g d, v = .slice (some ⟨g, 0, none⟩) n d := by
  rcases h.2 with ⟨_, h1⟩ | ⟨g, cap, cur, rfl, _⟩
  · omega
  · exact ⟨g, cap, rfl⟩
/-- what is reached by a call, as it lay ahead of it -/
theorem AlW.self {K : World → Prop} {b : Nat} {w X : World} (ws : World) (h : AlW K b w X) : AlW (fun Y => Below X.heap.size X Y) X.heap.size X X :=
  ⟨Below.refl _ _, Nat.le_refl _, fun V V' hb hx => hx.trans ⟨hb.os, hb.tape, hb.output, hb.size, fun k hk => hb.block k (by have := hx.size; omega)⟩, Below.refl _ _⟩
theorem three_at (V : World) (x : ByteArray) : StrAt (V.alloc (.cells #[.string x, .string ⟨#[]⟩, .string ⟨#[]⟩] 9)) (some ⟨V.heap.size, 0, none⟩) [x, ⟨#[]⟩, ⟨#[]⟩] := by
  intro i hi
  have hn := heap_alloc_new V (.cells #[.string x, .string ⟨#[]⟩, .string ⟨#[]⟩] 9)
  refine ⟨V.heap.size, 0, rfl, ?_⟩
  simp only [World.cell?, hn]
  have hi3 : i < 3 := hi
  match i, hi3 with
  | 0, _ => rfl
  | 1, _ => rfl
  | 2, _ => rfl
set_option maxRecDepth 100000 in
set_option maxHeartbeats 6000000 in
theorem manyGrows_any (p : Option Addr) (cap : Nat) (R : List ByteArray) (fold : Bool) (y s : ByteArray) (w : World) (h : StrAt w p R) (hl : R.length ≤ 140737488351232) (hR : ∀ x ∈ R, x.size ≤ 140737488351232) (hy : y.size ≤ 1048576) (hs : s.size ≤ 1048576) (ht : Tab w) :
    Calls Tryd.prog 4 #[.slice p R.length cap, .bool fold, .string y, .string s] w fun e w' => e = .returned (.bool true) ∧ Below w.heap.size w w' := by
  obtain ⟨b, hb⟩ : ∃ b, w.heap.size = b := ⟨_, rfl⟩
  obtain ⟨n, hn⟩ : ∃ n, R.length = n := ⟨_, rfl⟩
  obtain ⟨L, hL⟩ : ∃ L, Mn.fitL fold R = L := ⟨_, rfl⟩
  have HFL := Hid.mk' (Mn.fitL_fit fold R)
  rw [hL] at HFL
  obtain ⟨m, hm⟩ : ∃ m, L.length = m := ⟨_, rfl⟩
  have hm0 : 0 < m := by rw [← hm]; exact HFL.out.2
  have hm30 : m ≤ 30 := by rw [← hm]; exact HFL.out.1.len
  have HM := Hid.mk' hm
  obtain ⟨L2, hL2⟩ : ∃ L2, Mn.fitL fold (L ++ [y]) = L2 := ⟨_, rfl⟩
  have HFL2 := Hid.mk' (Mn.fitL_fit fold (L ++ [y]))
  rw [hL2] at HFL2
  obtain ⟨m2, hm2⟩ : ∃ m2, L2.length = m2 := ⟨_, rfl⟩
  have hm20 : 0 < m2 := by rw [← hm2]; exact HFL2.out.2
  have hm230 : m2 ≤ 30 := by rw [← hm2]; exact HFL2.out.1.len
  have HM2 := Hid.mk' hm2
  have HMO : Hid (L2 = L ∨ ∃ z, L2 = L ++ [z]) := Hid.mk' (by
    rcases Mn.fitL_more HFL.out.1 HFL.out.2 y with h1 | ⟨z, h1⟩
    · exact .inl (hL2.symm.trans h1)
    · exact .inr ⟨z, hL2.symm.trans h1⟩)
  have HG := Hid.mk' (HFL.out.1.good HFL.out.2)
  have HG2 := Hid.mk' (HFL2.out.1.good HFL2.out.2)
  have H0 : Hid (AlW (fun V => Tab V ∧ StrAt V p R) b w w) := ⟨Below.refl _ _, by omega, fun V V' hb hx => ⟨hx.1.below hb, hx.2.keep hb⟩, ht, h⟩
  have HSH := Hid.mk' (shown_any w)
  have HFI := Hid.mk' (fun V (K : World → Prop) (hV : AlW K b w V) (hst : StrAt V p R) => al_fits (fold := fold) p cap n R hn hV hst (by omega) (fun x hx => by have := hR x hx; omega) hL hm hm0)
  have HFJ := Hid.mk' (fun V (K : World → Prop) q c (hV : AlW K b w V) (hst : StrAt V q (L ++ [y])) => al_fits (fold := fold) q c (m + 1) (L ++ [y]) (by rw [List.length_append, hm]; rfl) hV hst (by omega) (fun x hx => by
    rcases List.mem_append.1 hx with hx | hx
    · have := (HFL.out.1.siz x hx).2
      omega
    · simp at hx
      subst hx
      omega) hL2 hm2 hm20)
  have HNW := Hid.mk' (fun V (K : World → Prop) q c (hV : AlW K b w V) (hst : StrAt V q L) h1 h2 => al_new (fold := fold) q c hm hV hst HG.out (fun x hx => by have := (HFL.out.1.siz x hx).2; omega) h1 h2)
  have HNW2 := Hid.mk' (fun V (K : World → Prop) q c (hV : AlW K b w V) (hst : StrAt V q L2) h1 h2 => al_new (fold := fold) q c hm2 hV hst HG2.out (fun x hx => by have := (HFL2.out.1.siz x hx).2; omega) h1 h2)
  have HST := Hid.mk' (fun V sb (hM : ∃ B, ManyM B sb (Mn.wds fold L) fold V) => al_states (K := fun _ => True) (b := b) (w := w) sb L hM)
  have HST2 := Hid.mk' (fun V sb (hM : ∃ B, ManyM B sb (Mn.wds fold L2) fold V) => al_states (K := fun _ => True) (b := b) (w := w) sb L2 hM)
  obtain ⟨ns, hns⟩ : ∃ ns, nsG fold L = ns := ⟨_, rfl⟩
  obtain ⟨ns2, hns2⟩ : ∃ ns2, nsG fold L2 = ns2 := ⟨_, rfl⟩
  rw [hns] at HST
  rw [hns2] at HST2
  have hnl : ns ≤ 2000 := by rw [← hns]; exact ns_le HFL.out.1
  have hnl2 : ns2 ≤ 2000 := by rw [← hns2]; exact ns_le HFL2.out.1
  have hn2 : 2 ≤ ns := by rw [← hns]; unfold nsG; exact Mn.fit_two HFL.out.1 HFL.out.2
  have HNS := Hid.mk' (And.intro hns hns2)
  obtain ⟨i1, hi1, hy0, hy1, hy2⟩ := info_parts infoSt
  have HI := Hid.mk' (And.intro hi1 (And.intro hy0 (And.intro hy1 hy2)))
  rw [hn, hb]
  clear h hl hR ht hn hL hm hL2 hm2 hi1 hy0 hy1 hy2 hns hns2
  go_enter Tryd.func4, Tryd.ntmps4
  go_upto_region 8 with (first
    | (go_at_call 5; refine HSH.out.mono ?_; rintro e w1 ⟨rfl, hb1⟩; have HW1 := Hid.mk' (H0.out.keep hb1); clear hb1 HSH H0)
    | (go_at_call 6; refine (HFI.out _ _ HW1.out HW1.out.ex.2).mono ?_; rintro e w2 ⟨gw, c, rfl, hmc, hcm, hw2⟩; have HW2 := Hid.mk' hw2; clear hw2 HW1 HFI)
    | (at_builtin; refine wpList_append_own _ rfl _ _ 22 rfl w2.heap.size 9 i1 (.string ⟨#[]⟩) 1 16 Tryd.underlying22 HI.out.1 HI.out.2.1 HI.out.2.2.1 HI.out.2.2.2 rfl (by decide) _ _ _ rfl (emp_own w2 w2.heap.size (Nat.le_refl _)) ⟨gw, 0, none⟩ m c (strL L) rfl (strG_len L m HM.out) (by exact strG_news ((HW2.out.ex.2).keep ((Below.refl _ w2).alloc (Nat.le_refl _) _))) (strG_one _) (by unfold maxLen; omega) (by omega) (by simp) ?_; intro v3 w3 ho3 hg3 _; simp only [Nat.zero_add, List.nil_append] at ho3; obtain ⟨q3, c3, rfl⟩ := mr_shape ho3; have HO3 := Hid.mk' ho3; have HB3 : Hid (Below w2.heap.size w2 w3) := Hid.mk' (app_bel (by simp) (emp_own w2 w2.heap.size (Nat.le_refl _)) ((Below.refl _ w2).alloc (Nat.le_refl _) _) hg3); clear ho3 hg3)
    | (at_builtin; refine wpList_append_own _ rfl _ _ 22 rfl w2.heap.size 9 i1 (.string ⟨#[]⟩) 1 16 Tryd.underlying22 HI.out.1 HI.out.2.1 HI.out.2.2.1 HI.out.2.2.2 rfl (by decide) _ _ _ rfl (HO3.out.alloc _) ⟨w3.heap.size, 0, none⟩ 1 1 [.string y] rfl rfl (str_news _ _ rfl) (str_one _) (by unfold maxLen; omega) (by omega) (by simp only [World.size_alloc]; have := HB3.out.size; omega) ?_; intro v4 w4 ho4 hg4 _; obtain ⟨q4, c4, rfl⟩ := mr_shape ho4; have HB4 : Hid (Below w2.heap.size w2 w4) := Hid.mk' (own_relS HB3.out.size HO3.out HB3.out hg4); have HS4 : Hid (StrAt w4 q4 (L ++ [y])) := Hid.mk' (str_at (by rw [strL_snoc]; exact ho4) (by rw [List.length_append, HM.out]; rfl)); clear ho4 hg4 HO3 HB3)
    | (go_at_call 6; refine (HFJ.out _ _ _ _ (HW2.out.keep HB4.out) HS4.out).mono ?_; rintro e w5 ⟨gw2, cc, rfl, hmc2, hcm2, hw5⟩; have HW5 := Hid.mk' hw5; clear hw5 HW2 HFJ HB4 HS4)
    | (go_at_call 7; refine (HNW.out _ _ _ _ HW5.out HW5.out.ex.1.2 hmc hcm).mono ?_; rintro e w6 ⟨sb, rfl, hw6⟩; have HW6 := Hid.mk' hw6; clear hw6 HW5 HNW)
    | (go_at_call 7; refine (HNW2.out _ _ _ _ HW6.out HW6.out.ex.1.2 hmc2 hcm2).mono ?_; rintro e w7 ⟨sb2, rfl, hw7⟩; have HW7 := Hid.mk' hw7; clear hw7 HW6 HNW2)
    | fail)
  obtain ⟨K, hKt, hKs, hKs2, hKm, hKm2, HW⟩ : ∃ K : World → Prop, Hid (∀ V, K V → Tab V) ∧ Hid (∀ V, K V → StrAt V (some ⟨gw, 0, none⟩) L) ∧ Hid (∀ V, K V → StrAt V (some ⟨gw2, 0, none⟩) L2) ∧ Hid (∀ V, K V → ∃ B, ManyM B sb (Mn.wds fold L) fold V) ∧ Hid (∀ V, K V → ∃ B, ManyM B sb2 (Mn.wds fold L2) fold V) ∧ Hid (AlW K b w w7) := ⟨_, fun V h => h.1.1.1.1.1, fun V h => h.1.1.1.2, fun V h => h.1.1.2, fun V h => h.1.2, fun V h => h.2, HW7.out⟩
  clear HW7
  have HPE : Hid (∀ T i, i < m → Mn.plc (Mn.allF (Mn.wds fold L2) T) i = Mn.plc (Mn.allF (Mn.wds fold L) T) i) := fun T i hi => by
    rcases HMO.out with e | ⟨z, e⟩
    · rw [e]
    · have hf := HFL2.out.1
      rw [e] at hf ⊢
      exact Mn.plc_more hf T (by rw [HM.out]; exact hi)
  have hmm : m ≤ m2 := by
    rcases HMO.out with e | ⟨z, e⟩
    · rw [← HM.out, ← HM2.out, e]
      exact Nat.le_refl _
    · rw [← HM.out, ← HM2.out, e, List.length_append]
      omega
  have hn2I : ¬ (ns : Int) < 2 := by omega
  have HFO := Hid.mk' (fun V (K : World → Prop) sb q c (hV : AlW K b w V) hM (hst : StrAt V q L) => al_found (fold := fold) sb q c s HM.out hV hM hst HG.out (by omega))
  have HFO2 := Hid.mk' (fun V (K : World → Prop) sb q c (hV : AlW K b w V) hM (hst : StrAt V q L2) => al_found (fold := fold) sb q c s HM2.out hV hM hst HG2.out (by omega))
  obtain ⟨T, hT⟩ : ∃ T, tx fold s = T := ⟨_, rfl⟩
  rw [hT] at HFO HFO2
  have HPT := Hid.mk' (HPE.out T)
  obtain ⟨A, hA⟩ : ∃ A, Mn.allF (Mn.wds fold L) T = A := ⟨_, rfl⟩
  obtain ⟨A2, hA2⟩ : ∃ A2, Mn.allF (Mn.wds fold L2) T = A2 := ⟨_, rfl⟩
  rw [hA] at HFO HPT
  rw [hA2] at HFO2 HPT
  have HAL : Hid (∀ i, (Mn.plc A i).length ≤ 100000000) := fun i => by
    have h1 := Mn.plc_len A i
    have h2 := Mn.allF_len (Wok.of HG.out).nod T
    rw [hA, Mn.wds_len, HM.out] at h2
    have h3 : T.length ≤ 1048576 := by rw [← hT, tx_len]; exact hs
    have h4 : T.length * m ≤ 1048576 * 30 := Nat.mul_le_mul h3 hm30
    omega
  clear HPE hT hA hA2
  rcases HMO.out with hLL | ⟨z, hLL⟩
  · have e : m = m2 := by rw [← HM.out, ← HM2.out, hLL]
    subst e
    have e : ns = ns2 := by rw [← HNS.out.1, ← HNS.out.2, hLL]
    subst e
    clear hLL HMO HNS
    go_upto_region 20 with (first
      | (go_at_call 14; refine (HST2.out _ _ (hKm2.out _ HW.out.ex)).mono ?_; rintro e w8 ⟨rfl, hw8⟩; have hw8' := hw8.symm; subst hw8'; clear HST2)
      | (go_at_call 14; refine (HST.out _ _ (hKm.out _ HW.out.ex)).mono ?_; rintro e w9 ⟨rfl, hw9⟩; have hw9' := hw9.symm; subst hw9')
      | fail)
    have HW0 := HW
    clear HW
    go_wp2_with (first
      | (go_at_call 9; refine (HFO.out _ _ sb _ _ HW0.out (hKm.out _ HW0.out.ex) (hKs.out _ HW0.out.ex)).mono ?_; rintro e wa ⟨o, base, rv, rfl, hwa⟩; have HWa := Hid.mk' hwa; clear hwa HFO)
      | (go_at_call 9; refine (HFO2.out _ _ sb2 _ _ HWa.out (hKm2.out _ HWa.out.ex.1) (hKs2.out _ HWa.out.ex.1)).mono ?_; rintro e wb ⟨o2, base2, rv2, rfl, hwb⟩; have HWb := Hid.mk' hwb; clear hwb HWa HFO2)
      | fail)
    obtain ⟨K3, hS3, hS23, hR3, hR23, HW3⟩ : ∃ K3 : World → Prop, Hid (∀ V, K3 V → StrAt V (some ⟨gw, 0, none⟩) L) ∧ Hid (∀ V, K3 V → StrAt V (some ⟨gw2, 0, none⟩) L2) ∧ Hid (∀ V, K3 V → RowsM base o m (Mn.plc A) rv V) ∧ Hid (∀ V, K3 V → RowsM base2 o2 m (Mn.plc A2) rv2 V) ∧ Hid (AlW K3 b w wb) := ⟨_, fun V h => hKs.out V h.1.1, fun V h => hKs2.out V h.1.1, fun V h => h.1.2, fun V h => h.2, HWb.out⟩
    clear HWb HW0 hKm hKm2 HST hKs hKs2 hKt
    go_loopw [26, 27] (fun iv sv wx => ∃ j : Nat, iv = .int .i64 (j : Int) ∧ j ≤ m ∧ Hid (AlW K3 b w wx)) (fun iv sv _ => m - (intOf iv).toNat)
    case atStart => exact ⟨0, rfl, Nat.zero_le _, HW3⟩
    case round =>
      obtain ⟨j, rfl, hjm, HWS⟩ := hrel
      rename World => ws
      by_cases hj : j < m
      · have hjI : (j : Int) < (m : Int) := by omega
        have hjN : ¬ (m : Int) ≤ (j : Int) := by omega
        have hj2I : (j : Int) < (m : Int) := by omega
        have hj2N : ¬ (m : Int) ≤ (j : Int) := by omega
        obtain ⟨l, hl⟩ : ∃ l, Mn.plc A j = l := ⟨_, rfl⟩
        have hl2 : Mn.plc A2 j = l := (HPT.out j hj).trans hl
        obtain ⟨nl, hnl9⟩ : ∃ nl, l.length = nl := ⟨_, rfl⟩
        have hlen : l.length ≤ 100000000 := by rw [← hl]; exact HAL.out j
        obtain ⟨pv, cv, hrv⟩ : ∃ pv cv, rv j = .slice pv nl cv := by
          have := (hR3.out _ HWS.out.ex).row j hj
          rw [hl, hnl9] at this
          exact mr_shape this
        obtain ⟨pv2, cv2, hrv2⟩ : ∃ pv cv, rv2 j = .slice pv nl cv := by
          have := (hR23.out _ HWS.out.ex).row j (by omega)
          rw [hl2, hnl9] at this
          exact mr_shape this
        have HRC : Hid (∀ V, K3 V → V.cell? ⟨o, j, none⟩ = some (.slice pv nl cv) ∧ V.cell? ⟨o2, j, none⟩ = some (.slice pv2 nl cv2) ∧ V.ownsRow base 3 1 (.slice pv nl cv) l.length (intL l) ∧ V.ownsRow base2 3 1 (.slice pv2 nl cv2) l.length (intL l)) := fun V hV => by
          have h1 := ((hR3.out V hV).cell j hj).1
          have h2 := (hR3.out V hV).row j hj
          have h3 := ((hR23.out V hV).cell j (by omega)).1
          have h4 := (hR23.out V hV).row j (by omega)
          rw [hrv] at h1 h2
          rw [hrv2] at h3 h4
          rw [hl] at h2
          rw [hl2] at h4
          exact ⟨h1, h3, h2, h4⟩
        have HSI := Hid.mk' (fun V (hV : K3 V) => sameInts_any base base2 _ _ l V (by omega) (HRC.out V hV).2.2.1 (HRC.out V hV).2.2.2)
        obtain ⟨k1, k2, _, _⟩ := HRC.out _ HWS.out.ex
        clear hl hl2 hrv hrv2 hnl9 hlen
        go_upto_region 27 with fail
        go_region_held3 (fun w' => w'.cell? ⟨o, j, none⟩ = some (.slice pv nl cv) ∧ w'.cell? ⟨o2, j, none⟩ = some (.slice pv2 nl cv2)) (first | go_keep | exact ⟨k1, k2⟩ | exact ⟨z1, z2⟩)
          ((first | (go_at_call 12; refine (HSI.out _ (HWS.out.drew ⟨1, rfl⟩).ex).mono ?_; rintro e wz ⟨rfl, hwz⟩; have HWZ := Hid.mk' ((HWS.out.drew ⟨1, rfl⟩).drew hwz); have z1 := (HRC.out _ (HWZ.out).ex).1; have z2 := (HRC.out _ (HWZ.out).ex).2.1; clear hwz)))
        all_goals
          go_wp2_with fail
          go_roundw
          case rel => exact ⟨j + 1, by simp, by omega, HWZ⟩
          case measure =>
            simp [intOf]
            omega
      · obtain rfl : j = m := by omega
        have hjI : ¬ (j : Int) < (j : Int) := by omega
        obtain ⟨x0, hx0⟩ : ∃ x0, L2.getD 0 ByteArray.empty = x0 := ⟨_, rfl⟩
        obtain ⟨x1, hx1⟩ : ∃ x1, L.getD 0 ByteArray.empty = x1 := ⟨_, rfl⟩
        have HBT := Hid.mk' (Mn.bad_twice HFL2.out.1 HFL2.out.2)
        rw [hx0, HM2.out] at HBT
        have hm1 : x1 ∈ L := by
          rw [← hx1, List.getD_eq_getElem?_getD, List.getElem?_eq_getElem HFL.out.2]
          exact List.getElem_mem _
        have hm2 : x0 ∈ L2 := by
          rw [← hx0, List.getD_eq_getElem?_getD, List.getElem?_eq_getElem HFL2.out.2]
          exact List.getElem_mem _
        have hz1 := HFL.out.1.siz x1 hm1
        have HZ2 : Hid (∀ x ∈ L2 ++ [x0], x.size ≤ 1125899906842624) := fun x hx => by
          rcases List.mem_append.1 hx with hx | hx
          · have := (HFL2.out.1.siz x hx).2
            omega
          · simp at hx
            subst hx
            have := (HFL2.out.1.siz _ hm2).2
            omega
        have HBE := Hid.mk' (Mn.bad_empty (fold := fold) x1 hz1.1 hz1.2)
        have HX0 : Hid (∀ V, K3 V → V.cell? ⟨gw2, 0, none⟩ = some (.string x0)) := fun V hV => by
          obtain ⟨g9, o9, h9, h10⟩ := hS23.out V hV 0 HFL2.out.2
          cases h9
          rw [hx0] at h10
          exact h10
        have HX1 : Hid (∀ V, K3 V → V.cell? ⟨gw, 0, none⟩ = some (.string x1)) := fun V hV => by
          obtain ⟨g9, o9, h9, h10⟩ := hS3.out V hV 0 HFL.out.2
          cases h9
          rw [hx1] at h10
          exact h10
        have y0 := HX0.out _ HWS.out.ex
        have HZ3 : Hid (∀ x ∈ [x1, (⟨#[]⟩ : ByteArray), ⟨#[]⟩], x.size ≤ 1125899906842624) := fun x hx => by
          simp at hx
          rcases hx with rfl | rfl
          · omega
          · decide
        have HBE1 : Hid (∀ j, j < 1 → Mn.bad fold [x1, (⟨#[]⟩ : ByteArray), ⟨#[]⟩] j = false) := fun j hj => by
          obtain rfl : j = 0 := by omega
          exact HBE.out.1
        have hM0 : (0 : Int) < (j : Int) := by omega
        have hM20 : (0 : Int) < (j : Int) := by omega
        clear hm1 hm2 hx0 hx1
        go_upto_region 30 with fail
        have hN20 : 0 < j := by omega
        refine (wpIn_wide (n := 6)).1 ?_
        refine region_rel (by kernel_rfl) (fun u => { tmps := #[.slice p n cap, .bool fold, .string y, .string s, undef, undef, undef, undef, u8, .bool true, .slice (some ⟨gw, 0, none⟩) j c, .slice (some ⟨gw2, 0, none⟩) j cc, .pointer (some ⟨sb, 0, none⟩), .int .i64 0, .int .i64 0, .pointer (some ⟨sb2, 0, none⟩), .int .i64 0, .int .i64 0, .int .i64 0, undef, undef, undef, .slice (some ⟨o, 0, none⟩) j j, .bool true, .slice (some ⟨o2, 0, none⟩) j j, .bool true, .int .i64 (j : Int), u27, u 14, u 15, u 16, undef, undef, undef, undef, undef, undef, .bool true, .slice p n cap, .bool fold, .slice (some ⟨gw, 0, none⟩) j c, .slice (some ⟨w2.heap.size, 0, none⟩) 0 0, .slice (some ⟨gw, 0, none⟩) j c, .slice q3 j c3, .string y, .slice (some ⟨w3.heap.size, 0, none⟩) 1 1, .slice q4 (j + 1) c4, .bool fold, .slice (some ⟨gw2, 0, none⟩) j cc, .tuple #[.pointer (some ⟨sb, 0, none⟩), .int .i64 0, .int .i64 0], .slice (some ⟨gw, 0, none⟩) j c, .bool fold, .tuple #[.pointer (some ⟨sb, 0, none⟩), .int .i64 0, .int .i64 0], .pointer (some ⟨sb, 0, none⟩), .int .i64 0, .int .i64 0, .tuple #[.pointer (some ⟨sb2, 0, none⟩), .int .i64 0, .int .i64 0], .slice (some ⟨gw2, 0, none⟩) j cc, .bool fold, .tuple #[.pointer (some ⟨sb2, 0, none⟩), .int .i64 0, .int .i64 0], .pointer (some ⟨sb2, 0, none⟩), .int .i64 0, .int .i64 0, .bool true, .bool false, .bool false, .pointer (some ⟨sb, 0, none⟩), .bool false, .bool false, .bool false, .pointer (some ⟨sb2, 0, none⟩), .bool false, .bool false, .bool false, .int .i64 0, .bool false, .bool false, .bool false, .int .i64 0, .bool false, .bool false, .pointer (some ⟨sb2, 0, none⟩), .int .i64 (ns : Int), .pointer (some ⟨sb, 0, none⟩), .int .i64 (ns : Int), .int .i64 0, .pointer (some ⟨sb, 0, none⟩), .int .i64 (ns : Int), .bool (decide ((ns : Int) < 2)), .bool (decide ((ns : Int) < 2)), .int .i64 0, .bool false, .bool (decide ((ns : Int) < 2)), .bool (decide ((ns : Int) < 2)), .slice (some ⟨gw2, 0, none⟩) j cc, .int .i64 (j : Int), .slice (some ⟨gw, 0, none⟩) j c, .int .i64 (j : Int), .bool true, .bool true, .int .i64 0, .bool false, .bool false, .bool (decide ((ns : Int) < 2)), .slice (some ⟨gw2, 0, none⟩) j cc, .int .i64 (j : Int), .slice (some ⟨gw, 0, none⟩) j c, .int .i64 (j : Int), .bool false, undef, undef, undef, undef, undef, undef, undef, undef, undef, undef, undef, undef, undef, undef, undef, undef, undef, undef, undef, undef, undef, undef, undef, undef, undef, undef, undef, undef, undef, undef, undef, undef, undef, .tuple #[.slice (some ⟨o, 0, none⟩) j j, .bool true], .pointer (some ⟨sb, 0, none⟩), .slice (some ⟨gw, 0, none⟩) j c, .string s, .tuple #[.slice (some ⟨o, 0, none⟩) j j, .bool true], .slice (some ⟨o, 0, none⟩) j j, .bool true, .tuple #[.slice (some ⟨o2, 0, none⟩) j j, .bool true], .pointer (some ⟨sb2, 0, none⟩), .slice (some ⟨gw2, 0, none⟩) j cc, .string s, .tuple #[.slice (some ⟨o2, 0, none⟩) j j, .bool true], .slice (some ⟨o2, 0, none⟩) j j, .bool true, .bool true, .bool false, .bool false, .bool true, .bool false, .bool false, .int .i64 (j : Int), .slice (some ⟨gw, 0, none⟩) j c, .int .i64 (j : Int), .bool false, u166, u167, u168, u169, u170, u171, u172, u173, u174, u175, u176, u177, u178, u 10, u 0, u 1, u 2, u 3, u 4, u 5, u 6, u 7, u 8, u 9, u 11, u 12, u 13, undef, undef, undef, undef, undef, undef, undef, undef, undef, undef, undef, undef, undef, undef, undef, undef, undef, undef, undef, undef, undef, undef, undef, undef, undef, undef, undef, undef, undef, undef, undef, undef, undef, undef, undef, undef], defers := [] }) (fun k => undef) ws (I30 ws gw2 j cc x0 fold L2) (fun L hL => I30.start ws gw2 j cc x0 fold L2 _ L hL) (deps_of' (by kernel_rfl)) ?_ ?_
        · intro L u X hI i0 hi0 hLi o9 ho hdone KK hKK
          rcases (show i0 = 0 ∨ i0 = 1 ∨ i0 = 2 ∨ i0 = 3 ∨ i0 = 4 ∨ i0 = 5 ∨ i0 = 6 ∨ i0 = 7 ∨ i0 = 8 ∨ i0 = 9 ∨ i0 = 10 ∨ i0 = 11 ∨ i0 = 12 ∨ i0 = 13 ∨ i0 = 14 ∨ i0 = 15 ∨ i0 = 16 by have : i0 < 17 := hi0; omega) with rfl | rfl | rfl | rfl | rfl | rfl | rfl | rfl | rfl | rfl | rfl | rfl | rfl | rfl | rfl | rfl | rfl
          case inl =>
            simp at ho; subst ho; simp [Region.binds] at hdone
            have hKX := hKK (.slice (some ⟨X.heap.size, 0, none⟩) 0 0) (X.alloc (.cells #[] 9)) (hI.next (i := 0) ((Below.refl _ X).alloc (Nat.le_refl _) _) (by omega) (fun L' hL' => ⟨X.heap.size, rfl, fun _ => ⟨hI.mem.size, heap_alloc_new X _⟩⟩))
            simp [wpOpIn, Region.wanted, yielded, Oper.wpIn, Oper.semAt_eq, execOp, Oper.uponIn, go_sem]
            first | exact hKX | (simp [upd] at hKX; exact hKX)
          case inr.inl =>
            simp at ho; subst ho; simp [Region.binds] at hdone
            have hKX := hKK (.slice (some ⟨gw2, 0, none⟩) j cc) X (hI.next (i := 1) (Below.refl _ X) (by omega) (fun L' hL' => rfl))
            simp [wpOpIn, Region.wanted, yielded, Oper.wpIn, Oper.semAt_eq, execOp, Oper.uponIn, go_sem]
            first | exact hKX | (simp [upd] at hKX; exact hKX)
          case inr.inr.inr.inl =>
            simp at ho; subst ho; simp [Region.binds] at hdone
            have hKX := hKK (.slice (some ⟨gw2, 0, none⟩) j cc) X (hI.next (i := 3) (Below.refl _ X) (by omega) (fun L' hL' => rfl))
            simp [wpOpIn, Region.wanted, yielded, Oper.wpIn, Oper.semAt_eq, execOp, Oper.uponIn, go_sem]
            first | exact hKX | (simp [upd] at hKX; exact hKX)
          case inr.inr.inr.inr.inl =>
            simp at ho; subst ho; simp [Region.binds] at hdone
            have e3 := hI.val 3 hdone
            have hKX := hKK (.pointer (some ⟨gw2, 0, none⟩)) X (hI.next (i := 4) (Below.refl _ X) (by omega) (fun L' hL' => rfl))
            simp only [P30] at e3
            simp [wpOpIn, Region.wanted, yielded, Oper.wpIn, Oper.semAt_eq, execOp, Oper.uponIn, go_sem, e3, hM20, hN20]
            first | exact hKX | (simp [upd, e3, hM20, hN20] at hKX; exact hKX)
          case inr.inr.inr.inr.inr.inl =>
            simp at ho; subst ho; simp [Region.binds] at hdone
            have e4 := hI.val 4 hdone
            simp only [P30] at e4
            have hcx := HX0.out X (HWS.out.keep hI.mem).ex
            have hKX := hKK (.string x0) X (hI.next (i := 5) (Below.refl _ X) (by omega) (fun L' hL' => rfl))
            simp [wpOpIn, Region.wanted, yielded, Oper.wpIn, Oper.semAt_eq, execOp, Oper.uponIn, go_sem, e4, hcx]
            first | exact hKX | (simp [upd, e4] at hKX; exact hKX)
          case inr.inr.inr.inr.inr.inr.inl =>
            simp at ho; subst ho; simp [Region.binds] at hdone
            have e5 := hI.val 5 hdone
            simp only [P30] at e5
            have hKX := hKK (.slice (some ⟨X.heap.size, 0, none⟩) 1 1) (X.alloc (.cells #[.string x0] 9)) (hI.next (i := 6) ((Below.refl _ X).alloc (Nat.le_refl _) _) (by omega) (fun L' hL' => ⟨X.heap.size, rfl, fun _ => heap_alloc_new X _⟩))
            simp [wpOpIn, Region.wanted, yielded, Oper.wpIn, Oper.semAt_eq, execOp, Oper.uponIn, go_sem, e5]
            first | exact hKX | (simp [upd, e5] at hKX; exact hKX)
          case inr.inr.inl =>
            simp at ho; subst ho; simp [Region.binds] at hdone
            obtain ⟨g0, e0, h0⟩ := hI.val 0 hdone.1
            have e1 := hI.val 1 hdone.2
            simp only [P30] at e1
            obtain ⟨hB0, hE0⟩ := h0 hLi
            have hown : X.ownsRow ws.heap.size 9 1 (.slice (some ⟨g0, 0, none⟩) 0 0) 0 [] := ⟨rfl, .inr ⟨g0, 0, #[], rfl, hB0, hE0, Nat.le_refl _, Nat.zero_le _, rfl, rfl⟩⟩
            obtain ⟨v2, Y, hrun, ho2, hg2, hnil, _⟩ := run_append_own_at (P := Tryd.prog) X ws.heap.size 22 22 9 i1 (.string ⟨#[]⟩) 1 16 Tryd.underlying22 HI.out.1 HI.out.2.1 HI.out.2.2.1 HI.out.2.2.2 rfl (by decide) _ 0 [] hown ⟨gw2, 0, none⟩ j cc (strL L2) (strG_len L2 _ HM2.out) (strG_news (hS23.out X (HWS.out.keep hI.mem).ex)) (strG_one _) (by unfold maxLen; omega) (by omega) hI.mem.size
            simp only [Nat.zero_add, List.nil_append] at ho2
            obtain ⟨g2, d2, rfl⟩ := own_some ho2 (by omega)
            have hKX := hKK _ Y (hI.app2 hLi hB0 hE0 ho2 hg2)
            refine op_append rfl rfl rfl (v1 := .slice (some ⟨g0, 0, none⟩) 0 0) (v2 := .slice (some ⟨gw2, 0, none⟩) j cc) ?_ ?_ hrun ?_
            · simp [go_sem, e0]
            · simp [go_sem, e1]
            · first | exact hKX | (simp [upd, go_sem] at hKX ⊢; exact hKX)
          case inr.inr.inr.inr.inr.inr.inr.inl =>
            simp at ho; subst ho; simp [Region.binds] at hdone
            obtain ⟨g2, d2, e2, h2⟩ := hI.val 2 hdone.1
            obtain ⟨g6, e6, h6⟩ := hI.val 6 hdone.2.1
            obtain ⟨v2, Y, hrun, ho2, hg2, hnil, _⟩ := run_append_own_at (P := Tryd.prog) X ws.heap.size 22 22 9 i1 (.string ⟨#[]⟩) 1 16 Tryd.underlying22 HI.out.1 HI.out.2.1 HI.out.2.2.1 HI.out.2.2.2 rfl (by decide) _ j (strL L2) (h2 hLi) ⟨g6, 0, none⟩ 1 1 [.string x0] rfl (one_news (one_cell (h6 hLi))) (str_one _) (by unfold maxLen; omega) (by omega) hI.mem.size
            obtain ⟨g3, d3, rfl⟩ := own_some ho2 (by omega)
            have hKX := hKK _ Y (hI.app7 hdone.1 (fun k e => ((h2 hLi).lt k e).1) hg2 (own_cap ho2).1 (own_cap ho2).2 (str_at (by rw [strL_snoc]; exact ho2) (by rw [List.length_append, HM2.out]; rfl)))
            refine op_append rfl rfl rfl (v1 := .slice (some ⟨g2, 0, none⟩) j d2) (v2 := .slice (some ⟨g6, 0, none⟩) 1 1) ?_ ?_ hrun ?_
            · simp [go_sem, e2]
            · simp [go_sem, e6]
            · first | exact hKX | (simp [upd, go_sem] at hKX ⊢; exact hKX)
          case inr.inr.inr.inr.inr.inr.inr.inr.inl =>
            simp at ho; subst ho; simp [Region.binds] at hdone
            have hKX := hKK (.bool fold) X (hI.next (i := 8) (Below.refl _ X) (by omega) (fun L' hL' => rfl))
            simp [wpOpIn, Region.wanted, yielded, Oper.wpIn, Oper.semAt_eq, execOp, Oper.uponIn, go_sem]
            first | exact hKX | (simp [upd] at hKX; exact hKX)
          case inr.inr.inr.inr.inr.inr.inr.inr.inr.inl =>
            simp at ho; subst ho; simp [Region.binds] at hdone
            obtain ⟨g7, d7, e7, hd1, hd2, h7⟩ := hI.val 7 hdone.1
            have e8 := hI.val 8 hdone.2.1
            simp only [P30] at e8
            simp [wpOpIn, Region.wanted, yielded, Oper.wpIn, Oper.semAt_eq, execOp, Oper.uponIn, go_sem, e7, e8]
            refine ⟨trivial, ?_⟩
            refine CallsIn.mono (callsIn_wide.2 (al_bad (some ⟨g7, 0, none⟩) d7 j (by rw [List.length_append, HM2.out]; rfl) (AlW.self ws (HWS.out.keep hI.mem)) (h7 hLi) (by omega) hd1 hd2 HZ2.out (by omega) HBT.out.2 HBT.out.1)) ?_
            rintro e Y ⟨rfl, hY⟩
            have hKX := hKK (.tuple #[.pointer none, .int .i64 70, .int .i64 (j : Int)]) Y (hI.next (i := 9) hY.ex (by omega) (fun L' hL' => rfl))
            first | exact hKX | (simp [upd, e7, e8] at hKX; exact hKX)
          case inr.inr.inr.inr.inr.inr.inr.inr.inr.inr.inl =>
            simp at ho; subst ho; simp [Region.binds] at hdone
            have e9 := hI.val 9 hdone
            have hKX := hKK (.tuple #[.pointer none, .int .i64 70, .int .i64 (j : Int)]) X (hI.next (i := 10) (Below.refl _ X) (by omega) (fun L' hL' => rfl))
            simp only [P30] at e9
            simp [wpOpIn, Region.wanted, yielded, Oper.wpIn, Oper.semAt_eq, execOp, Oper.uponIn, go_sem, e9]
            first | exact hKX | (simp [upd, e9] at hKX; exact hKX)
          case inr.inr.inr.inr.inr.inr.inr.inr.inr.inr.inr.inl =>
            simp at ho; subst ho; simp [Region.binds] at hdone
            have e10 := hI.val 10 hdone
            have hKX := hKK (.pointer none) X (hI.next (i := 11) (Below.refl _ X) (by omega) (fun L' hL' => rfl))
            simp only [P30] at e10
            simp [wpOpIn, Region.wanted, yielded, Oper.wpIn, Oper.semAt_eq, execOp, Oper.uponIn, go_sem, e10]
            first | exact hKX | (simp [upd, e10] at hKX; exact hKX)
          case inr.inr.inr.inr.inr.inr.inr.inr.inr.inr.inr.inr.inl =>
            simp at ho; subst ho; simp [Region.binds] at hdone
            have e10 := hI.val 10 hdone
            have hKX := hKK (.int .i64 70) X (hI.next (i := 12) (Below.refl _ X) (by omega) (fun L' hL' => rfl))
            simp only [P30] at e10
            simp [wpOpIn, Region.wanted, yielded, Oper.wpIn, Oper.semAt_eq, execOp, Oper.uponIn, go_sem, e10]
            first | exact hKX | (simp [upd, e10] at hKX; exact hKX)
          case inr.inr.inr.inr.inr.inr.inr.inr.inr.inr.inr.inr.inr.inl =>
            simp at ho; subst ho; simp [Region.binds] at hdone
            have e10 := hI.val 10 hdone
            have hKX := hKK (.int .i64 (j : Int)) X (hI.next (i := 13) (Below.refl _ X) (by omega) (fun L' hL' => rfl))
            simp only [P30] at e10
            simp [wpOpIn, Region.wanted, yielded, Oper.wpIn, Oper.semAt_eq, execOp, Oper.uponIn, go_sem, e10]
            first | exact hKX | (simp [upd, e10] at hKX; exact hKX)
          case inr.inr.inr.inr.inr.inr.inr.inr.inr.inr.inr.inr.inr.inr.inl =>
            simp at ho; subst ho; simp [Region.binds] at hdone
            have e11 := hI.val 11 hdone.1
            have hKX := hKK (.pointer none) X (hI.next (i := 14) (Below.refl _ X) (by omega) (fun L' hL' => rfl))
            simp only [P30] at e11
            simp [wpOpIn, Region.wanted, yielded, Oper.wpIn, Oper.semAt_eq, execOp, Oper.uponIn, go_sem, e11]
            first | exact hKX | (simp [upd, e11] at hKX; exact hKX)
          case inr.inr.inr.inr.inr.inr.inr.inr.inr.inr.inr.inr.inr.inr.inr.inl =>
            simp at ho; subst ho; simp [Region.binds] at hdone
            have e12 := hI.val 12 hdone.1
            have hKX := hKK (.int .i64 70) X (hI.next (i := 15) (Below.refl _ X) (by omega) (fun L' hL' => rfl))
            simp only [P30] at e12
            simp [wpOpIn, Region.wanted, yielded, Oper.wpIn, Oper.semAt_eq, execOp, Oper.uponIn, go_sem, e12]
            first | exact hKX | (simp [upd, e12] at hKX; exact hKX)
          case inr.inr.inr.inr.inr.inr.inr.inr.inr.inr.inr.inr.inr.inr.inr.inr =>
            simp at ho; subst ho; simp [Region.binds] at hdone
            have e13 := hI.val 13 hdone.1
            have hKX := hKK (.int .i64 (j : Int)) X (hI.next (i := 16) (Below.refl _ X) (by omega) (fun L' hL' => rfl))
            simp only [P30] at e13
            simp [wpOpIn, Region.wanted, yielded, Oper.wpIn, Oper.semAt_eq, execOp, Oper.uponIn, go_sem, e13]
            first | exact hKX | (simp [upd, e13] at hKX; exact hKX)
        · intro L u X hall hI
          obtain ⟨g0, e0, _⟩ := hI.val 0 (hall 0 (by decide))
          have e1 := hI.val 1 (hall 1 (by decide))
          have e3 := hI.val 3 (hall 3 (by decide))
          have e4 := hI.val 4 (hall 4 (by decide))
          have e5 := hI.val 5 (hall 5 (by decide))
          have e8 := hI.val 8 (hall 8 (by decide))
          have e9 := hI.val 9 (hall 9 (by decide))
          have e10 := hI.val 10 (hall 10 (by decide))
          have e11 := hI.val 11 (hall 11 (by decide))
          have e12 := hI.val 12 (hall 12 (by decide))
          have e13 := hI.val 13 (hall 13 (by decide))
          have e14 := hI.val 14 (hall 14 (by decide))
          have e15 := hI.val 15 (hall 15 (by decide))
          have e16 := hI.val 16 (hall 16 (by decide))
          obtain ⟨g2, d2, e2, _⟩ := hI.val 2 (hall 2 (by decide))
          obtain ⟨g6, e6, _⟩ := hI.val 6 (hall 6 (by decide))
          obtain ⟨g7, d7, e7, _, _, _⟩ := hI.val 7 (hall 7 (by decide))
          simp only [P30] at e1 e3 e4 e5 e8 e9 e10 e11 e12 e13 e14 e15 e16
          simp only [e0, e1, e2, e3, e4, e5, e6, e7, e8, e9, e10, e11, e12, e13, e14, e15, e16]
          have HWX := Hid.mk' (HWS.out.keep hI.mem)
          clear e0 e1 e2 e3 e4 e5 e6 e7 e8 e9 e10 e11 e12 e13 e14 e15 e16 hI hall
          have cx1 := HX1.out _ HWX.out.ex
          have HN3 := Hid.mk' (al_bad (n := 3) (fold := fold) (some ⟨X.heap.size, 0, none⟩) 3 1 rfl (HWX.out.keep ((Below.refl _ X).alloc (Nat.le_refl _) (.cells #[.string x1, .string ⟨#[]⟩, .string ⟨#[]⟩] 9))) (three_at X x1) (by omega) (by omega) (by omega) HZ3.out (by omega) HBE.out.2 HBE1.out)
          have HN0 := Hid.mk' (fun V => new_few none 0 0 fold V (.inl rfl) (by omega))
          go_wp2_with (first
            | (go_at_call 7; refine HN3.out.mono ?_; rintro e wy ⟨rfl, hwy⟩; have HWY := Hid.mk' hwy; clear hwy HWX HN3)
            | (go_at_call 7; refine (HN0.out _).mono ?_; rintro e wu ⟨rfl, hwu⟩; have hwu' := hwu.symm; subst hwu'; clear HN0)
            | fail)
          go_ret
          exact ⟨rfl, HWY.out.bel⟩
  · obtain ⟨mo, hmo⟩ : ∃ mo, ns2 = ns + mo := by
      have h1 := more_ns2 (by rw [← hLL]; exact HFL2.out.1)
      rw [← hLL, HNS.out.1, HNS.out.2] at h1
      exact ⟨ns2 - ns, by omega⟩
    have hmz : mo ≤ z.size := by
      have h1 := (more_ns2 (by rw [← hLL]; exact HFL2.out.1)).2.1
      rw [← hLL, HNS.out.1, HNS.out.2] at h1
      omega
    have HBG : Hid (Mn.begK L z m = decide (mo = 0)) := Hid.mk' (by
      have h1 := (more_ns2 (by rw [← hLL]; exact HFL2.out.1)).2.2
      rw [← hLL, HNS.out.1, HNS.out.2, HM.out] at h1
      rw [h1]
      congr 1
      rw [hmo]
      simp)
    have hm2e : m2 = m + 1 := by rw [← HM2.out, hLL, List.length_append, HM.out]; rfl
    have hmlt : (m : Int) < (m2 : Int) := by omega
    have hmne : ¬ (m2 : Int) = (m : Int) := by omega
    have hmneB : ((m2 : Int) == (m : Int)) = false := beq_eq_false_iff_ne.2 hmne
    have hsub : (ns2 : Int) - (ns : Int) = (mo : Int) := by omega
    have hzs : z.size ≤ 40 := (HFL2.out.1.siz z (by rw [hLL]; simp)).2
    have hwrm : IntKind.i64.wrap (mo : Int) = (mo : Int) := by rw [IntKind.wrap_i64]; omega
    have hmo0 : ¬ (mo : Int) < 0 := by omega
    have hmzN : ¬ (z.size : Int) < (mo : Int) := by omega
    have cz : w7.cell? ⟨gw2, m, none⟩ = some (.string z) := by
      obtain ⟨g9, o9, h9, h10⟩ := hKs2.out _ HW.out.ex m (by rw [HM2.out]; omega)
      cases h9
      rw [hLL, Nat.zero_add, List.getD_eq_getElem?_getD, List.getElem?_append_right (by rw [HM.out]; omega), HM.out, Nat.sub_self] at h10
      exact h10
    clear hmo hm2e hLL HMO HNS
    go_wp2_with (first
      | (go_at_call 14; refine (HST2.out _ _ (hKm2.out _ HW.out.ex)).mono ?_; rintro e w8 ⟨rfl, hw8⟩; have hw8' := hw8.symm; subst hw8'; clear HST2)
      | (go_at_call 14; refine (HST.out _ _ (hKm.out _ HW.out.ex)).mono ?_; rintro e w9 ⟨rfl, hw9⟩; have hw9' := hw9.symm; subst hw9')
      | fail)
    go_loopw [20, 21] (fun bv iv wr => ∃ i : Nat, bv = .bool (Mn.begK L z i) ∧ iv = .int .i64 (i : Int) ∧ i ≤ m ∧ Hid (AlW K b w wr)) (fun bv iv _ => m - (intOf iv).toNat)
    case atStart => exact ⟨0, rfl, rfl, Nat.zero_le _, HW⟩
    case round =>
      obtain ⟨i, rfl, rfl, him, HWR⟩ := hrel
      rename World => wr
      by_cases hi : i < m
      · have hiI : (i : Int) < (m : Int) := by omega
        have hiN : ¬ (m : Int) ≤ (i : Int) := by omega
        obtain ⟨x, hx⟩ : ∃ x, L.getD i ByteArray.empty = x := ⟨_, rfl⟩
        have c1 : wr.cell? ⟨gw, i, none⟩ = some (.string x) := by
          obtain ⟨g9, o9, h9, h10⟩ := hKs.out _ HWR.out.ex i (by rw [HM.out]; omega)
          cases h9
          rw [hx, Nat.zero_add] at h10
          exact h10
        have hbn := Mn.begK_next L z i (by rw [HM.out]; omega)
        rw [hx] at hbn
        have hxs : x.size ≤ 40 := (HFL.out.1.siz x (by rw [← hx, List.getD_eq_getElem?_getD, List.getElem?_eq_getElem (by rw [HM.out]; omega)]; exact List.getElem_mem _)).2
        obtain ⟨bg, hbg⟩ : ∃ bg, Mn.begK L z i = bg := ⟨_, rfl⟩
        rw [hbg] at hbn ⊢
        have HCO := Hid.mk' (fun V hV => common_any x z V (by omega) (by omega) (hKt.out V hV))
        obtain ⟨cm, hcm9⟩ : ∃ cm, Swar.comL x z = cm := ⟨_, rfl⟩
        rw [hcm9] at hbn HCO
        have HBN := Hid.mk' hbn
        clear hbn hbg hx hcm9
        cases bg
        · by_cases hq : cm = z.size
          · subst hq
            go_wp2_with (first | (go_at_call 15; refine (HCO.out _ HWR.out.ex).mono ?_; rintro e w8 ⟨rfl, hw8⟩; have HW8 := Hid.mk' (HWR.out.drew hw8); clear hw8) | fail)
            go_roundw
            case rel => exact ⟨i + 1, by rw [HBN.out]; simp, by simp, by omega, HW8⟩
            case measure =>
              simp [intOf]
              omega
          · have hqI : ¬ (cm : Int) = (z.size : Int) := by omega
            have hqB : ((cm : Int) == (z.size : Int)) = false := beq_eq_false_iff_ne.2 hqI
            go_wp2_with (first | (go_at_call 15; refine (HCO.out _ HWR.out.ex).mono ?_; rintro e w8 ⟨rfl, hw8⟩; have HW8 := Hid.mk' (HWR.out.drew hw8); clear hw8) | fail)
            go_roundw
            case rel => exact ⟨i + 1, by rw [HBN.out]; simp [hq], by simp, by omega, HW8⟩
            case measure =>
              simp [intOf]
              omega
        · go_wp2
          go_roundw
          case rel => exact ⟨i + 1, by rw [HBN.out]; simp, by simp, by omega, HWR⟩
          case measure =>
            simp [intOf]
            omega
      · obtain rfl : i = m := by omega
        have hiI : ¬ (i : Int) < (i : Int) := by omega
        rw [HBG.out]
        rcases Nat.eq_zero_or_pos mo with rfl | hmp
        · go_upto_region 20 with fail
          have HW0 := HWR
          clear HWR
          go_wp2_with (first
            | (go_at_call 9; refine (HFO.out _ _ sb _ _ HW0.out (hKm.out _ HW0.out.ex) (hKs.out _ HW0.out.ex)).mono ?_; rintro e wa ⟨o, base, rv, rfl, hwa⟩; have HWa := Hid.mk' hwa; clear hwa HFO)
            | (go_at_call 9; refine (HFO2.out _ _ sb2 _ _ HWa.out (hKm2.out _ HWa.out.ex.1) (hKs2.out _ HWa.out.ex.1)).mono ?_; rintro e wb ⟨o2, base2, rv2, rfl, hwb⟩; have HWb := Hid.mk' hwb; clear hwb HWa HFO2)
            | fail)
          obtain ⟨K3, hS3, hS23, hR3, hR23, HW3⟩ : ∃ K3 : World → Prop, Hid (∀ V, K3 V → StrAt V (some ⟨gw, 0, none⟩) L) ∧ Hid (∀ V, K3 V → StrAt V (some ⟨gw2, 0, none⟩) L2) ∧ Hid (∀ V, K3 V → RowsM base o i (Mn.plc A) rv V) ∧ Hid (∀ V, K3 V → RowsM base2 o2 m2 (Mn.plc A2) rv2 V) ∧ Hid (AlW K3 b w wb) := ⟨_, fun V h => hKs.out V h.1.1, fun V h => hKs2.out V h.1.1, fun V h => h.1.2, fun V h => h.2, HWb.out⟩
          clear HWb HW0 hKm hKm2 HST hKs hKs2 hKt
          go_loopw [26, 27] (fun iv sv wx => ∃ j : Nat, iv = .int .i64 (j : Int) ∧ j ≤ i ∧ Hid (AlW K3 b w wx)) (fun iv sv _ => i - (intOf iv).toNat)
          case atStart => exact ⟨0, rfl, Nat.zero_le _, HW3⟩
          case round =>
            obtain ⟨j, rfl, hjm, HWS⟩ := hrel
            rename World => ws
            by_cases hj : j < i
            · have hjI : (j : Int) < (i : Int) := by omega
              have hjN : ¬ (i : Int) ≤ (j : Int) := by omega
              have hj2I : (j : Int) < (m2 : Int) := by omega
              have hj2N : ¬ (m2 : Int) ≤ (j : Int) := by omega
              obtain ⟨l, hl⟩ : ∃ l, Mn.plc A j = l := ⟨_, rfl⟩
              have hl2 : Mn.plc A2 j = l := (HPT.out j hj).trans hl
              obtain ⟨nl, hnl9⟩ : ∃ nl, l.length = nl := ⟨_, rfl⟩
              have hlen : l.length ≤ 100000000 := by rw [← hl]; exact HAL.out j
              obtain ⟨pv, cv, hrv⟩ : ∃ pv cv, rv j = .slice pv nl cv := by
                have := (hR3.out _ HWS.out.ex).row j hj
                rw [hl, hnl9] at this
                exact mr_shape this
              obtain ⟨pv2, cv2, hrv2⟩ : ∃ pv cv, rv2 j = .slice pv nl cv := by
                have := (hR23.out _ HWS.out.ex).row j (by omega)
                rw [hl2, hnl9] at this
                exact mr_shape this
              have HRC : Hid (∀ V, K3 V → V.cell? ⟨o, j, none⟩ = some (.slice pv nl cv) ∧ V.cell? ⟨o2, j, none⟩ = some (.slice pv2 nl cv2) ∧ V.ownsRow base 3 1 (.slice pv nl cv) l.length (intL l) ∧ V.ownsRow base2 3 1 (.slice pv2 nl cv2) l.length (intL l)) := fun V hV => by
                have h1 := ((hR3.out V hV).cell j hj).1
                have h2 := (hR3.out V hV).row j hj
                have h3 := ((hR23.out V hV).cell j (by omega)).1
                have h4 := (hR23.out V hV).row j (by omega)
                rw [hrv] at h1 h2
                rw [hrv2] at h3 h4
                rw [hl] at h2
                rw [hl2] at h4
                exact ⟨h1, h3, h2, h4⟩
              have HSI := Hid.mk' (fun V (hV : K3 V) => sameInts_any base base2 _ _ l V (by omega) (HRC.out V hV).2.2.1 (HRC.out V hV).2.2.2)
              obtain ⟨k1, k2, _, _⟩ := HRC.out _ HWS.out.ex
              clear hl hl2 hrv hrv2 hnl9 hlen
              go_upto_region 27 with fail
              go_region_held3 (fun w' => w'.cell? ⟨o, j, none⟩ = some (.slice pv nl cv) ∧ w'.cell? ⟨o2, j, none⟩ = some (.slice pv2 nl cv2)) (first | go_keep | exact ⟨k1, k2⟩ | exact ⟨z1, z2⟩)
                ((first | (go_at_call 12; refine (HSI.out _ (HWS.out.drew ⟨1, rfl⟩).ex).mono ?_; rintro e wz ⟨rfl, hwz⟩; have HWZ := Hid.mk' ((HWS.out.drew ⟨1, rfl⟩).drew hwz); have z1 := (HRC.out _ (HWZ.out).ex).1; have z2 := (HRC.out _ (HWZ.out).ex).2.1; clear hwz)))
              all_goals
                go_wp2_with fail
                go_roundw
                case rel => exact ⟨j + 1, by simp, by omega, HWZ⟩
                case measure =>
                  simp [intOf]
                  omega
            · obtain rfl : j = i := by omega
              have hjI : ¬ (j : Int) < (j : Int) := by omega
              obtain ⟨x0, hx0⟩ : ∃ x0, L2.getD 0 ByteArray.empty = x0 := ⟨_, rfl⟩
              obtain ⟨x1, hx1⟩ : ∃ x1, L.getD 0 ByteArray.empty = x1 := ⟨_, rfl⟩
              have HBT := Hid.mk' (Mn.bad_twice HFL2.out.1 HFL2.out.2)
              rw [hx0, HM2.out] at HBT
              have hm1 : x1 ∈ L := by
                rw [← hx1, List.getD_eq_getElem?_getD, List.getElem?_eq_getElem HFL.out.2]
                exact List.getElem_mem _
              have hm2 : x0 ∈ L2 := by
                rw [← hx0, List.getD_eq_getElem?_getD, List.getElem?_eq_getElem HFL2.out.2]
                exact List.getElem_mem _
              have hz1 := HFL.out.1.siz x1 hm1
              have HZ2 : Hid (∀ x ∈ L2 ++ [x0], x.size ≤ 1125899906842624) := fun x hx => by
                rcases List.mem_append.1 hx with hx | hx
                · have := (HFL2.out.1.siz x hx).2
                  omega
                · simp at hx
                  subst hx
                  have := (HFL2.out.1.siz _ hm2).2
                  omega
              have HBE := Hid.mk' (Mn.bad_empty (fold := fold) x1 hz1.1 hz1.2)
              have HX0 : Hid (∀ V, K3 V → V.cell? ⟨gw2, 0, none⟩ = some (.string x0)) := fun V hV => by
                obtain ⟨g9, o9, h9, h10⟩ := hS23.out V hV 0 HFL2.out.2
                cases h9
                rw [hx0] at h10
                exact h10
              have HX1 : Hid (∀ V, K3 V → V.cell? ⟨gw, 0, none⟩ = some (.string x1)) := fun V hV => by
                obtain ⟨g9, o9, h9, h10⟩ := hS3.out V hV 0 HFL.out.2
                cases h9
                rw [hx1] at h10
                exact h10
              have y0 := HX0.out _ HWS.out.ex
              have HZ3 : Hid (∀ x ∈ [x1, (⟨#[]⟩ : ByteArray), ⟨#[]⟩], x.size ≤ 1125899906842624) := fun x hx => by
                simp at hx
                rcases hx with rfl | rfl
                · omega
                · decide
              have HBE1 : Hid (∀ j, j < 1 → Mn.bad fold [x1, (⟨#[]⟩ : ByteArray), ⟨#[]⟩] j = false) := fun j hj => by
                obtain rfl : j = 0 := by omega
                exact HBE.out.1
              have hM0 : (0 : Int) < (j : Int) := by omega
              have hM20 : (0 : Int) < (m2 : Int) := by omega
              clear hm1 hm2 hx0 hx1
              go_upto_region 30 with fail
              have hN20 : 0 < m2 := by omega
              refine (wpIn_wide (n := 6)).1 ?_
              refine region_rel (by kernel_rfl) (fun u => { tmps := #[.slice p n cap, .bool fold, .string y, .string s, undef, undef, undef, undef, u8, .bool true, .slice (some ⟨gw, 0, none⟩) j c, .slice (some ⟨gw2, 0, none⟩) m2 cc, .pointer (some ⟨sb, 0, none⟩), .int .i64 0, .int .i64 0, .pointer (some ⟨sb2, 0, none⟩), .int .i64 0, .int .i64 0, .int .i64 0, .string z, .bool true, .int .i64 (j : Int), .slice (some ⟨o, 0, none⟩) j j, .bool true, .slice (some ⟨o2, 0, none⟩) m2 m2, .bool true, .int .i64 (j : Int), u27, u 14, u 15, u 16, undef, undef, undef, undef, undef, undef, .bool true, .slice p n cap, .bool fold, .slice (some ⟨gw, 0, none⟩) j c, .slice (some ⟨w2.heap.size, 0, none⟩) 0 0, .slice (some ⟨gw, 0, none⟩) j c, .slice q3 j c3, .string y, .slice (some ⟨w3.heap.size, 0, none⟩) 1 1, .slice q4 (j + 1) c4, .bool fold, .slice (some ⟨gw2, 0, none⟩) m2 cc, .tuple #[.pointer (some ⟨sb, 0, none⟩), .int .i64 0, .int .i64 0], .slice (some ⟨gw, 0, none⟩) j c, .bool fold, .tuple #[.pointer (some ⟨sb, 0, none⟩), .int .i64 0, .int .i64 0], .pointer (some ⟨sb, 0, none⟩), .int .i64 0, .int .i64 0, .tuple #[.pointer (some ⟨sb2, 0, none⟩), .int .i64 0, .int .i64 0], .slice (some ⟨gw2, 0, none⟩) m2 cc, .bool fold, .tuple #[.pointer (some ⟨sb2, 0, none⟩), .int .i64 0, .int .i64 0], .pointer (some ⟨sb2, 0, none⟩), .int .i64 0, .int .i64 0, .bool true, .bool false, .bool false, .pointer (some ⟨sb, 0, none⟩), .bool false, .bool false, .bool false, .pointer (some ⟨sb2, 0, none⟩), .bool false, .bool false, .bool false, .int .i64 0, .bool false, .bool false, .bool false, .int .i64 0, .bool false, .bool false, .pointer (some ⟨sb2, 0, none⟩), .int .i64 (ns2 : Int), .pointer (some ⟨sb, 0, none⟩), .int .i64 (ns : Int), .int .i64 0, .pointer (some ⟨sb, 0, none⟩), .int .i64 (ns : Int), .bool (decide ((ns : Int) < 2)), .bool (decide ((ns : Int) < 2)), .int .i64 0, .bool false, .bool (decide ((ns : Int) < 2)), .bool (decide ((ns : Int) < 2)), .slice (some ⟨gw2, 0, none⟩) m2 cc, .int .i64 (m2 : Int), .slice (some ⟨gw, 0, none⟩) j c, .int .i64 (j : Int), .bool false, .bool false, undef, undef, .bool false, .bool (decide ((ns : Int) < 2)), .slice (some ⟨gw2, 0, none⟩) m2 cc, .int .i64 (m2 : Int), .slice (some ⟨gw, 0, none⟩) j c, .int .i64 (j : Int), .bool true, .slice (some ⟨gw2, 0, none⟩) m2 cc, .slice (some ⟨gw, 0, none⟩) j c, .int .i64 (j : Int), .pointer (some ⟨gw2, j, none⟩), .string z, .int .i64 (j : Int), .slice (some ⟨gw, 0, none⟩) j c, .int .i64 (j : Int), .bool false, u118, u119, u120, u121, u122, u123, u124, u125, u126, u127, u128, u129, u130, u131, .int .i64 0, .string z, .int .i64 (z.size : Int), .bool (decide ((z.size : Int) < 0)), .bool (decide ((z.size : Int) < 0)), .bool true, .int .i64 0, .bool true, .bool false, .bool (decide ((z.size : Int) < 0)), .tuple #[.slice (some ⟨o, 0, none⟩) j j, .bool true], .pointer (some ⟨sb, 0, none⟩), .slice (some ⟨gw, 0, none⟩) j c, .string s, .tuple #[.slice (some ⟨o, 0, none⟩) j j, .bool true], .slice (some ⟨o, 0, none⟩) j j, .bool true, .tuple #[.slice (some ⟨o2, 0, none⟩) m2 m2, .bool true], .pointer (some ⟨sb2, 0, none⟩), .slice (some ⟨gw2, 0, none⟩) m2 cc, .string s, .tuple #[.slice (some ⟨o2, 0, none⟩) m2 m2, .bool true], .slice (some ⟨o2, 0, none⟩) m2 m2, .bool true, .bool true, .bool false, .bool false, .bool true, .bool false, .bool false, .int .i64 (j : Int), .slice (some ⟨gw, 0, none⟩) j c, .int .i64 (j : Int), .bool false, u166, u167, u168, u169, u170, u171, u172, u173, u174, u175, u176, u177, u178, u 10, u 0, u 1, u 2, u 3, u 4, u 5, u 6, u 7, u 8, u 9, u 11, u 12, u 13, undef, undef, undef, undef, undef, undef, undef, undef, undef, undef, undef, undef, undef, undef, undef, undef, undef, undef, undef, undef, undef, undef, undef, undef, undef, undef, undef, undef, undef, undef, undef, undef, undef, undef, undef, undef], defers := [] }) (fun k => undef) ws (I30 ws gw2 m2 cc x0 fold L2) (fun L hL => I30.start ws gw2 m2 cc x0 fold L2 _ L hL) (deps_of' (by kernel_rfl)) ?_ ?_
              · intro L u X hI i0 hi0 hLi o9 ho hdone KK hKK
                rcases (show i0 = 0 ∨ i0 = 1 ∨ i0 = 2 ∨ i0 = 3 ∨ i0 = 4 ∨ i0 = 5 ∨ i0 = 6 ∨ i0 = 7 ∨ i0 = 8 ∨ i0 = 9 ∨ i0 = 10 ∨ i0 = 11 ∨ i0 = 12 ∨ i0 = 13 ∨ i0 = 14 ∨ i0 = 15 ∨ i0 = 16 by have : i0 < 17 := hi0; omega) with rfl | rfl | rfl | rfl | rfl | rfl | rfl | rfl | rfl | rfl | rfl | rfl | rfl | rfl | rfl | rfl | rfl
                case inl =>
                  simp at ho; subst ho; simp [Region.binds] at hdone
                  have hKX := hKK (.slice (some ⟨X.heap.size, 0, none⟩) 0 0) (X.alloc (.cells #[] 9)) (hI.next (i := 0) ((Below.refl _ X).alloc (Nat.le_refl _) _) (by omega) (fun L' hL' => ⟨X.heap.size, rfl, fun _ => ⟨hI.mem.size, heap_alloc_new X _⟩⟩))
                  simp [wpOpIn, Region.wanted, yielded, Oper.wpIn, Oper.semAt_eq, execOp, Oper.uponIn, go_sem]
                  first | exact hKX | (simp [upd] at hKX; exact hKX)
                case inr.inl =>
                  simp at ho; subst ho; simp [Region.binds] at hdone
                  have hKX := hKK (.slice (some ⟨gw2, 0, none⟩) m2 cc) X (hI.next (i := 1) (Below.refl _ X) (by omega) (fun L' hL' => rfl))
                  simp [wpOpIn, Region.wanted, yielded, Oper.wpIn, Oper.semAt_eq, execOp, Oper.uponIn, go_sem]
                  first | exact hKX | (simp [upd] at hKX; exact hKX)
                case inr.inr.inr.inl =>
                  simp at ho; subst ho; simp [Region.binds] at hdone
                  have hKX := hKK (.slice (some ⟨gw2, 0, none⟩) m2 cc) X (hI.next (i := 3) (Below.refl _ X) (by omega) (fun L' hL' => rfl))
                  simp [wpOpIn, Region.wanted, yielded, Oper.wpIn, Oper.semAt_eq, execOp, Oper.uponIn, go_sem]
                  first | exact hKX | (simp [upd] at hKX; exact hKX)
                case inr.inr.inr.inr.inl =>
                  simp at ho; subst ho; simp [Region.binds] at hdone
                  have e3 := hI.val 3 hdone
                  have hKX := hKK (.pointer (some ⟨gw2, 0, none⟩)) X (hI.next (i := 4) (Below.refl _ X) (by omega) (fun L' hL' => rfl))
                  simp only [P30] at e3
                  simp [wpOpIn, Region.wanted, yielded, Oper.wpIn, Oper.semAt_eq, execOp, Oper.uponIn, go_sem, e3, hM20, hN20]
                  first | exact hKX | (simp [upd, e3, hM20, hN20] at hKX; exact hKX)
                case inr.inr.inr.inr.inr.inl =>
                  simp at ho; subst ho; simp [Region.binds] at hdone
                  have e4 := hI.val 4 hdone
                  simp only [P30] at e4
                  have hcx := HX0.out X (HWS.out.keep hI.mem).ex
                  have hKX := hKK (.string x0) X (hI.next (i := 5) (Below.refl _ X) (by omega) (fun L' hL' => rfl))
                  simp [wpOpIn, Region.wanted, yielded, Oper.wpIn, Oper.semAt_eq, execOp, Oper.uponIn, go_sem, e4, hcx]
                  first | exact hKX | (simp [upd, e4] at hKX; exact hKX)
                case inr.inr.inr.inr.inr.inr.inl =>
                  simp at ho; subst ho; simp [Region.binds] at hdone
                  have e5 := hI.val 5 hdone
                  simp only [P30] at e5
                  have hKX := hKK (.slice (some ⟨X.heap.size, 0, none⟩) 1 1) (X.alloc (.cells #[.string x0] 9)) (hI.next (i := 6) ((Below.refl _ X).alloc (Nat.le_refl _) _) (by omega) (fun L' hL' => ⟨X.heap.size, rfl, fun _ => heap_alloc_new X _⟩))
                  simp [wpOpIn, Region.wanted, yielded, Oper.wpIn, Oper.semAt_eq, execOp, Oper.uponIn, go_sem, e5]
                  first | exact hKX | (simp [upd, e5] at hKX; exact hKX)
                case inr.inr.inl =>
                  simp at ho; subst ho; simp [Region.binds] at hdone
                  obtain ⟨g0, e0, h0⟩ := hI.val 0 hdone.1
                  have e1 := hI.val 1 hdone.2
                  simp only [P30] at e1
                  obtain ⟨hB0, hE0⟩ := h0 hLi
                  have hown : X.ownsRow ws.heap.size 9 1 (.slice (some ⟨g0, 0, none⟩) 0 0) 0 [] := ⟨rfl, .inr ⟨g0, 0, #[], rfl, hB0, hE0, Nat.le_refl _, Nat.zero_le _, rfl, rfl⟩⟩
                  obtain ⟨v2, Y, hrun, ho2, hg2, hnil, _⟩ := run_append_own_at (P := Tryd.prog) X ws.heap.size 22 22 9 i1 (.string ⟨#[]⟩) 1 16 Tryd.underlying22 HI.out.1 HI.out.2.1 HI.out.2.2.1 HI.out.2.2.2 rfl (by decide) _ 0 [] hown ⟨gw2, 0, none⟩ m2 cc (strL L2) (strG_len L2 _ HM2.out) (strG_news (hS23.out X (HWS.out.keep hI.mem).ex)) (strG_one _) (by unfold maxLen; omega) (by omega) hI.mem.size
                  simp only [Nat.zero_add, List.nil_append] at ho2
                  obtain ⟨g2, d2, rfl⟩ := own_some ho2 (by omega)
                  have hKX := hKK _ Y (hI.app2 hLi hB0 hE0 ho2 hg2)
                  refine op_append rfl rfl rfl (v1 := .slice (some ⟨g0, 0, none⟩) 0 0) (v2 := .slice (some ⟨gw2, 0, none⟩) m2 cc) ?_ ?_ hrun ?_
                  · simp [go_sem, e0]
                  · simp [go_sem, e1]
                  · first | exact hKX | (simp [upd, go_sem] at hKX ⊢; exact hKX)
                case inr.inr.inr.inr.inr.inr.inr.inl =>
                  simp at ho; subst ho; simp [Region.binds] at hdone
                  obtain ⟨g2, d2, e2, h2⟩ := hI.val 2 hdone.1
                  obtain ⟨g6, e6, h6⟩ := hI.val 6 hdone.2.1
                  obtain ⟨v2, Y, hrun, ho2, hg2, hnil, _⟩ := run_append_own_at (P := Tryd.prog) X ws.heap.size 22 22 9 i1 (.string ⟨#[]⟩) 1 16 Tryd.underlying22 HI.out.1 HI.out.2.1 HI.out.2.2.1 HI.out.2.2.2 rfl (by decide) _ m2 (strL L2) (h2 hLi) ⟨g6, 0, none⟩ 1 1 [.string x0] rfl (one_news (one_cell (h6 hLi))) (str_one _) (by unfold maxLen; omega) (by omega) hI.mem.size
                  obtain ⟨g3, d3, rfl⟩ := own_some ho2 (by omega)
                  have hKX := hKK _ Y (hI.app7 hdone.1 (fun k e => ((h2 hLi).lt k e).1) hg2 (own_cap ho2).1 (own_cap ho2).2 (str_at (by rw [strL_snoc]; exact ho2) (by rw [List.length_append, HM2.out]; rfl)))
                  refine op_append rfl rfl rfl (v1 := .slice (some ⟨g2, 0, none⟩) m2 d2) (v2 := .slice (some ⟨g6, 0, none⟩) 1 1) ?_ ?_ hrun ?_
                  · simp [go_sem, e2]
                  · simp [go_sem, e6]
                  · first | exact hKX | (simp [upd, go_sem] at hKX ⊢; exact hKX)
                case inr.inr.inr.inr.inr.inr.inr.inr.inl =>
                  simp at ho; subst ho; simp [Region.binds] at hdone
                  have hKX := hKK (.bool fold) X (hI.next (i := 8) (Below.refl _ X) (by omega) (fun L' hL' => rfl))
                  simp [wpOpIn, Region.wanted, yielded, Oper.wpIn, Oper.semAt_eq, execOp, Oper.uponIn, go_sem]
                  first | exact hKX | (simp [upd] at hKX; exact hKX)
                case inr.inr.inr.inr.inr.inr.inr.inr.inr.inl =>
                  simp at ho; subst ho; simp [Region.binds] at hdone
                  obtain ⟨g7, d7, e7, hd1, hd2, h7⟩ := hI.val 7 hdone.1
                  have e8 := hI.val 8 hdone.2.1
                  simp only [P30] at e8
                  simp [wpOpIn, Region.wanted, yielded, Oper.wpIn, Oper.semAt_eq, execOp, Oper.uponIn, go_sem, e7, e8]
                  refine ⟨trivial, ?_⟩
                  refine CallsIn.mono (callsIn_wide.2 (al_bad (some ⟨g7, 0, none⟩) d7 m2 (by rw [List.length_append, HM2.out]; rfl) (AlW.self ws (HWS.out.keep hI.mem)) (h7 hLi) (by omega) hd1 hd2 HZ2.out (by omega) HBT.out.2 HBT.out.1)) ?_
                  rintro e Y ⟨rfl, hY⟩
                  have hKX := hKK (.tuple #[.pointer none, .int .i64 70, .int .i64 (m2 : Int)]) Y (hI.next (i := 9) hY.ex (by omega) (fun L' hL' => rfl))
                  first | exact hKX | (simp [upd, e7, e8] at hKX; exact hKX)
                case inr.inr.inr.inr.inr.inr.inr.inr.inr.inr.inl =>
                  simp at ho; subst ho; simp [Region.binds] at hdone
                  have e9 := hI.val 9 hdone
                  have hKX := hKK (.tuple #[.pointer none, .int .i64 70, .int .i64 (m2 : Int)]) X (hI.next (i := 10) (Below.refl _ X) (by omega) (fun L' hL' => rfl))
                  simp only [P30] at e9
                  simp [wpOpIn, Region.wanted, yielded, Oper.wpIn, Oper.semAt_eq, execOp, Oper.uponIn, go_sem, e9]
                  first | exact hKX | (simp [upd, e9] at hKX; exact hKX)
                case inr.inr.inr.inr.inr.inr.inr.inr.inr.inr.inr.inl =>
                  simp at ho; subst ho; simp [Region.binds] at hdone
                  have e10 := hI.val 10 hdone
                  have hKX := hKK (.pointer none) X (hI.next (i := 11) (Below.refl _ X) (by omega) (fun L' hL' => rfl))
                  simp only [P30] at e10
                  simp [wpOpIn, Region.wanted, yielded, Oper.wpIn, Oper.semAt_eq, execOp, Oper.uponIn, go_sem, e10]
                  first | exact hKX | (simp [upd, e10] at hKX; exact hKX)
                case inr.inr.inr.inr.inr.inr.inr.inr.inr.inr.inr.inr.inl =>
                  simp at ho; subst ho; simp [Region.binds] at hdone
                  have e10 := hI.val 10 hdone
                  have hKX := hKK (.int .i64 70) X (hI.next (i := 12) (Below.refl _ X) (by omega) (fun L' hL' => rfl))
                  simp only [P30] at e10
                  simp [wpOpIn, Region.wanted, yielded, Oper.wpIn, Oper.semAt_eq, execOp, Oper.uponIn, go_sem, e10]
                  first | exact hKX | (simp [upd, e10] at hKX; exact hKX)
                case inr.inr.inr.inr.inr.inr.inr.inr.inr.inr.inr.inr.inr.inl =>
                  simp at ho; subst ho; simp [Region.binds] at hdone
                  have e10 := hI.val 10 hdone
                  have hKX := hKK (.int .i64 (m2 : Int)) X (hI.next (i := 13) (Below.refl _ X) (by omega) (fun L' hL' => rfl))
                  simp only [P30] at e10
                  simp [wpOpIn, Region.wanted, yielded, Oper.wpIn, Oper.semAt_eq, execOp, Oper.uponIn, go_sem, e10]
                  first | exact hKX | (simp [upd, e10] at hKX; exact hKX)
                case inr.inr.inr.inr.inr.inr.inr.inr.inr.inr.inr.inr.inr.inr.inl =>
                  simp at ho; subst ho; simp [Region.binds] at hdone
                  have e11 := hI.val 11 hdone.1
                  have hKX := hKK (.pointer none) X (hI.next (i := 14) (Below.refl _ X) (by omega) (fun L' hL' => rfl))
                  simp only [P30] at e11
                  simp [wpOpIn, Region.wanted, yielded, Oper.wpIn, Oper.semAt_eq, execOp, Oper.uponIn, go_sem, e11]
                  first | exact hKX | (simp [upd, e11] at hKX; exact hKX)
                case inr.inr.inr.inr.inr.inr.inr.inr.inr.inr.inr.inr.inr.inr.inr.inl =>
                  simp at ho; subst ho; simp [Region.binds] at hdone
                  have e12 := hI.val 12 hdone.1
                  have hKX := hKK (.int .i64 70) X (hI.next (i := 15) (Below.refl _ X) (by omega) (fun L' hL' => rfl))
                  simp only [P30] at e12
                  simp [wpOpIn, Region.wanted, yielded, Oper.wpIn, Oper.semAt_eq, execOp, Oper.uponIn, go_sem, e12]
                  first | exact hKX | (simp [upd, e12] at hKX; exact hKX)
                case inr.inr.inr.inr.inr.inr.inr.inr.inr.inr.inr.inr.inr.inr.inr.inr =>
                  simp at ho; subst ho; simp [Region.binds] at hdone
                  have e13 := hI.val 13 hdone.1
                  have hKX := hKK (.int .i64 (m2 : Int)) X (hI.next (i := 16) (Below.refl _ X) (by omega) (fun L' hL' => rfl))
                  simp only [P30] at e13
                  simp [wpOpIn, Region.wanted, yielded, Oper.wpIn, Oper.semAt_eq, execOp, Oper.uponIn, go_sem, e13]
                  first | exact hKX | (simp [upd, e13] at hKX; exact hKX)
              · intro L u X hall hI
                obtain ⟨g0, e0, _⟩ := hI.val 0 (hall 0 (by decide))
                have e1 := hI.val 1 (hall 1 (by decide))
                have e3 := hI.val 3 (hall 3 (by decide))
                have e4 := hI.val 4 (hall 4 (by decide))
                have e5 := hI.val 5 (hall 5 (by decide))
                have e8 := hI.val 8 (hall 8 (by decide))
                have e9 := hI.val 9 (hall 9 (by decide))
                have e10 := hI.val 10 (hall 10 (by decide))
                have e11 := hI.val 11 (hall 11 (by decide))
                have e12 := hI.val 12 (hall 12 (by decide))
                have e13 := hI.val 13 (hall 13 (by decide))
                have e14 := hI.val 14 (hall 14 (by decide))
                have e15 := hI.val 15 (hall 15 (by decide))
                have e16 := hI.val 16 (hall 16 (by decide))
                obtain ⟨g2, d2, e2, _⟩ := hI.val 2 (hall 2 (by decide))
                obtain ⟨g6, e6, _⟩ := hI.val 6 (hall 6 (by decide))
                obtain ⟨g7, d7, e7, _, _, _⟩ := hI.val 7 (hall 7 (by decide))
                simp only [P30] at e1 e3 e4 e5 e8 e9 e10 e11 e12 e13 e14 e15 e16
                simp only [e0, e1, e2, e3, e4, e5, e6, e7, e8, e9, e10, e11, e12, e13, e14, e15, e16]
                have HWX := Hid.mk' (HWS.out.keep hI.mem)
                clear e0 e1 e2 e3 e4 e5 e6 e7 e8 e9 e10 e11 e12 e13 e14 e15 e16 hI hall
                have cx1 := HX1.out _ HWX.out.ex
                have HN3 := Hid.mk' (al_bad (n := 3) (fold := fold) (some ⟨X.heap.size, 0, none⟩) 3 1 rfl (HWX.out.keep ((Below.refl _ X).alloc (Nat.le_refl _) (.cells #[.string x1, .string ⟨#[]⟩, .string ⟨#[]⟩] 9))) (three_at X x1) (by omega) (by omega) (by omega) HZ3.out (by omega) HBE.out.2 HBE1.out)
                have HN0 := Hid.mk' (fun V => new_few none 0 0 fold V (.inl rfl) (by omega))
                go_wp2_with (first
                  | (go_at_call 7; refine HN3.out.mono ?_; rintro e wy ⟨rfl, hwy⟩; have HWY := Hid.mk' hwy; clear hwy HWX HN3)
                  | (go_at_call 7; refine (HN0.out _).mono ?_; rintro e wu ⟨rfl, hwu⟩; have hwu' := hwu.symm; subst hwu'; clear HN0)
                  | fail)
                go_ret
                exact ⟨rfl, HWY.out.bel⟩
        · have hmpN : ¬ mo = 0 := by omega
          have hmpI : ¬ (mo : Int) = 0 := by omega
          have hmpB : ((mo : Int) == 0) = false := beq_eq_false_iff_ne.2 hmpI
          rw [decide_eq_false hmpN]
          go_upto_region 20 with fail
          have HW0 := HWR
          clear HWR
          go_wp2_with (first
            | (go_at_call 9; refine (HFO.out _ _ sb _ _ HW0.out (hKm.out _ HW0.out.ex) (hKs.out _ HW0.out.ex)).mono ?_; rintro e wa ⟨o, base, rv, rfl, hwa⟩; have HWa := Hid.mk' hwa; clear hwa HFO)
            | (go_at_call 9; refine (HFO2.out _ _ sb2 _ _ HWa.out (hKm2.out _ HWa.out.ex.1) (hKs2.out _ HWa.out.ex.1)).mono ?_; rintro e wb ⟨o2, base2, rv2, rfl, hwb⟩; have HWb := Hid.mk' hwb; clear hwb HWa HFO2)
            | fail)
          obtain ⟨K3, hS3, hS23, hR3, hR23, HW3⟩ : ∃ K3 : World → Prop, Hid (∀ V, K3 V → StrAt V (some ⟨gw, 0, none⟩) L) ∧ Hid (∀ V, K3 V → StrAt V (some ⟨gw2, 0, none⟩) L2) ∧ Hid (∀ V, K3 V → RowsM base o i (Mn.plc A) rv V) ∧ Hid (∀ V, K3 V → RowsM base2 o2 m2 (Mn.plc A2) rv2 V) ∧ Hid (AlW K3 b w wb) := ⟨_, fun V h => hKs.out V h.1.1, fun V h => hKs2.out V h.1.1, fun V h => h.1.2, fun V h => h.2, HWb.out⟩
          clear HWb HW0 hKm hKm2 HST hKs hKs2 hKt
          go_loopw [26, 27] (fun iv sv wx => ∃ j : Nat, iv = .int .i64 (j : Int) ∧ j ≤ i ∧ Hid (AlW K3 b w wx)) (fun iv sv _ => i - (intOf iv).toNat)
          case atStart => exact ⟨0, rfl, Nat.zero_le _, HW3⟩
          case round =>
            obtain ⟨j, rfl, hjm, HWS⟩ := hrel
            rename World => ws
            by_cases hj : j < i
            · have hjI : (j : Int) < (i : Int) := by omega
              have hjN : ¬ (i : Int) ≤ (j : Int) := by omega
              have hj2I : (j : Int) < (m2 : Int) := by omega
              have hj2N : ¬ (m2 : Int) ≤ (j : Int) := by omega
              obtain ⟨l, hl⟩ : ∃ l, Mn.plc A j = l := ⟨_, rfl⟩
              have hl2 : Mn.plc A2 j = l := (HPT.out j hj).trans hl
              obtain ⟨nl, hnl9⟩ : ∃ nl, l.length = nl := ⟨_, rfl⟩
              have hlen : l.length ≤ 100000000 := by rw [← hl]; exact HAL.out j
              obtain ⟨pv, cv, hrv⟩ : ∃ pv cv, rv j = .slice pv nl cv := by
                have := (hR3.out _ HWS.out.ex).row j hj
                rw [hl, hnl9] at this
                exact mr_shape this
              obtain ⟨pv2, cv2, hrv2⟩ : ∃ pv cv, rv2 j = .slice pv nl cv := by
                have := (hR23.out _ HWS.out.ex).row j (by omega)
                rw [hl2, hnl9] at this
                exact mr_shape this
              have HRC : Hid (∀ V, K3 V → V.cell? ⟨o, j, none⟩ = some (.slice pv nl cv) ∧ V.cell? ⟨o2, j, none⟩ = some (.slice pv2 nl cv2) ∧ V.ownsRow base 3 1 (.slice pv nl cv) l.length (intL l) ∧ V.ownsRow base2 3 1 (.slice pv2 nl cv2) l.length (intL l)) := fun V hV => by
                have h1 := ((hR3.out V hV).cell j hj).1
                have h2 := (hR3.out V hV).row j hj
                have h3 := ((hR23.out V hV).cell j (by omega)).1
                have h4 := (hR23.out V hV).row j (by omega)
                rw [hrv] at h1 h2
                rw [hrv2] at h3 h4
                rw [hl] at h2
                rw [hl2] at h4
                exact ⟨h1, h3, h2, h4⟩
              have HSI := Hid.mk' (fun V (hV : K3 V) => sameInts_any base base2 _ _ l V (by omega) (HRC.out V hV).2.2.1 (HRC.out V hV).2.2.2)
              obtain ⟨k1, k2, _, _⟩ := HRC.out _ HWS.out.ex
              clear hl hl2 hrv hrv2 hnl9 hlen
              go_upto_region 27 with fail
              go_region_held3 (fun w' => w'.cell? ⟨o, j, none⟩ = some (.slice pv nl cv) ∧ w'.cell? ⟨o2, j, none⟩ = some (.slice pv2 nl cv2)) (first | go_keep | exact ⟨k1, k2⟩ | exact ⟨z1, z2⟩)
                ((first | (go_at_call 12; refine (HSI.out _ (HWS.out.drew ⟨1, rfl⟩).ex).mono ?_; rintro e wz ⟨rfl, hwz⟩; have HWZ := Hid.mk' ((HWS.out.drew ⟨1, rfl⟩).drew hwz); have z1 := (HRC.out _ (HWZ.out).ex).1; have z2 := (HRC.out _ (HWZ.out).ex).2.1; clear hwz)))
              all_goals
                go_wp2_with fail
                go_roundw
                case rel => exact ⟨j + 1, by simp, by omega, HWZ⟩
                case measure =>
                  simp [intOf]
                  omega
            · obtain rfl : j = i := by omega
              have hjI : ¬ (j : Int) < (j : Int) := by omega
              obtain ⟨x0, hx0⟩ : ∃ x0, L2.getD 0 ByteArray.empty = x0 := ⟨_, rfl⟩
              obtain ⟨x1, hx1⟩ : ∃ x1, L.getD 0 ByteArray.empty = x1 := ⟨_, rfl⟩
              have HBT := Hid.mk' (Mn.bad_twice HFL2.out.1 HFL2.out.2)
              rw [hx0, HM2.out] at HBT
              have hm1 : x1 ∈ L := by
                rw [← hx1, List.getD_eq_getElem?_getD, List.getElem?_eq_getElem HFL.out.2]
                exact List.getElem_mem _
              have hm2 : x0 ∈ L2 := by
                rw [← hx0, List.getD_eq_getElem?_getD, List.getElem?_eq_getElem HFL2.out.2]
                exact List.getElem_mem _
              have hz1 := HFL.out.1.siz x1 hm1
              have HZ2 : Hid (∀ x ∈ L2 ++ [x0], x.size ≤ 1125899906842624) := fun x hx => by
                rcases List.mem_append.1 hx with hx | hx
                · have := (HFL2.out.1.siz x hx).2
                  omega
                · simp at hx
                  subst hx
                  have := (HFL2.out.1.siz _ hm2).2
                  omega
              have HBE := Hid.mk' (Mn.bad_empty (fold := fold) x1 hz1.1 hz1.2)
              have HX0 : Hid (∀ V, K3 V → V.cell? ⟨gw2, 0, none⟩ = some (.string x0)) := fun V hV => by
                obtain ⟨g9, o9, h9, h10⟩ := hS23.out V hV 0 HFL2.out.2
                cases h9
                rw [hx0] at h10
                exact h10
              have HX1 : Hid (∀ V, K3 V → V.cell? ⟨gw, 0, none⟩ = some (.string x1)) := fun V hV => by
                obtain ⟨g9, o9, h9, h10⟩ := hS3.out V hV 0 HFL.out.2
                cases h9
                rw [hx1] at h10
                exact h10
              have y0 := HX0.out _ HWS.out.ex
              have HZ3 : Hid (∀ x ∈ [x1, (⟨#[]⟩ : ByteArray), ⟨#[]⟩], x.size ≤ 1125899906842624) := fun x hx => by
                simp at hx
                rcases hx with rfl | rfl
                · omega
                · decide
              have HBE1 : Hid (∀ j, j < 1 → Mn.bad fold [x1, (⟨#[]⟩ : ByteArray), ⟨#[]⟩] j = false) := fun j hj => by
                obtain rfl : j = 0 := by omega
                exact HBE.out.1
              have hM0 : (0 : Int) < (j : Int) := by omega
              have hM20 : (0 : Int) < (m2 : Int) := by omega
              clear hm1 hm2 hx0 hx1
              go_upto_region 30 with fail
              have hN20 : 0 < m2 := by omega
              refine (wpIn_wide (n := 6)).1 ?_
              refine region_rel (by kernel_rfl) (fun u => { tmps := #[.slice p n cap, .bool fold, .string y, .string s, undef, undef, undef, undef, u8, .bool true, .slice (some ⟨gw, 0, none⟩) j c, .slice (some ⟨gw2, 0, none⟩) m2 cc, .pointer (some ⟨sb, 0, none⟩), .int .i64 0, .int .i64 0, .pointer (some ⟨sb2, 0, none⟩), .int .i64 0, .int .i64 0, .int .i64 (mo : Int), .string z, .bool false, .int .i64 (j : Int), .slice (some ⟨o, 0, none⟩) j j, .bool true, .slice (some ⟨o2, 0, none⟩) m2 m2, .bool true, .int .i64 (j : Int), u27, u 14, u 15, u 16, undef, undef, undef, undef, undef, undef, .bool true, .slice p n cap, .bool fold, .slice (some ⟨gw, 0, none⟩) j c, .slice (some ⟨w2.heap.size, 0, none⟩) 0 0, .slice (some ⟨gw, 0, none⟩) j c, .slice q3 j c3, .string y, .slice (some ⟨w3.heap.size, 0, none⟩) 1 1, .slice q4 (j + 1) c4, .bool fold, .slice (some ⟨gw2, 0, none⟩) m2 cc, .tuple #[.pointer (some ⟨sb, 0, none⟩), .int .i64 0, .int .i64 0], .slice (some ⟨gw, 0, none⟩) j c, .bool fold, .tuple #[.pointer (some ⟨sb, 0, none⟩), .int .i64 0, .int .i64 0], .pointer (some ⟨sb, 0, none⟩), .int .i64 0, .int .i64 0, .tuple #[.pointer (some ⟨sb2, 0, none⟩), .int .i64 0, .int .i64 0], .slice (some ⟨gw2, 0, none⟩) m2 cc, .bool fold, .tuple #[.pointer (some ⟨sb2, 0, none⟩), .int .i64 0, .int .i64 0], .pointer (some ⟨sb2, 0, none⟩), .int .i64 0, .int .i64 0, .bool true, .bool false, .bool false, .pointer (some ⟨sb, 0, none⟩), .bool false, .bool false, .bool false, .pointer (some ⟨sb2, 0, none⟩), .bool false, .bool false, .bool false, .int .i64 0, .bool false, .bool false, .bool false, .int .i64 0, .bool false, .bool false, .pointer (some ⟨sb2, 0, none⟩), .int .i64 (ns2 : Int), .pointer (some ⟨sb, 0, none⟩), .int .i64 (ns : Int), .int .i64 (mo : Int), .pointer (some ⟨sb, 0, none⟩), .int .i64 (ns : Int), .bool (decide ((ns : Int) < 2)), .bool (decide ((ns : Int) < 2)), .int .i64 (mo : Int), .bool (decide ((mo : Int) < 0)), .bool (decide ((ns : Int) < 2) || decide ((mo : Int) < 0)), .bool (decide ((ns : Int) < 2) || decide ((mo : Int) < 0)), .slice (some ⟨gw2, 0, none⟩) m2 cc, .int .i64 (m2 : Int), .slice (some ⟨gw, 0, none⟩) j c, .int .i64 (j : Int), .bool false, .bool false, undef, undef, .bool false, .bool (decide ((ns : Int) < 2) || decide ((mo : Int) < 0)), .slice (some ⟨gw2, 0, none⟩) m2 cc, .int .i64 (m2 : Int), .slice (some ⟨gw, 0, none⟩) j c, .int .i64 (j : Int), .bool true, .slice (some ⟨gw2, 0, none⟩) m2 cc, .slice (some ⟨gw, 0, none⟩) j c, .int .i64 (j : Int), .pointer (some ⟨gw2, j, none⟩), .string z, .int .i64 (j : Int), .slice (some ⟨gw, 0, none⟩) j c, .int .i64 (j : Int), .bool false, u118, u119, u120, u121, u122, u123, u124, u125, u126, u127, u128, u129, u130, u131, .int .i64 (mo : Int), .string z, .int .i64 (z.size : Int), .bool false, .bool false, .bool false, .int .i64 (mo : Int), .bool false, .bool false, .bool false, .tuple #[.slice (some ⟨o, 0, none⟩) j j, .bool true], .pointer (some ⟨sb, 0, none⟩), .slice (some ⟨gw, 0, none⟩) j c, .string s, .tuple #[.slice (some ⟨o, 0, none⟩) j j, .bool true], .slice (some ⟨o, 0, none⟩) j j, .bool true, .tuple #[.slice (some ⟨o2, 0, none⟩) m2 m2, .bool true], .pointer (some ⟨sb2, 0, none⟩), .slice (some ⟨gw2, 0, none⟩) m2 cc, .string s, .tuple #[.slice (some ⟨o2, 0, none⟩) m2 m2, .bool true], .slice (some ⟨o2, 0, none⟩) m2 m2, .bool true, .bool true, .bool false, .bool false, .bool true, .bool false, .bool false, .int .i64 (j : Int), .slice (some ⟨gw, 0, none⟩) j c, .int .i64 (j : Int), .bool false, u166, u167, u168, u169, u170, u171, u172, u173, u174, u175, u176, u177, u178, u 10, u 0, u 1, u 2, u 3, u 4, u 5, u 6, u 7, u 8, u 9, u 11, u 12, u 13, undef, undef, undef, undef, undef, undef, undef, undef, undef, undef, undef, undef, undef, undef, undef, undef, undef, undef, undef, undef, undef, undef, undef, undef, undef, undef, undef, undef, undef, undef, undef, undef, undef, undef, undef, undef], defers := [] }) (fun k => undef) ws (I30 ws gw2 m2 cc x0 fold L2) (fun L hL => I30.start ws gw2 m2 cc x0 fold L2 _ L hL) (deps_of' (by kernel_rfl)) ?_ ?_
              · intro L u X hI i0 hi0 hLi o9 ho hdone KK hKK
                rcases (show i0 = 0 ∨ i0 = 1 ∨ i0 = 2 ∨ i0 = 3 ∨ i0 = 4 ∨ i0 = 5 ∨ i0 = 6 ∨ i0 = 7 ∨ i0 = 8 ∨ i0 = 9 ∨ i0 = 10 ∨ i0 = 11 ∨ i0 = 12 ∨ i0 = 13 ∨ i0 = 14 ∨ i0 = 15 ∨ i0 = 16 by have : i0 < 17 := hi0; omega) with rfl | rfl | rfl | rfl | rfl | rfl | rfl | rfl | rfl | rfl | rfl | rfl | rfl | rfl | rfl | rfl | rfl
                case inl =>
                  simp at ho; subst ho; simp [Region.binds] at hdone
                  have hKX := hKK (.slice (some ⟨X.heap.size, 0, none⟩) 0 0) (X.alloc (.cells #[] 9)) (hI.next (i := 0) ((Below.refl _ X).alloc (Nat.le_refl _) _) (by omega) (fun L' hL' => ⟨X.heap.size, rfl, fun _ => ⟨hI.mem.size, heap_alloc_new X _⟩⟩))
                  simp [wpOpIn, Region.wanted, yielded, Oper.wpIn, Oper.semAt_eq, execOp, Oper.uponIn, go_sem]
                  first | exact hKX | (simp [upd] at hKX; exact hKX)
                case inr.inl =>
                  simp at ho; subst ho; simp [Region.binds] at hdone
                  have hKX := hKK (.slice (some ⟨gw2, 0, none⟩) m2 cc) X (hI.next (i := 1) (Below.refl _ X) (by omega) (fun L' hL' => rfl))
                  simp [wpOpIn, Region.wanted, yielded, Oper.wpIn, Oper.semAt_eq, execOp, Oper.uponIn, go_sem]
                  first | exact hKX | (simp [upd] at hKX; exact hKX)
                case inr.inr.inr.inl =>
                  simp at ho; subst ho; simp [Region.binds] at hdone
                  have hKX := hKK (.slice (some ⟨gw2, 0, none⟩) m2 cc) X (hI.next (i := 3) (Below.refl _ X) (by omega) (fun L' hL' => rfl))
                  simp [wpOpIn, Region.wanted, yielded, Oper.wpIn, Oper.semAt_eq, execOp, Oper.uponIn, go_sem]
                  first | exact hKX | (simp [upd] at hKX; exact hKX)
                case inr.inr.inr.inr.inl =>
                  simp at ho; subst ho; simp [Region.binds] at hdone
                  have e3 := hI.val 3 hdone
                  have hKX := hKK (.pointer (some ⟨gw2, 0, none⟩)) X (hI.next (i := 4) (Below.refl _ X) (by omega) (fun L' hL' => rfl))
                  simp only [P30] at e3
                  simp [wpOpIn, Region.wanted, yielded, Oper.wpIn, Oper.semAt_eq, execOp, Oper.uponIn, go_sem, e3, hM20, hN20]
                  first | exact hKX | (simp [upd, e3, hM20, hN20] at hKX; exact hKX)
                case inr.inr.inr.inr.inr.inl =>
                  simp at ho; subst ho; simp [Region.binds] at hdone
                  have e4 := hI.val 4 hdone
                  simp only [P30] at e4
                  have hcx := HX0.out X (HWS.out.keep hI.mem).ex
                  have hKX := hKK (.string x0) X (hI.next (i := 5) (Below.refl _ X) (by omega) (fun L' hL' => rfl))
                  simp [wpOpIn, Region.wanted, yielded, Oper.wpIn, Oper.semAt_eq, execOp, Oper.uponIn, go_sem, e4, hcx]
                  first | exact hKX | (simp [upd, e4] at hKX; exact hKX)
                case inr.inr.inr.inr.inr.inr.inl =>
                  simp at ho; subst ho; simp [Region.binds] at hdone
                  have e5 := hI.val 5 hdone
                  simp only [P30] at e5
                  have hKX := hKK (.slice (some ⟨X.heap.size, 0, none⟩) 1 1) (X.alloc (.cells #[.string x0] 9)) (hI.next (i := 6) ((Below.refl _ X).alloc (Nat.le_refl _) _) (by omega) (fun L' hL' => ⟨X.heap.size, rfl, fun _ => heap_alloc_new X _⟩))
                  simp [wpOpIn, Region.wanted, yielded, Oper.wpIn, Oper.semAt_eq, execOp, Oper.uponIn, go_sem, e5]
                  first | exact hKX | (simp [upd, e5] at hKX; exact hKX)
                case inr.inr.inl =>
                  simp at ho; subst ho; simp [Region.binds] at hdone
                  obtain ⟨g0, e0, h0⟩ := hI.val 0 hdone.1
                  have e1 := hI.val 1 hdone.2
                  simp only [P30] at e1
                  obtain ⟨hB0, hE0⟩ := h0 hLi
                  have hown : X.ownsRow ws.heap.size 9 1 (.slice (some ⟨g0, 0, none⟩) 0 0) 0 [] := ⟨rfl, .inr ⟨g0, 0, #[], rfl, hB0, hE0, Nat.le_refl _, Nat.zero_le _, rfl, rfl⟩⟩
                  obtain ⟨v2, Y, hrun, ho2, hg2, hnil, _⟩ := run_append_own_at (P := Tryd.prog) X ws.heap.size 22 22 9 i1 (.string ⟨#[]⟩) 1 16 Tryd.underlying22 HI.out.1 HI.out.2.1 HI.out.2.2.1 HI.out.2.2.2 rfl (by decide) _ 0 [] hown ⟨gw2, 0, none⟩ m2 cc (strL L2) (strG_len L2 _ HM2.out) (strG_news (hS23.out X (HWS.out.keep hI.mem).ex)) (strG_one _) (by unfold maxLen; omega) (by omega) hI.mem.size
                  simp only [Nat.zero_add, List.nil_append] at ho2
                  obtain ⟨g2, d2, rfl⟩ := own_some ho2 (by omega)
                  have hKX := hKK _ Y (hI.app2 hLi hB0 hE0 ho2 hg2)
                  refine op_append rfl rfl rfl (v1 := .slice (some ⟨g0, 0, none⟩) 0 0) (v2 := .slice (some ⟨gw2, 0, none⟩) m2 cc) ?_ ?_ hrun ?_
                  · simp [go_sem, e0]
                  · simp [go_sem, e1]
                  · first | exact hKX | (simp [upd, go_sem] at hKX ⊢; exact hKX)
                case inr.inr.inr.inr.inr.inr.inr.inl =>
                  simp at ho; subst ho; simp [Region.binds] at hdone
                  obtain ⟨g2, d2, e2, h2⟩ := hI.val 2 hdone.1
                  obtain ⟨g6, e6, h6⟩ := hI.val 6 hdone.2.1
                  obtain ⟨v2, Y, hrun, ho2, hg2, hnil, _⟩ := run_append_own_at (P := Tryd.prog) X ws.heap.size 22 22 9 i1 (.string ⟨#[]⟩) 1 16 Tryd.underlying22 HI.out.1 HI.out.2.1 HI.out.2.2.1 HI.out.2.2.2 rfl (by decide) _ m2 (strL L2) (h2 hLi) ⟨g6, 0, none⟩ 1 1 [.string x0] rfl (one_news (one_cell (h6 hLi))) (str_one _) (by unfold maxLen; omega) (by omega) hI.mem.size
                  obtain ⟨g3, d3, rfl⟩ := own_some ho2 (by omega)
                  have hKX := hKK _ Y (hI.app7 hdone.1 (fun k e => ((h2 hLi).lt k e).1) hg2 (own_cap ho2).1 (own_cap ho2).2 (str_at (by rw [strL_snoc]; exact ho2) (by rw [List.length_append, HM2.out]; rfl)))
                  refine op_append rfl rfl rfl (v1 := .slice (some ⟨g2, 0, none⟩) m2 d2) (v2 := .slice (some ⟨g6, 0, none⟩) 1 1) ?_ ?_ hrun ?_
                  · simp [go_sem, e2]
                  · simp [go_sem, e6]
                  · first | exact hKX | (simp [upd, go_sem] at hKX ⊢; exact hKX)
                case inr.inr.inr.inr.inr.inr.inr.inr.inl =>
                  simp at ho; subst ho; simp [Region.binds] at hdone
                  have hKX := hKK (.bool fold) X (hI.next (i := 8) (Below.refl _ X) (by omega) (fun L' hL' => rfl))
                  simp [wpOpIn, Region.wanted, yielded, Oper.wpIn, Oper.semAt_eq, execOp, Oper.uponIn, go_sem]
                  first | exact hKX | (simp [upd] at hKX; exact hKX)
                case inr.inr.inr.inr.inr.inr.inr.inr.inr.inl =>
                  simp at ho; subst ho; simp [Region.binds] at hdone
                  obtain ⟨g7, d7, e7, hd1, hd2, h7⟩ := hI.val 7 hdone.1
                  have e8 := hI.val 8 hdone.2.1
                  simp only [P30] at e8
                  simp [wpOpIn, Region.wanted, yielded, Oper.wpIn, Oper.semAt_eq, execOp, Oper.uponIn, go_sem, e7, e8]
                  refine ⟨trivial, ?_⟩
                  refine CallsIn.mono (callsIn_wide.2 (al_bad (some ⟨g7, 0, none⟩) d7 m2 (by rw [List.length_append, HM2.out]; rfl) (AlW.self ws (HWS.out.keep hI.mem)) (h7 hLi) (by omega) hd1 hd2 HZ2.out (by omega) HBT.out.2 HBT.out.1)) ?_
                  rintro e Y ⟨rfl, hY⟩
                  have hKX := hKK (.tuple #[.pointer none, .int .i64 70, .int .i64 (m2 : Int)]) Y (hI.next (i := 9) hY.ex (by omega) (fun L' hL' => rfl))
                  first | exact hKX | (simp [upd, e7, e8] at hKX; exact hKX)
                case inr.inr.inr.inr.inr.inr.inr.inr.inr.inr.inl =>
                  simp at ho; subst ho; simp [Region.binds] at hdone
                  have e9 := hI.val 9 hdone
                  have hKX := hKK (.tuple #[.pointer none, .int .i64 70, .int .i64 (m2 : Int)]) X (hI.next (i := 10) (Below.refl _ X) (by omega) (fun L' hL' => rfl))
                  simp only [P30] at e9
                  simp [wpOpIn, Region.wanted, yielded, Oper.wpIn, Oper.semAt_eq, execOp, Oper.uponIn, go_sem, e9]
                  first | exact hKX | (simp [upd, e9] at hKX; exact hKX)
                case inr.inr.inr.inr.inr.inr.inr.inr.inr.inr.inr.inl =>
                  simp at ho; subst ho; simp [Region.binds] at hdone
                  have e10 := hI.val 10 hdone
                  have hKX := hKK (.pointer none) X (hI.next (i := 11) (Below.refl _ X) (by omega) (fun L' hL' => rfl))
                  simp only [P30] at e10
                  simp [wpOpIn, Region.wanted, yielded, Oper.wpIn, Oper.semAt_eq, execOp, Oper.uponIn, go_sem, e10]
                  first | exact hKX | (simp [upd, e10] at hKX; exact hKX)
                case inr.inr.inr.inr.inr.inr.inr.inr.inr.inr.inr.inr.inl =>
                  simp at ho; subst ho; simp [Region.binds] at hdone
                  have e10 := hI.val 10 hdone
                  have hKX := hKK (.int .i64 70) X (hI.next (i := 12) (Below.refl _ X) (by omega) (fun L' hL' => rfl))
                  simp only [P30] at e10
                  simp [wpOpIn, Region.wanted, yielded, Oper.wpIn, Oper.semAt_eq, execOp, Oper.uponIn, go_sem, e10]
                  first | exact hKX | (simp [upd, e10] at hKX; exact hKX)
                case inr.inr.inr.inr.inr.inr.inr.inr.inr.inr.inr.inr.inr.inl =>
                  simp at ho; subst ho; simp [Region.binds] at hdone
                  have e10 := hI.val 10 hdone
                  have hKX := hKK (.int .i64 (m2 : Int)) X (hI.next (i := 13) (Below.refl _ X) (by omega) (fun L' hL' => rfl))
                  simp only [P30] at e10
                  simp [wpOpIn, Region.wanted, yielded, Oper.wpIn, Oper.semAt_eq, execOp, Oper.uponIn, go_sem, e10]
                  first | exact hKX | (simp [upd, e10] at hKX; exact hKX)
                case inr.inr.inr.inr.inr.inr.inr.inr.inr.inr.inr.inr.inr.inr.inl =>
                  simp at ho; subst ho; simp [Region.binds] at hdone
                  have e11 := hI.val 11 hdone.1
                  have hKX := hKK (.pointer none) X (hI.next (i := 14) (Below.refl _ X) (by omega) (fun L' hL' => rfl))
                  simp only [P30] at e11
                  simp [wpOpIn, Region.wanted, yielded, Oper.wpIn, Oper.semAt_eq, execOp, Oper.uponIn, go_sem, e11]
                  first | exact hKX | (simp [upd, e11] at hKX; exact hKX)
                case inr.inr.inr.inr.inr.inr.inr.inr.inr.inr.inr.inr.inr.inr.inr.inl =>
                  simp at ho; subst ho; simp [Region.binds] at hdone
                  have e12 := hI.val 12 hdone.1
                  have hKX := hKK (.int .i64 70) X (hI.next (i := 15) (Below.refl _ X) (by omega) (fun L' hL' => rfl))
                  simp only [P30] at e12
                  simp [wpOpIn, Region.wanted, yielded, Oper.wpIn, Oper.semAt_eq, execOp, Oper.uponIn, go_sem, e12]
                  first | exact hKX | (simp [upd, e12] at hKX; exact hKX)
                case inr.inr.inr.inr.inr.inr.inr.inr.inr.inr.inr.inr.inr.inr.inr.inr =>
                  simp at ho; subst ho; simp [Region.binds] at hdone
                  have e13 := hI.val 13 hdone.1
                  have hKX := hKK (.int .i64 (m2 : Int)) X (hI.next (i := 16) (Below.refl _ X) (by omega) (fun L' hL' => rfl))
                  simp only [P30] at e13
                  simp [wpOpIn, Region.wanted, yielded, Oper.wpIn, Oper.semAt_eq, execOp, Oper.uponIn, go_sem, e13]
                  first | exact hKX | (simp [upd, e13] at hKX; exact hKX)
              · intro L u X hall hI
                obtain ⟨g0, e0, _⟩ := hI.val 0 (hall 0 (by decide))
                have e1 := hI.val 1 (hall 1 (by decide))
                have e3 := hI.val 3 (hall 3 (by decide))
                have e4 := hI.val 4 (hall 4 (by decide))
                have e5 := hI.val 5 (hall 5 (by decide))
                have e8 := hI.val 8 (hall 8 (by decide))
                have e9 := hI.val 9 (hall 9 (by decide))
                have e10 := hI.val 10 (hall 10 (by decide))
                have e11 := hI.val 11 (hall 11 (by decide))
                have e12 := hI.val 12 (hall 12 (by decide))
                have e13 := hI.val 13 (hall 13 (by decide))
                have e14 := hI.val 14 (hall 14 (by decide))
                have e15 := hI.val 15 (hall 15 (by decide))
                have e16 := hI.val 16 (hall 16 (by decide))
                obtain ⟨g2, d2, e2, _⟩ := hI.val 2 (hall 2 (by decide))
                obtain ⟨g6, e6, _⟩ := hI.val 6 (hall 6 (by decide))
                obtain ⟨g7, d7, e7, _, _, _⟩ := hI.val 7 (hall 7 (by decide))
                simp only [P30] at e1 e3 e4 e5 e8 e9 e10 e11 e12 e13 e14 e15 e16
                simp only [e0, e1, e2, e3, e4, e5, e6, e7, e8, e9, e10, e11, e12, e13, e14, e15, e16]
                have HWX := Hid.mk' (HWS.out.keep hI.mem)
                clear e0 e1 e2 e3 e4 e5 e6 e7 e8 e9 e10 e11 e12 e13 e14 e15 e16 hI hall
                have cx1 := HX1.out _ HWX.out.ex
                have HN3 := Hid.mk' (al_bad (n := 3) (fold := fold) (some ⟨X.heap.size, 0, none⟩) 3 1 rfl (HWX.out.keep ((Below.refl _ X).alloc (Nat.le_refl _) (.cells #[.string x1, .string ⟨#[]⟩, .string ⟨#[]⟩] 9))) (three_at X x1) (by omega) (by omega) (by omega) HZ3.out (by omega) HBE.out.2 HBE1.out)
                have HN0 := Hid.mk' (fun V => new_few none 0 0 fold V (.inl rfl) (by omega))
                go_wp2_with (first
                  | (go_at_call 7; refine HN3.out.mono ?_; rintro e wy ⟨rfl, hwy⟩; have HWY := Hid.mk' hwy; clear hwy HWX HN3)
                  | (go_at_call 7; refine (HN0.out _).mono ?_; rintro e wu ⟨rfl, hwu⟩; have hwu' := hwu.symm; subst hwu'; clear HN0)
                  | fail)
                go_ret
                exact ⟨rfl, HWY.out.bel⟩
end Go.Proofs.YtlejfeapnnioeaaDoor
