/-
  The law FieldsObject. Conditions: the tables lie as the program lays them.
-/
import Derived.Test.YtkplbggefiemdaaGreatDoorFoA
import Derived.Test.YtkplbggefiemdaaGreatDoorFmV
namespace Go.Proofs.YtkplbggefiemdaaGreatDoor
open Go.RowKit Go.Shelf
attribute [local go_sem] Oper.semAt_some
set_option linter.unusedVariables false
set_option linter.unusedSimpArgs false
theorem bl_tr {b c : Nat} {w x y : World} (h : Below b w x) (k : Below c x y) (hb : b ≤ c) : Below b w y :=
  ⟨k.os.trans h.os, k.tape.trans h.tape, k.output.trans h.output, Nat.le_trans h.size k.size, fun j hj => (k.block j (by omega)).trans (h.block j hj)⟩
/-- what is known from round to round -/
structure ObJ (b G N : Nat) (w : World) (pg : Option Addr) (m cg : Nat) (L pre : List (List Nat × List Nat)) (V : World) : Prop where
  r : V.heap[b]? = some (.cells #[.bool false] 4 (0, 0))
  g : V.heap[G]? = some (.cells #[.slice pg m cg] 23 (0, 0))
  n : V.heap[G + 1]? = some (.cells #[.int .i64 (pre.length : Int)] 3 (0, 0))
  pr : ∀ i x, L[i]? = some x → ∃ g off, pg = some ⟨g, off, none⟩ ∧ g < G ∧ V.cell? ⟨g, off + i * 2, none⟩ = some (.string (nums x.1)) ∧ V.cell? ⟨g, off + i * 2 + 1, none⟩ = some (.string (nums x.2))
  bel : Below b w V
  siz : N ≤ V.heap.size
theorem cell_same {X Y : World} {p : Addr} (h : Y.heap[p.block]? = X.heap[p.block]?) : Y.cell? p = X.cell? p := by
  unfold World.cell?
  rw [h]
theorem ObJ.ab {b G N : Nat} {w : World} {pg : Option Addr} {m cg : Nat} {L pre : List (List Nat × List Nat)} {X Y : World} {row : Option Nat} (h : ObJ b G N w pg m cg L pre X) (hbG : b < G) (hGN : G + 1 < N) (hg : X.grownBy Y row) (hr : ∀ r, row = some r → N ≤ r ∧ ∃ o : Obj, X.heap[r]? = some o ∧ (o.isCells = false ∨ noP o)) : ObJ b G N w pg m cg L pre Y := by
  have hs := h.siz
  have k : ∀ i, i < N → Y.heap[i]? = X.heap[i]? := fun i hi => hg.block i (by omega) (fun e => by have := (hr i e.symm).1; omega)
  refine ⟨(k _ (by omega)).trans h.r, (k _ (by omega)).trans h.g, (k _ (by omega)).trans h.n, fun i x hx => ?_, h.bel.trans ⟨hg.os, hg.tape, hg.output, hg.size, fun i hi => k i (by omega)⟩, Nat.le_trans hs hg.size⟩
  obtain ⟨g, off, e1, e2, e3, e4⟩ := h.pr i x hx
  exact ⟨g, off, e1, e2, (cell_same (k g (by omega))).trans e3, (cell_same (k g (by omega))).trans e4⟩
theorem HB0s (b : Nat) (w x : World) (h : Below b w x) (hb : w.heap.size = b) : b ≤ x.heap.size := by have := h.size; omega
set_option maxRecDepth 100000 in
theorem fin_b {b n : Nat} {w V : World} {c : Bool} {a : Act} (hd : a.defers = []) (hV : Below b w V) (hr : V.heap[b]? = some (.cells #[.bool c] 4 (0, 0))) (ht : a.tmps[2]? = some (.pointer (some ⟨b, 0, none⟩))) :
    bodyPostM Fence.wide n Tryz.prog Tryz.f5 (fun e w' => e = .returned (.bool true) ∧ Below b w w') Exit.ret a (V.setCell ⟨b, 0, none⟩ (.bool true)) := by
  have hs := f_set (y := .bool true) hr
  have hbb : Below b w (V.setCell ⟨b, 0, none⟩ (.bool true)) := ⟨hV.os, hV.tape, hV.output, by simp [World.setCell]; exact hV.size, fun k hk => (f_other _ _ _ _ (by omega)).trans (hV.block k hk)⟩
  generalize V.setCell ⟨b, 0, none⟩ (.bool true) = Y at hs hbb ⊢
  obtain ⟨tm, df⟩ := a
  obtain rfl : df = [] := hd
  have ht2 : tm[2]? = some (.pointer (some ⟨b, 0, none⟩)) := ht
  refine ⟨.bool true, ?_, rfl, hbb⟩
  simp [results, Tryz.f5, go_sem, World.cell?, hs, ht2]
set_option maxRecDepth 100000 in
set_option maxHeartbeats 8000000 in
theorem fieldsObject_any (S : ByteArray) (w : World) (hS : S.size ≤ 140737488351232) (hw : RwT w) (hp : Pow w) (hut : UtT w) :
    Calls Tryz.prog 5 #[.string S] w fun e w' => e = .returned (.bool true) ∧ Below w.heap.size w w' := by
  refine (callsIn_wide (n := 6)).1 ?_
  have HKP : Hid (∀ X, Below w.heap.size w X → RwT X ∧ Pow X ∧ UtT X) := Hid.mk' (fun X hX => ⟨hw.below hX hw.lt, hp.below hX hp.size, hut.below hX (Nat.le_refl _)⟩)
  obtain ⟨b, hb⟩ : ∃ b, w.heap.size = b := ⟨_, rfl⟩
  have HX0 := Hid.mk' (heap_alloc_new w (.cells #[.bool false] 4))
  have HB0 : Hid (Below b w (w.alloc (.cells #[.bool false] 4))) := Hid.mk' (by rw [← hb]; exact (Below.refl _ w).alloc (Nat.le_refl _) _)
  have HEX := Hid.mk' (fun X hX => examples_any X (HKP.out X hX).1 (HKP.out X hX).2.1 (HKP.out X hX).2.2)
  have HPA := Hid.mk' (fun X hX => parse_tells S X (HKP.out X hX).1)
  have H3 : Hid (5 < b) := Hid.mk' (by rw [← hb]; exact hp.size)
  have HSZ := Hid.mk' hS
  rw [hb] at HX0 HEX HPA HKP ⊢
  clear hw hp hut hS
  refine callsIn_of_wp_marks Tryz.func5 rfl trivial ?_ rfl
  simp only [Tryz.ntmps5, List.size_toArray, List.length_cons, List.length_nil, Nat.reduceAdd, Nat.reduceSub, Array.replicate_succ, Array.replicate_zero, List.push_toArray, List.append_toArray, List.nil_append, List.cons_append]
  gi_wp2
  have hx0 := HX0.out
  generalize w.alloc (.cells #[.bool false] 4) = w1 at HX0 HB0 hx0 ⊢
  refine ⟨trivial, (callsIn_wide.2 (HEX.out w1 HB0.out)).mono ?_⟩
  rintro e w2 ⟨rfl, hb2⟩
  have HB2 : Hid (Below b w w2 ∧ w2.heap[b]? = some (.cells #[.bool false] 4 (0, 0)) ∧ w1.heap.size ≤ w2.heap.size) := Hid.mk' ⟨bl_tr HB0.out hb2 (HB0s b w w1 HB0.out hb), (hb2.block b (Array.getElem?_eq_some_iff.1 hx0).1).trans hx0, hb2.size⟩
  clear hb2 hx0
  gi_wp2
  refine ⟨trivial, (callsIn_wide.2 (HPA.out w2 HB2.out.1)).mono ?_⟩
  rintro e w3 ⟨xk, xt, p1, n1, c1, p2, n2, c2, c, q, rfl, hb3, hob⟩
  have HOB := Hid.mk' hob
  have HB3 : Hid (Below b w w3 ∧ w3.heap[b]? = some (.cells #[.bool false] 4 (0, 0)) ∧ w2.heap.size ≤ w3.heap.size) := Hid.mk' ⟨bl_tr HB2.out.1 hb3 (HB0s b w w2 HB2.out.1 hb), (hb3.block b (Array.getElem?_eq_some_iff.1 HB2.out.2.1).1).trans HB2.out.2.1, hb3.size⟩
  clear hb3 hob
  have HQ : Hid (∀ X, X = w3.alloc (.cells #[.int .i64 xk, .string xt, .slice p1 n1 c1, .slice p2 n2 c2] 41) → Below b w X ∧ X.heap[b]? = some (.cells #[.bool false] 4 (0, 0)) ∧ X.heap[w3.heap.size]? = some (.cells #[.int .i64 xk, .string xt, .slice p1 n1 c1, .slice p2 n2 c2] 41 (0, 0)) ∧ X.heap.size = w3.heap.size + 1 ∧ b < w3.heap.size ∧ Below w3.heap.size w3 X) := Hid.mk' (fun X hX => by
    subst hX
    obtain ⟨y1, y2, y3⟩ := HB3.out
    have hlt := (Array.getElem?_eq_some_iff.1 y2).1
    have hbl := (Below.refl w3.heap.size w3).alloc (Nat.le_refl _) (.cells #[.int .i64 xk, .string xt, .slice p1 n1 c1, .slice p2 n2 c2] 41)
    exact ⟨bl_tr y1 hbl (by omega), (hbl.block _ hlt).trans y2, heap_alloc_new w3 _, World.size_alloc _ _, hlt, hbl⟩)
  by_cases hgo : c = 0 ∧ xk = 7
  · obtain ⟨rfl, rfl⟩ := hgo
    obtain ⟨v, z, F, hv, hS6, hbra, hF, hvl⟩ := HOB.out rfl rfl
    obtain ⟨hok, hac1, hac2⟩ := whl_right hS6 hv
    obtain ⟨L, hL⟩ : ∃ L, flV v [] = L := ⟨_, rfl⟩
    obtain ⟨hl1, hl2⟩ := flV_bd v 40 [] hok
    rw [hL] at hl1 hl2
    have hLP : LineP S L := ⟨by omega, .inr ⟨v, z, hbra, hok, hac1, hac2, fun X hX => by have h := parse_full S X hX hS6; rw [hv] at h; exact h, hL.symm⟩⟩
    have hcv : cV v ≤ 65536 := by have h := hac1; rw [accV_add] at h; simpa using h
    obtain ⟨m, hm⟩ : ∃ m, L.length = m := ⟨_, rfl⟩
    have hmb : m ≤ 65536 := by omega
    have HL := Hid.mk' (And.intro hL (And.intro hm (And.intro hok (And.intro hac1 hac2))))
    have HV := Hid.mk' (And.intro hF hvl)
    have HALL : Hid (∀ X, Below b w X → Calls Tryz.prog 7 #[.string S] X fun e w' => ∃ v, e = .returned v ∧ w'.ownsRow (X.heap.size + 1) 29 2 v L.length (prV L) ∧ Below X.heap.size X w') := Hid.mk' (fun X hX => all_fl S L X hLP (by omega) (fun x hx => by
      obtain ⟨h1, h2⟩ := hl2 x hx
      have h3 : ([] : List Nat).length = 0 := rfl
      omega) (HKP.out X hX).1 (HKP.out X hX).2.1 (HKP.out X hX).2.2)
    have hmI : (m : Int) ≤ 65536 := by omega
    clear hv hbra hLP hl1 hl2 hL hok hac1 hac2 hF hvl hcv hm
    gi_wp2
    have hq := HQ.out _ rfl
    generalize w3.alloc (.cells #[.int .i64 7, .string xt, .slice p1 n1 c1, .slice p2 n2 c2] 41) = w4 at hq ⊢
    have H4 := Hid.mk' hq
    refine ⟨trivial, (callsIn_wide.2 (HALL.out w4 hq.1)).mono ?_⟩
    rintro e w5 ⟨v5, rfl, hown, hb5⟩
    rw [HL.out.2.1] at hown
    obtain ⟨pg, cg, rfl, hpg⟩ := own_pr (by rw [HL.out.2.1]; exact hown : w5.ownsRow (w4.heap.size + 1) 29 2 v5 L.length (prV L))
    rw [HL.out.2.1]
    have HPG := Hid.mk' hpg
    have H5 : Hid (Below b w w5 ∧ w5.heap[b]? = some (.cells #[.bool false] 4 (0, 0)) ∧ w5.heap[w3.heap.size]? = some (.cells #[.int .i64 7, .string xt, .slice p1 n1 c1, .slice p2 n2 c2] 41 (0, 0)) ∧ w4.heap.size ≤ w5.heap.size ∧ Below w4.heap.size w4 w5) := Hid.mk' (by
      obtain ⟨y1, y2, y3, y4, y5, _⟩ := hq
      exact ⟨bl_tr y1 hb5 (by omega), (hb5.block _ (by omega)).trans y2, (hb5.block _ (by omega)).trans y3, hb5.size, hb5⟩)
    have H7 : Hid (∀ X o1 o2, X = (w5.alloc o1).alloc o2 → Below b w X ∧ Below w5.heap.size w5 X ∧ X.heap[b]? = some (.cells #[.bool false] 4 (0, 0)) ∧ X.heap[w3.heap.size]? = some (.cells #[.int .i64 7, .string xt, .slice p1 n1 c1, .slice p2 n2 c2] 41 (0, 0)) ∧ X.heap[w5.heap.size]? = some o1 ∧ X.heap[w5.heap.size + 1]? = some o2 ∧ X.heap.size = w5.heap.size + 1 + 1) := Hid.mk' (fun X o1 o2 hX => by
      subst hX
      obtain ⟨y1, y2, y3, y4, y5⟩ := H5.out
      have hbl := ((Below.refl w5.heap.size w5).alloc (Nat.le_refl _) o1).alloc (by rw [World.size_alloc]; omega) o2
      obtain ⟨q1, q2, q3, q4, q5, _⟩ := H4.out
      have a2 := heap_alloc_new (w5.alloc o1) o2
      rw [World.size_alloc] at a2
      exact ⟨bl_tr y1 hbl (by omega), hbl, (hbl.block _ (by omega)).trans y2, (hbl.block _ (by omega)).trans y3, (((Below.refl (w5.alloc o1).heap.size (w5.alloc o1)).alloc (Nat.le_refl _) o2).block _ (by rw [World.size_alloc]; omega)).trans (heap_alloc_new w5 o1), a2, by rw [World.size_alloc, World.size_alloc]⟩)
    clear hq hown hb5 hpg HEX HPA HALL HQ HB0 HB2 HB3 HX0
    have HW7 := Hid.mk' (H7.out _ (.cells #[.slice pg m cg] 23) (.cells #[.int .i64 0] 3) rfl)
    have cc0 : ((w5.alloc (.cells #[.slice pg m cg] 23)).alloc (.cells #[.int .i64 0] 3)).cell? ⟨w3.heap.size, 0, none⟩ = some (.int .i64 7) := by simp only [World.cell?, HW7.out.2.2.2.1]; rfl
    have cc1 : ((w5.alloc (.cells #[.slice pg m cg] 23)).alloc (.cells #[.int .i64 0] 3)).cell? ⟨w3.heap.size, 1, none⟩ = some (.string xt) := by simp only [World.cell?, HW7.out.2.2.2.1]; rfl
    have cc2 : ((w5.alloc (.cells #[.slice pg m cg] 23)).alloc (.cells #[.int .i64 0] 3)).cell? ⟨w3.heap.size, 2, none⟩ = some (.slice p1 n1 c1) := by simp only [World.cell?, HW7.out.2.2.2.1]; rfl
    have cc3 : ((w5.alloc (.cells #[.slice pg m cg] 23)).alloc (.cells #[.int .i64 0] 3)).cell? ⟨w3.heap.size, 3, none⟩ = some (.slice p2 n2 c2) := by simp only [World.cell?, HW7.out.2.2.2.1]; rfl
    gi_wp2
    have hw7 := HW7.out
    generalize (w5.alloc (.cells #[.slice pg m cg] 23)).alloc (.cells #[.int .i64 0] 3) = w7 at hw7 ⊢
    clear cc0 cc1 cc2 cc3 HW7
    have HW7 := Hid.mk' hw7
    have hv7 : (∀ k, F k → k < w7.heap.size) ∧ VlAt F w7 v #[.int .i64 7, .string xt, .slice p1 n1 c1, .slice p2 n2 c2] := by
      obtain ⟨hF, hvl⟩ := HV.out
      have s4 := H4.out.2.2.2
      have s5 := H5.out.2.2.2
      have s7 := hw7.2.1.size
      refine ⟨fun k hk => by have := hF k hk; omega, VlAt.keep (fun _ x => x) (fun k hk _ => ?_) (by omega) _ _ hvl⟩
      have := hF k hk
      exact (hw7.2.1.block k (by omega)).trans ((s5.2.block k (by omega)).trans (s4.2.2.block k (by omega)))
    refine ⟨trivial, (callsIn_wide.2 (flat_ok v HL.out.2.2.1 HL.out.2.2.2 F _ w7 hv7.2 hv7.1 (HKP.out w7 hw7.1).2.1 (HKP.out w7 hw7.1).2.2)).mono ?_⟩
    rintro e w8 ⟨hb8, B8, D, cs8, he8, hDg, hDb, hB8, hv8, hD8, hD9⟩
    obtain ⟨gf, lb, hFV, hent, hseq⟩ : ∃ (gf : Nat) (lb : Array Value), FlatV B8 = .func (.func gf) #[] lb ∧ (∀ args W, (callFunc gf args).run Tryz.prog W = .ok (.enter gf args) W) ∧ SeqN Fence.wide 5 Tryz.prog gf lb encP noP (KpD D) (fun ys => ys = flV v []) (fun pre => pre <+: flV v []) w8 := ⟨40, #[.pointer (some ⟨B8, 0, none⟩)], rfl, fun _ _ => rfl, flat2_seqN 5 B8 D hDg hDb v HL.out.2.2.1 cs8 w8 hB8 hv8 hD8 (HKP.out w8 (bl_tr hw7.1 hb8 (by have := hw7.1.size; omega))).2.1⟩
    rw [hFV] at he8
    subst he8
    rw [HL.out.1] at hseq
    have HE := Hid.mk' hent
    have HSQ := Hid.mk' hseq
    obtain ⟨G, hG⟩ : ∃ G, w5.heap.size = G := ⟨_, rfl⟩
    obtain ⟨N, hN⟩ : ∃ N, w8.heap.size = N := ⟨_, rfl⟩
    have hbG : b < G := by
      have h1 := H4.out
      have h2 := H5.out.2.2.2.1
      omega
    have hGN : G + 1 < N := by have h1 := hw7.2.2.2.2.2.2; have h2 := hb8.size; omega
    have HI0 : Hid (ObJ b G N w pg m cg L [] w8) := Hid.mk' (by
      obtain ⟨y1, y2, y3, y4, y5, y6, y7⟩ := hw7
      rw [hG] at y5 y6 y7
      refine ⟨(hb8.block _ (by omega)).trans y3, (hb8.block _ (by omega)).trans y5, (hb8.block _ (by omega)).trans y6, fun i x hx => ?_, bl_tr y1 hb8 (by omega), by omega⟩
      obtain ⟨g, off, e1, e2, e3, e4⟩ := HPG.out i x hx
      exact ⟨g, off, e1, by omega, (hb8.cell (p := ⟨g, off + i * 2, none⟩) (show g < _ by omega)).trans ((y2.cell (p := ⟨g, off + i * 2, none⟩) e2).trans e3), (hb8.cell (p := ⟨g, off + i * 2 + 1, none⟩) (show g < _ by omega)).trans ((y2.cell (p := ⟨g, off + i * 2 + 1, none⟩) e2).trans e4)⟩)
    have HD : Hid (∀ j, D j → (j ≠ b ∧ j ≠ G ∧ j ≠ G + 1) ∧ j < N) := Hid.mk' (fun j hj => by
      have h1 := hD8 j hj
      have h2 := hw7.2.2.2.2.2.2
      have h3 := H3.out
      rcases hD9 j hj with h | h <;> omega)
    rw [hG]
    clear hw7 hv7 hb8 hDg hDb hB8 hv8 hD8 hD9 H7 HW7 HPG H4 H5 HV hent hseq hFV
    have hnil : (binOp .eql 46 (.func (.func gf) #[] lb) .nilFunc).run Tryz.prog w8 = .ok (.bool false) w8 := by rfl
    gi_wp2
    refine wpIn_rangeS rfl (by omega) (gf := gf) (lb := lb) rfl trivial HE.out HSQ.out (fun _ h => h.elim) KpD.t
      (fun V k o o' hk ho hc => ⟨fun i cs t fz _ hi => (World.putObj_heap_other (fun e => by subst e; rw [ho] at hi; cases hi; cases hc)).trans hi, fun i hi => World.putObj_heap_other (by have := HD.out i hi; omega), (grownBy_putObj' V k o').size⟩) (Below.refl _ _) (fun _ => rfl)
      (ObJ b G N w pg m cg L) (fun _ _ _ => False)
      (fun pre X Y row hX hg hr => hX.ab hbG hGN hg (fun r e => by have h := hr r e; rw [hN] at h; exact h))
      (fun c pre X Y row hX hg hr => hX)
      HI0.out (fun W => ⟨KpT.refl W, fun _ _ => rfl, Nat.le_refl _⟩) (fun x => [(10, .string (nums x.1)), (11, .string (nums x.2))]) ?assign ?body ?done ?stop
    case assign =>
      intro l pre x V K hK
      simp only [encP] at hK ⊢
      gi_wp2
      refine f_to hK ?_
      simp
    case stop => exact fun D c pre V hD hpre h => h.elim
    case done =>
      rintro E xs V hE rfl hi hdf
      have hn := hi.n
      rw [HL.out.2.1] at hn
      have r1 := hi.r
      have c0 := f_cell hn
      have c1 := f_cell hi.g
      have c2 := f_cell r1
      have f2 := f_frozen r1
      have HF := Hid.mk' (And.intro hi.bel (And.intro hi.siz r1))
      clear hi r1 hn
      gi_wp2
      obtain ⟨hbel, hsiz, q1⟩ := HF.out
      have hEb : E ≠ b := fun e => (by rw [e, q1] at hdf; cases hdf)
      have y1 : (V.setCell ⟨b, 0, none⟩ (.bool true)).heap[b]? = some (.cells #[.bool true] 4 (0, 0)) := f_set q1
      have y0 : ∀ k, k ≠ b → (V.setCell ⟨b, 0, none⟩ (.bool true)).heap[k]? = V.heap[k]? := fun k h1 => f_other _ _ _ _ h1
      have ys : N ≤ (V.setCell ⟨b, 0, none⟩ (.bool true)).heap.size := by simp [World.setCell]; exact hsiz
      have yb : Below b w (V.setCell ⟨b, 0, none⟩ (.bool true)) := ⟨hbel.os, hbel.tape, hbel.output, by simp [World.setCell]; exact hbel.size, fun k hk => (y0 k (by omega)).trans (hbel.block k hk)⟩
      have hdY : (V.setCell ⟨b, 0, none⟩ (.bool true)).heap[E]? = some (.deferred (some [])) := (y0 E hEb).trans hdf
      generalize V.setCell ⟨b, 0, none⟩ (.bool true) = Y at y1 y0 ys yb hdY ⊢
      refine ⟨by simp, .inl ⟨_, _, rfl, run_takeDeferred hdY, ?_⟩⟩
      have k1 : (Y.putObj E (.deferred none)).heap[b]? = some (.cells #[.bool true] 4 (0, 0)) := (World.putObj_heap_other (by omega)).trans y1
      refine ⟨.bool true, ?_, rfl, yb.trans ((Below.refl b Y).grown (grownBy_putObj' Y E (.deferred none)) (by omega) (fun k e => by cases e; omega))⟩
      simp [results, Tryz.f5, go_sem, World.cell?, k1]
    case body =>
      rintro l pre x V hl ⟨rr, hrr⟩ hi hpre
      obtain ⟨k, hk⟩ : ∃ k, pre.length = k := ⟨_, rfl⟩
      have hx : L[k]? = some x := by
        obtain ⟨tl, htl⟩ := hpre
        rw [← htl, ← hk]
        simp
      have hkm : k < m := by rw [← HL.out.2.1]; exact (List.getElem?_eq_some_iff.1 hx).1
      obtain ⟨g, off, hpg, hg, c1, c2⟩ := hi.pr k x hx
      subst hpg
      have hn := hi.n
      rw [hk] at hn
      have c3 := f_cell hn
      have f3 := f_frozen hn
      have c4 := f_cell hi.g
      have hkI : (k : Int) < (m : Int) := by omega
      have hkI2 : ¬ (m : Int) ≤ (k : Int) := by omega
      have HN := Hid.mk' (And.intro hi (And.intro hn hk))
      clear hi hn hk hpre hrr hx
      apply f_act
      case e => simp [encP]; rfl
      generalize nums x.1 = TA at c1 ⊢
      generalize nums x.2 = TB at c2 ⊢
      gi_wp2
      obtain ⟨hi, hn, hk⟩ := HN.out
      have y1 : (V.setCell ⟨G + 1, 0, none⟩ (.int .i64 ((k : Int) + 1))).heap[G + 1]? = some (.cells #[.int .i64 ((k : Int) + 1)] 3 (0, 0)) := f_set hn
      have y0 : ∀ j, j ≠ G + 1 → (V.setCell ⟨G + 1, 0, none⟩ (.int .i64 ((k : Int) + 1))).heap[j]? = V.heap[j]? := fun j h1 => f_other _ _ _ _ h1
      have ys : V.heap.size ≤ (V.setCell ⟨G + 1, 0, none⟩ (.int .i64 ((k : Int) + 1))).heap.size := by simp [World.setCell]
      have yo : (V.setCell ⟨G + 1, 0, none⟩ (.int .i64 ((k : Int) + 1))).os = V.os ∧ (V.setCell ⟨G + 1, 0, none⟩ (.int .i64 ((k : Int) + 1))).tape = V.tape ∧ (V.setCell ⟨G + 1, 0, none⟩ (.int .i64 ((k : Int) + 1))).output = V.output := ⟨rfl, rfl, rfl⟩
      generalize V.setCell ⟨G + 1, 0, none⟩ (.int .i64 ((k : Int) + 1)) = Y at y1 y0 ys yo ⊢
      have hsz := hi.siz
      have hbl := hi.bel
      refine ⟨⟨ys, fun j o hj ho _ => (y0 j (by omega)).trans ho⟩, ⟨fun j cs t fz ht hj => ?_, fun j hj => y0 j (HD.out j hj).1.2.2, ys⟩, ?_⟩
      · refine (y0 j fun e => ?_).trans hj
        subst e
        rw [hn] at hj
        injection hj with hj
        injection hj with _ hj2 _
        subst hj2
        revert ht
        decide
      · refine ⟨(y0 b (by omega)).trans hi.r, (y0 G (by omega)).trans hi.g, ?_, fun i y hy => ?_, ⟨yo.1.trans hbl.os, yo.2.1.trans hbl.tape, yo.2.2.trans hbl.output, Nat.le_trans hbl.size ys, fun j hj => (y0 j (by omega)).trans (hbl.block j hj)⟩, by omega⟩
        · rw [y1, List.length_append, hk]
          simp
        · obtain ⟨g', off', e1, e2, e3, e4⟩ := hi.pr i y hy
          exact ⟨g', off', e1, e2, (cell_same (y0 g' (by omega))).trans e3, (cell_same (y0 g' (by omega))).trans e4⟩
  · have hcell := f_cell (HQ.out _ rfl).2.1
    have hfr := f_frozen (HQ.out _ rfl).2.1
    have HQQ := Hid.mk' (HQ.out _ rfl)
    by_cases hc : c = 0
    · subst hc
      have h7 : ¬ xk = 7 := fun e => hgo ⟨rfl, e⟩
      clear hgo
      gi_wp2
      refine fin_b ?_ HQQ.out.1 HQQ.out.2.1 ?_ <;> rfl
    · have hci : ¬ (c : Int) = 0 := by omega
      clear hgo
      gi_wp2
      refine fin_b ?_ HQQ.out.1 HQQ.out.2.1 ?_ <;> rfl
end Go.Proofs.YtkplbggefiemdaaGreatDoor
