/-
  The laws' found. Conditions: as it says.
-/
import Derived.Test.YtlejfeapnnioeaaDoorFo2
import Derived.Stop.RegionWithIn
namespace Go.Proofs.YtlejfeapnnioeaaDoor
open Go.RowKit Go.Shelf BigFrame
set_option linter.unusedVariables false
set_option linter.unusedSimpArgs false
attribute [local go_sem] Oper.semAt_some
def allocs (w : World) : List Obj → World
  | [] => w
  | o :: l => allocs (w.alloc o) l
theorem allocs_size : ∀ (l : List Obj) (w : World), (allocs w l).heap.size = w.heap.size + l.length
  | [], w => rfl
  | o :: l, w => by
    rw [allocs, allocs_size l, World.size_alloc, List.length_cons]
    omega
theorem allocs_below : ∀ (l : List Obj) (w : World), Below w.heap.size w (allocs w l)
  | [], w => Below.refl _ _
  | o :: l, w => by
    have h := allocs_below l (w.alloc o)
    rw [allocs]
    exact ((Below.refl _ w).alloc (Nat.le_refl _) o).trans ⟨h.os, h.tape, h.output, h.size, fun k hk => h.block k (by simp; omega)⟩
theorem allocs_get : ∀ (l : List Obj) (w : World) (k : Nat), k < l.length → (allocs w l).heap[w.heap.size + k]? = l[k]?
  | [], w, k, h => by simp at h
  | o :: l, w, 0, h => by
    have h1 := (allocs_below l (w.alloc o)).block w.heap.size (by simp)
    rw [allocs, Nat.add_zero, h1]
    exact heap_alloc_new w o
  | o :: l, w, k + 1, h => by
    have h1 := allocs_get l (w.alloc o) k (by simpa using h)
    rw [World.size_alloc] at h1
    rw [allocs, List.getElem?_cons_succ, ← h1]
    congr 1
    omega
theorem nil_alf (fn : Fn) (first cap : Array Value) (w : World) : (binOp .eql 62 (.func fn first cap) .nilFunc).run Tryd.prog w = .ok (.bool false) w := by kernel_rfl
theorem fk_to {K : Act → World → Prop} {a a' : Act} {V : World} (h : K a V) (e : a = a') : K a' V := e ▸ h
theorem fp_act {F : Fence} {n : Nat} {P : Program} {c : Code} {Q : Exit → Act → World → Prop} {a a' : Act} {V : World} (e : a = a') (h : Code.wpIn F n P c Q a' V) : Code.wpIn F n P c Q a V := e ▸ h
theorem fo_reg (id : Nat) {F : Fence} {n : Nat} {P : Program} {Q : Exit → Act → World → Prop} {a : Act} {w : World} {ops : Array Oper} {d : Bool} (h : Hid (Code.wpIn F n P (.region id ops d) Q a w)) : Code.wpIn F n P (.region id ops d) Q a w := h.out
/-- the eleven blocks that found makes ahead of its range -/
structure Fo5 (b m c sb : Nat) (pw : Option Addr) (s : ByteArray) (w w5 : World) : Prop where
  c0 : w5.heap[b]? = some (.cells #[.slice pw m c] 22 (0, 0))
  c1 : w5.heap[b + 1]? = some (.cells #[.string s] 9 (0, 0))
  c2 : w5.heap[b + 2]? = some (.cells #[.slice none 0 0] 30 (0, 0))
  c3 : w5.heap[b + 3]? = some (.cells #[.bool false] 4 (0, 0))
  c5 : w5.heap[b + 5]? = some (.cells #[.slice (some ⟨b + 4, 0, none⟩) m m] 30 (0, 0))
  c9 : w5.heap[b + 9]? = some (.cells #[.pointer (some ⟨sb, 0, none⟩)] 25 (0, 0))
  c10 : w5.heap[b + 10]? = some (.cells #[.string s] 9 (0, 0))
  size : w5.heap.size = b + 11
  bel : Below b w w5
theorem fo_start (w : World) (b m c sb : Nat) (pw : Option Addr) (s : ByteArray) (hb : w.heap.size = b) (w5 : World) (h : w5 = allocs w [.cells #[.slice pw m c] 22, .cells #[.string s] 9, .cells #[.slice none 0 0] 30, .cells #[.bool false] 4, .cells (rowV (fun _ => .slice none 0 0) m).toArray 33, .cells #[.slice (some ⟨b + 4, 0, none⟩) m m] 30, .cells #[.int .i64 0] 3, .cells #[.int .i64 0] 3, .cells #[.int .i64 0] 3, .cells #[.pointer (some ⟨sb, 0, none⟩)] 25, .cells #[.string s] 9]) :
    Fo5 b m c sb pw s w w5 ∧ FoJ b m w5 (fun _ => []) 0 0 0 (fun _ => .slice none 0 0) w5 := by
  have hsz : w5.heap.size = b + 11 := by rw [h, allocs_size, hb]; rfl
  have hbel : Below b w w5 := by rw [h, ← hb]; exact allocs_below _ _
  have hg := fun k hk => allocs_get [.cells #[.slice pw m c] 22, .cells #[.string s] 9, .cells #[.slice none 0 0] 30, .cells #[.bool false] 4, .cells (rowV (fun _ => .slice none 0 0) m).toArray 33, .cells #[.slice (some ⟨b + 4, 0, none⟩) m m] 30, .cells #[.int .i64 0] 3, .cells #[.int .i64 0] 3, .cells #[.int .i64 0] 3, .cells #[.pointer (some ⟨sb, 0, none⟩)] 25, .cells #[.string s] 9] w k hk
  rw [← h, hb] at hg
  simp only [List.length_cons, List.length_nil, Nat.reduceAdd] at hg
  refine ⟨⟨hg 0 (by omega), hg 1 (by omega), hg 2 (by omega), hg 3 (by omega), hg 5 (by omega), hg 9 (by omega), hg 10 (by omega), hsz, hbel⟩, ?_⟩
  exact ⟨fun _ _ _ _ _ _ => rfl, RowsM.start _ _ _ _ (hg 4 (by omega)) (by omega), hg 6 (by omega), hg 7 (by omega), hg 8 (by omega), Below.refl _ _, by omega⟩
theorem one_cell {V : World} {a : Nat} {x : Value} {t : TypeId} {z : Nat × Nat} (h : V.heap[a]? = some (.cells #[x] t z)) : V.cell? ⟨a, 0, none⟩ = some x := by simp [World.cell?, h]
theorem one_frozen {V : World} {a : Nat} {x : Value} {t : TypeId} (h : V.heap[a]? = some (.cells #[x] t (0, 0))) : V.frozen? ⟨a, 0, none⟩ = false := by simp [World.frozen?, h]
theorem fo_fin {b m l z k D : Nat} {w w5 V : World} {F : Nat → List Nat} {v : Nat → Value} (hi : FoJ b m w5 F l z k v V) (h2 : V.heap[b + 2]? = some (.cells #[.slice none 0 0] 30 (0, 0))) (h3 : V.heap[b + 3]? = some (.cells #[.bool false] 4 (0, 0))) (hbel : Below b w w5) (hD : b + 11 ≤ D) (hdf : V.heap[D]? = some (.deferred (some []))) :
    ((V.setCell ⟨b + 2, 0, none⟩ (.slice (some ⟨b + 4, 0, none⟩) m m)).setCell ⟨b + 3, 0, none⟩ (.bool true)).heap[D]? = some (.deferred (some [])) ∧ (((V.setCell ⟨b + 2, 0, none⟩ (.slice (some ⟨b + 4, 0, none⟩) m m)).setCell ⟨b + 3, 0, none⟩ (.bool true)).putObj D (.deferred none)).cell? ⟨b + 2, 0, none⟩ = some (.slice (some ⟨b + 4, 0, none⟩) m m) ∧ (((V.setCell ⟨b + 2, 0, none⟩ (.slice (some ⟨b + 4, 0, none⟩) m m)).setCell ⟨b + 3, 0, none⟩ (.bool true)).putObj D (.deferred none)).cell? ⟨b + 3, 0, none⟩ = some (.bool true) ∧ RowsM (b + 11) (b + 4) m F v (((V.setCell ⟨b + 2, 0, none⟩ (.slice (some ⟨b + 4, 0, none⟩) m m)).setCell ⟨b + 3, 0, none⟩ (.bool true)).putObj D (.deferred none)) ∧ Below b w (((V.setCell ⟨b + 2, 0, none⟩ (.slice (some ⟨b + 4, 0, none⟩) m m)).setCell ⟨b + 3, 0, none⟩ (.bool true)).putObj D (.deferred none)) := by
  obtain ⟨V1, hV1⟩ : ∃ V1, V.setCell ⟨b + 2, 0, none⟩ (.slice (some ⟨b + 4, 0, none⟩) m m) = V1 := ⟨_, rfl⟩
  have k1 : ∀ i, i ≠ b + 2 → V1.heap[i]? = V.heap[i]? := fun i h => by rw [← hV1]; exact set_heap V (b + 2) i 0 _ h
  have g1 : V1.heap[b + 2]? = some (.cells #[.slice (some ⟨b + 4, 0, none⟩) m m] 30 (0, 0)) := by rw [← hV1]; exact one_set h2
  have r1 : RowsM (b + 11) (b + 4) m F v V1 := by rw [← hV1]; exact hi.rows.set (by omega) (by omega) _ _
  have b1 : Below b w5 V1 := by rw [← hV1]; exact mb_set hi.bel (by omega) _ _
  have s1 : V1.heap.size = V.heap.size := by rw [← hV1]; simp [World.setCell]
  rw [hV1]
  obtain ⟨V2, hV2⟩ : ∃ V2, V1.setCell ⟨b + 3, 0, none⟩ (.bool true) = V2 := ⟨_, rfl⟩
  have k2 : ∀ i, i ≠ b + 3 → V2.heap[i]? = V1.heap[i]? := fun i h => by rw [← hV2]; exact set_heap V1 (b + 3) i 0 _ h
  have g3 : V2.heap[b + 3]? = some (.cells #[.bool true] 4 (0, 0)) := by rw [← hV2]; exact one_set ((k1 _ (by omega)).trans h3)
  have r2 : RowsM (b + 11) (b + 4) m F v V2 := by rw [← hV2]; exact r1.set (by omega) (by omega) _ _
  have b2 : Below b w5 V2 := by rw [← hV2]; exact mb_set b1 (by omega) _ _
  have s2 : V2.heap.size = V.heap.size := by rw [← hV2, ← s1]; simp [World.setCell]
  rw [hV2]
  have hd : V2.heap[D]? = some (.deferred (some [])) := (k2 D (by omega)).trans ((k1 D (by omega)).trans hdf)
  have hDl : D < V2.heap.size := (Array.getElem?_eq_some_iff.1 hd).1
  have kp : ∀ i, i ≠ D → (V2.putObj D (.deferred none)).heap[i]? = V2.heap[i]? := fun i h => World.putObj_heap_other h
  refine ⟨hd, one_cell ((kp (b + 2) (by omega)).trans ((k2 _ (by omega)).trans g1)), one_cell ((kp (b + 3) (by omega)).trans g3), r2.turn (grownBy_putObj' V2 D (.deferred none)) (fun k e => by cases e; exact ⟨_, hd, rfl⟩), ?_⟩
  exact (hbel.trans b2).trans ((Below.refl b _).grown (grownBy_putObj' _ D (.deferred none)) (by have := hi.siz; omega) (fun k e => by cases e; omega))
set_option maxRecDepth 100000 in
set_option maxHeartbeats 4000000 in
theorem found_any (B sb : Nat) (pw : Option Addr) (c m : Nat) (L : List ByteArray) (fold : Bool) (s : ByteArray) (w : World) (hM : ManyM B sb (Mn.wds fold L) fold w) (hS : StrAt w pw L) (hm : L.length = m) (hg : Mn.Good fold L) (hs : s.size ≤ 4294967296) :
    Calls Tryd.prog 9 #[.pointer (some ⟨sb, 0, none⟩), .slice pw m c, .string s] w fun e w' => ∃ v, e = .returned (.tuple #[.slice (some ⟨w.heap.size + 4, 0, none⟩) m m, .bool true]) ∧ RowsM (w.heap.size + 11) (w.heap.size + 4) m (Mn.plc (Mn.allF (Mn.wds fold L) (tx fold s))) v w' ∧ Below w.heap.size w w' := by
  refine (callsIn_wide (n := 6)).1 ?_
  obtain ⟨b, hb⟩ : ∃ b, w.heap.size = b := ⟨_, rfl⟩
  have HWK := Hid.mk' (Wok.of hg)
  have hfew := hg.few
  have HS := Hid.mk' hS
  have HM := Hid.mk' hm
  have HMM := Hid.mk' hM
  rw [hm] at hfew
  have hmk := fun w => make_rows m (by omega) w
  rw [hb]
  clear hM hS hm hg
  refine callsIn_of_wp_marks Tryd.func9 rfl trivial ?_ rfl
  simp only [Tryd.ntmps9, List.size_toArray, List.length_cons, List.length_nil, Nat.reduceAdd, Nat.reduceSub, Array.replicate_succ, Array.replicate_zero, List.push_toArray, List.append_toArray, List.nil_append, List.cons_append]
  have hs50 : s.size ≤ 1125899906842624 := by omega
  gi_wp2_with (first
    | (refine ⟨trivial, ?_⟩; gi_at_call 26; refine (callsIn_wide.2 (all_any sb s _)).mono ?_; rintro e w5 ⟨rfl, hw5⟩; have HW5 := Hid.mk' hw5; have hnl := nil_alf (.func 38) #[] #[.pointer (some ⟨b + 10, 0, none⟩), .pointer (some ⟨b + 9, 0, none⟩)] w5; simp only [World.size_alloc, hb, Nat.add_assoc, Nat.reduceAdd]; clear hw5))
  obtain ⟨HF5, HJ0⟩ : Hid (Fo5 b m c sb pw s w w5) ∧ Hid (FoJ b m w5 (fun _ => []) 0 0 0 (fun _ => .slice none 0 0) w5) := fo_start w b m c sb pw s hb w5 HW5.out
  obtain ⟨g, cn, g2, cw, h4⟩ := HMM.out
  have hgl : g < b := by rw [← hb]; exact h4.gB.2
  have hg2l : g2 < b := by rw [← hb]; exact (h4.wrd.lt g2 rfl).2
  have hsbl : sb < b := by rw [← hb]; exact h4.lt
  have HM5 := Hid.mk' (h4.keep (w' := w5) (by rw [hb]; exact HF5.out.bel))
  have HS5 : Hid (∀ i, i < m → ∃ g off, pw = some ⟨g, off, none⟩ ∧ g < b ∧ w5.cell? ⟨g, off + i, none⟩ = some (.string (L.getD i ByteArray.empty))) := fun i hi => by
    obtain ⟨g, off, h1, h2⟩ := HS.out i (by have := HM.out; omega)
    have h3 := World.block_lt_of_cell? w _ h2
    simp only [hb] at h3
    exact ⟨g, off, h1, h3, (World.cell?_of_block (a := ⟨g, off + i, none⟩) (HF5.out.bel.block g h3)).trans h2⟩
  have hz5 := HF5.out.size
  have hnod := HWK.out.nod
  clear h4 HMM HW5 hnl hmk HS
  refine wpIn_rangeS rfl (by omega) (gf := 38) (lb := #[.pointer (some ⟨b + 10, 0, none⟩), .pointer (some ⟨b + 9, 0, none⟩)]) rfl trivial (enters_of Tryd.func38 (by kernel_rfl) rfl)
    (all_seqN 5 (by omega) (b + 10) (b + 9) B sb g g2 cn cw (Mn.wds fold L) fold s HWK.out hs50 w5 (by simp [World.cell?, HF5.out.c10]) (by simp [World.cell?, HF5.out.c9]) HM5.out) (fun _ h => h.elim) KpB.t (fun V k o o' hk _ _ i hi => World.putObj_heap_other (by rw [hz5] at hk; rcases hi with rfl | rfl | rfl | rfl | rfl <;> omega)) (Below.refl _ _) (fun _ => rfl)
    (fun pre V => ∃ v, FoJ b m w5 (Mn.plc pre) (Mn.lastP pre) (Mn.lastZ (Mn.wds fold L) pre) pre.length v V) (fun _ _ _ => False)
    (fun pre X Y row hX hg hr => by obtain ⟨v, hX⟩ := hX; exact ⟨v, hX.ab hg (fun r e => by rw [← hz5]; exact hr r e)⟩)
    (fun c pre X Y row hX hg hr => hX)
    ⟨_, HJ0.out⟩ (fun _ _ _ => rfl) (fun x => [(13, .int .i64 (x.1 : Int)), (14, .int .i64 (x.2 : Int))]) ?assign ?body ?done ?stop
  case assign =>
    intro l pre x V K hK
    simp only [encM] at hK ⊢
    gi_wp2
    refine fk_to hK ?_
    simp
  case stop => exact fun D c pre V hD hpre h => h.elim
  case done =>
    rintro D xs V hD rfl ⟨v, hi⟩ hdf
    have c5 : V.cell? ⟨b + 5, 0, none⟩ = some (.slice (some ⟨b + 4, 0, none⟩) m m) := (World.cell?_of_block (a := ⟨b + 5, 0, none⟩) (hi.kp (b + 5) (by omega) (by omega) (by omega) (by omega) (by omega))).trans (one_cell HF5.out.c5)
    have h2 := (hi.kp (b + 2) (by omega) (by omega) (by omega) (by omega) (by omega)).trans HF5.out.c2
    have h3 := (hi.kp (b + 3) (by omega) (by omega) (by omega) (by omega) (by omega)).trans HF5.out.c3
    have c2 := one_cell h2
    have f2 := one_frozen h2
    have h3' : (V.setCell ⟨b + 2, 0, none⟩ (.slice (some ⟨b + 4, 0, none⟩) m m)).heap[b + 3]? = _ := (set_heap V (b + 2) (b + 3) 0 _ (by omega)).trans h3
    have c3 := one_cell h3'
    have f3 := one_frozen h3'
    have FIN := Hid.mk' (fo_fin hi h2 h3 HF5.out.bel (by omega) hdf)
    clear hi h2 h3 h3'
    gi_wp2
    refine ⟨by simp, .inl ⟨_, _, rfl, run_takeDeferred FIN.out.1, ?_⟩⟩
    refine ⟨.tuple #[.slice (some ⟨b + 4, 0, none⟩) m m, .bool true], ?_, v, rfl, FIN.out.2.2.2.1, FIN.out.2.2.2.2⟩
    simp [results, Tryd.f9, go_sem, FIN.out.2.1, FIN.out.2.2.1]
  case body =>
    rintro l pre ⟨q, v⟩ V hl ⟨rr, hrr⟩ ⟨rv, hi⟩ hpre
    obtain ⟨hvm, hqs, hnn, hor⟩ := Mn.round_ok hnod hpre
    rw [Mn.wds_len, HM.out] at hvm
    rw [Mn.wds_len, HM.out, tx_len] at hnn
    rw [tx_len] at hqs
    obtain ⟨x, hx⟩ : ∃ x, L.getD v ByteArray.empty = x := ⟨_, rfl⟩
    have hxl : ((Mn.wds fold L).getD v []).length = x.size := by
      rw [List.getD_eq_getElem?_getD, Mn.wds_get fold L v (by have := HM.out; omega), Option.getD_some, Sums.bl_length, Mn.fd_size, hx]
    have hxs := (HWK.out.len _ (List.mem_of_getElem? (Mn.wds_get fold L v (by have := HM.out; omega)))).2
    rw [Sums.bl_length, Mn.fd_size, hx] at hxs
    rw [hxl] at hor
    have HLS := Hid.mk' (Mn.last_snoc (Mn.wds fold L) pre (q, v))
    rw [hxl] at HLS
    have HPS := Hid.mk' (Mn.plc_snoc pre q v)
    obtain ⟨lp, hlp⟩ : ∃ lp, Mn.lastP pre = lp := ⟨_, rfl⟩
    obtain ⟨lz, hlz⟩ : ∃ lz, Mn.lastZ (Mn.wds fold L) pre = lz := ⟨_, rfl⟩
    obtain ⟨np, hnp⟩ : ∃ np, pre.length = np := ⟨_, rfl⟩
    obtain ⟨F, hF⟩ : ∃ F, Mn.plc pre = F := ⟨_, rfl⟩
    have hFl : (F v).length ≤ np := by rw [← hF, ← hnp]; exact Mn.plc_len pre v
    rw [hF] at HPS
    rw [hlp, hlz] at hor
    rw [hnp] at hnn
    rw [hlp, hlz, hnp, hF] at hi
    have hmul : s.size * m ≤ 4294967296 * 64 := Nat.mul_le_mul hs hfew
    obtain ⟨sm, hsm⟩ : ∃ sm, s.size * m = sm := ⟨_, rfl⟩
    rw [hsm] at hmul hnn
    have hsmI : (s.size : Int) * (m : Int) = (sm : Int) := by rw [← hsm]; simp
    have hwr0 : IntKind.i64.wrap (sm : Int) = (sm : Int) := by rw [IntKind.wrap_i64]; omega
    obtain ⟨k1, hk1⟩ : ∃ k1, np + 1 = k1 := ⟨_, rfl⟩
    have hnpI : (np : Int) + 1 = (k1 : Int) := by omega
    have hwr1 : IntKind.i64.wrap (k1 : Int) = (k1 : Int) := by rw [IntKind.wrap_i64]; omega
    have hgt : ¬ (sm : Int) < (k1 : Int) := by omega
    have hvmI : (v : Int) < (m : Int) := by omega
    have hvmN : ¬ (m : Int) ≤ (v : Int) := by omega
    have hv0 : ¬ (v : Int) < 0 := by omega
    have hqsN : ¬ (s.size : Int) < (q : Int) := by omega
    have hqlN : ¬ (q : Int) < (lp : Int) := by omega
    have c8 : V.cell? ⟨b + 8, 0, none⟩ = some (.int .i64 (np : Int)) := by simp [World.cell?, hi.bn]
    have f8 : V.frozen? ⟨b + 8, 0, none⟩ = false := by simp [World.frozen?, hi.bn]
    have HI1 := Hid.mk' (hi.putN k1)
    have HK1 := Hid.mk' (keptW_set (V := V) (show b + 8 < b + 11 by omega) 0 (.int .i64 (k1 : Int)))
    have HI0 := Hid.mk' hi
    have hx0 := Hid.mk' hx
    have hlen : Hid (pre.length + 1 = k1) := Hid.mk' (by rw [hnp]; exact hk1)
    clear hi hpre hx hlp hlz hnp hF hsm
    apply fp_act
    case e => simp [encM]; rfl
    iterate 120 (first | (with_reducible refine fo_reg 12 ?_) | go_values | gi_guarded | gi_step | gi_upon | go_simp | skip)
    apply Hid.mk'
    obtain ⟨V1, hV1⟩ : ∃ V1, V.setCell ⟨b + 8, 0, none⟩ (.int .i64 (k1 : Int)) = V1 := ⟨_, rfl⟩
    rw [hV1] at HI1 HK1 ⊢
    obtain ⟨gw, off, hpw, hgw, hcx⟩ := HS5.out v hvm
    rw [hx0.out] at hcx
    have kb : ∀ i, i < b → V1.heap[i]? = w5.heap[i]? := fun i hi => HI1.out.kp i (by omega) (by omega) (by omega) (by omega) (by omega)
    have cW : V1.cell? ⟨b, 0, none⟩ = some (.slice pw m c) := (World.cell?_of_block (a := ⟨b, 0, none⟩) (HI1.out.kp b (by omega) (by omega) (by omega) (by omega) (by omega))).trans (by simp [World.cell?, HF5.out.c0])
    have cT : V1.cell? ⟨b + 1, 0, none⟩ = some (.string s) := (World.cell?_of_block (a := ⟨b + 1, 0, none⟩) (HI1.out.kp (b + 1) (by omega) (by omega) (by omega) (by omega) (by omega))).trans (by simp [World.cell?, HF5.out.c1])
    have cL : V1.cell? ⟨b + 6, 0, none⟩ = some (.int .i64 (lp : Int)) := by simp [World.cell?, HI1.out.bl]
    have cZ : V1.cell? ⟨b + 7, 0, none⟩ = some (.int .i64 (lz : Int)) := by simp [World.cell?, HI1.out.bz]
    have cN : V1.cell? ⟨b + 8, 0, none⟩ = some (.int .i64 (k1 : Int)) := by simp [World.cell?, HI1.out.bn]
    have cX : V1.cell? ⟨gw, off + v, none⟩ = some (.string x) := (World.cell?_of_block (a := ⟨gw, off + v, none⟩) (kb gw hgw)).trans hcx
    rw [hpw] at cW
    have hcx0 := Hid.mk' hcx
    clear kb hcx hV1 c8 f8
    have hcase : (¬ (q : Int) = (lp : Int) ∧ ((q : Int) == (lp : Int)) = false) ∨ (q = lp ∧ ¬ (lz : Int) ≤ (x.size : Int)) := by
      rcases hor with h | ⟨h, h2⟩
      · have h3 : ¬ (q : Int) = (lp : Int) := by omega
        exact .inl ⟨h3, beq_eq_false_iff_ne.2 h3⟩
      · exact .inr ⟨h.symm, by omega⟩
    clear hor
    rcases hcase with ⟨a1, a2⟩ | ⟨rfl, a1⟩
    · refine wpIn_region_quiet_rnd (F := Fence.wide) l rfl (by kernel_rfl) (by kernel_rfl) (by kernel_rfl) ?_
      repeat (gi_big_quiet_step (fail))
      refine wpQuietIn_nil ?_
      intro _ hwq0
      obtain ⟨nq, hwq1⟩ := hwq0
      subst hwq1
      iterate 120 (first | (with_reducible refine fo_reg 14 ?_) | go_values | gi_guarded | gi_step | gi_upon | go_simp | skip)
      apply Hid.mk'
      obtain ⟨X0, hX0⟩ : ∃ X0 : World, { (V1.drewN nq) with drawn := (V1.drewN nq).drawn + 1 } = X0 := ⟨_, rfl⟩
      have HJ := Hid.mk' ((HI1.out.drewN nq).drewN 1)
      rw [show (V1.drewN nq).drewN 1 = X0 from hX0] at HJ
      have HK0 : Hid (KeptW (b + 11) noW V X0) := by rw [← hX0]; exact Hid.mk' (⟨HK1.out.size, HK1.out.same⟩ : KeptW (b + 11) noW V { (V1.drewN nq) with drawn := (V1.drewN nq).drawn + 1 })
      obtain ⟨X1, hX1⟩ : ∃ X1, X0.alloc (.cells #[.int .i64 (q : Int)] 3) = X1 := ⟨_, rfl⟩
      have hown : X1.ownsRow (b + 11) 3 1 (rv v) (F v).length (intL (F v)) := by
        rw [← hX1]
        exact (HJ.out.rows.keep ((Below.refl _ X0).alloc (Nat.le_refl _) _)).row v hvm
      obtain ⟨pv, cv, hpv⟩ := mr_shape hown
      obtain ⟨nv, hnv⟩ : ∃ nv, (F v).length = nv := ⟨_, rfl⟩
      have hsz0 := HJ.out.siz
      obtain ⟨i0, ji, jz0, jz1, jz2⟩ := info_parts infoI
      obtain ⟨u2, X2, hrun, ho2, hg2, _, hat⟩ := run_append_own_at (P := Tryd.prog) X1 (b + 11) 33 33 3 i0 (.int .i64 0) 1 8 Tryd.underlying33 ji jz0 jz1 jz2 rfl (by decide) (rv v) (F v).length (intL (F v)) hown ⟨X0.heap.size, 0, none⟩ 1 1 [.int .i64 (q : Int)] rfl (by rw [← hX1]; exact cell_one_new _ _ _) (int_one _) (by unfold maxLen; omega) (by omega) (by rw [← hX1]; simp; omega)
      rw [← hX1] at hg2
      have HNX := Hid.mk' (HJ.out.next hvm ho2 hg2 (by rw [← hX1] at hat; simpa using hat) (G := Mn.plc (pre ++ [(q, v)])) (fun j => HPS.out j))
      obtain ⟨pu, cu, rfl⟩ := mr_shape ho2
      rw [hpv, hnv] at hrun
      rw [hnv] at HNX
      have k2 : ∀ i, i < b + 11 → X2.heap[i]? = X0.heap[i]? := fun i hi => (hg2.block i (by simp; omega) (fun e => by have := ((HJ.out.rows.row v hvm).lt i e.symm).1; omega)).trans (Below.heap_alloc _ _ _ (by omega))
      have k1' : ∀ i, i < b + 11 → X1.heap[i]? = X0.heap[i]? := fun i hi => by rw [← hX1]; exact Below.heap_alloc _ _ _ (by omega)
      obtain ⟨d0, e0⟩ := HJ.out.rows.cell v hvm
      rw [hpv, hnv] at d0
      have c50 : X0.cell? ⟨b + 5, 0, none⟩ = some (.slice (some ⟨b + 4, 0, none⟩) m m) := (World.cell?_of_block (a := ⟨b + 5, 0, none⟩) (HJ.out.kp (b + 5) (by omega) (by omega) (by omega) (by omega) (by omega))).trans (by simp [World.cell?, HF5.out.c5])
      have d2 : X2.cell? ⟨b + 4, v, none⟩ = some (.slice pv nv cv) := (World.cell?_of_block (a := ⟨b + 4, v, none⟩) (k2 (b + 4) (by omega))).trans d0
      have e2 : X2.frozen? ⟨b + 4, v, none⟩ = false := (World.frozen?_of_block (a := ⟨b + 4, v, none⟩) (k2 (b + 4) (by omega))).trans e0
      have HRD : Hid (∀ X, (X = X0 ∨ X = X1 ∨ X = X2) → X.cell? ⟨b + 5, 0, none⟩ = some (.slice (some ⟨b + 4, 0, none⟩) m m) ∧ X.cell? ⟨b + 4, v, none⟩ = some (.slice pv nv cv)) := fun X hX => by
        rcases hX with rfl | rfl | rfl
        · exact ⟨c50, d0⟩
        · exact ⟨(World.cell?_of_block (a := ⟨b + 5, 0, none⟩) (k1' (b + 5) (by omega))).trans c50, (World.cell?_of_block (a := ⟨b + 4, v, none⟩) (k1' (b + 4) (by omega))).trans d0⟩
        · exact ⟨(World.cell?_of_block (a := ⟨b + 5, 0, none⟩) (k2 (b + 5) (by omega))).trans c50, d2⟩
      have hbs : X0.alloc (.cells #[.int .i64 (q : Int)] 3) = X1 := hX1
      clear hown ho2 hg2 hat k2 k1' cW cT cL cZ cN cX hnv hpv
      refine region_done (by kernel_rfl) (fun kz => (#[.slice (some ⟨b + 4, 0, none⟩) m m, .int .i64 (v : Int), .slice (some ⟨b + 4, 0, none⟩) m m, .int .i64 (v : Int), .pointer (some ⟨b + 4, v, none⟩), .slice pv nv cv, .int .i64 (q : Int), .slice (some ⟨X0.heap.size, 0, none⟩) 1 1, .slice pu (nv + 1) cu, .pointer (some ⟨b + 4, v, none⟩), undef] : Array Value).getD kz undef) (fun u => { tmps := #[.pointer (some ⟨sb, 0, none⟩), .slice (some ⟨gw, off, none⟩) m c, .string s, undef, .pointer (some ⟨b, 0, none⟩), .pointer (some ⟨b + 1, 0, none⟩), .pointer (some ⟨b + 2, 0, none⟩), .pointer (some ⟨b + 3, 0, none⟩), .pointer (some ⟨b + 5, 0, none⟩), .pointer (some ⟨b + 6, 0, none⟩), .pointer (some ⟨b + 7, 0, none⟩), .pointer (some ⟨b + 8, 0, none⟩), .func (.func 38) #[] #[.pointer (some ⟨b + 10, 0, none⟩), .pointer (some ⟨b + 9, 0, none⟩)], .int .i64 (q : Int), .int .i64 (v : Int), .slice (some ⟨gw, off, none⟩) m c, .int .i64 (m : Int), .slice (some ⟨b + 4, 0, none⟩) m m, .pointer (some ⟨sb, 0, none⟩), .string s, .func (.func 38) #[] #[.pointer (some ⟨b + 10, 0, none⟩), .pointer (some ⟨b + 9, 0, none⟩)], .func (.func 38) #[] #[.pointer (some ⟨b + 10, 0, none⟩), .pointer (some ⟨b + 9, 0, none⟩)], .bool false, .func (.func 38) #[] #[.pointer (some ⟨b + 10, 0, none⟩), .pointer (some ⟨b + 9, 0, none⟩)], .int .i64 (q : Int), .int .i64 (v : Int), .int .i64 (np : Int), .int .i64 (k1 : Int), .int .i64 (v : Int), .bool false, .bool false, .int .i64 (v : Int), .slice (some ⟨gw, off, none⟩) m c, .int .i64 (m : Int), .bool false, .bool false, .bool false, .int .i64 (q : Int), .int .i64 (lp : Int), .bool false, .bool false, .bool false, .int .i64 (q : Int), .string s, .int .i64 (s.size : Int), .bool false, .bool false, .bool false, .int .i64 (q : Int), .int .i64 (lp : Int), .bool false, .bool false, undef, undef, undef, undef, undef, undef, undef, .bool false, .bool false, .bool false, .int .i64 (k1 : Int), .string s, .int .i64 (s.size : Int), .slice (some ⟨gw, off, none⟩) m c, .int .i64 (m : Int), .int .i64 (sm : Int), .bool false, .bool false, u 0, u 1, u 2, u 3, u 4, u 5, u 6, u 7, u 8, u 9, undef, undef, undef, undef, undef, undef, undef], defers := [] }) (fun k => undef) _ (Stg 7 8 10 X0 X1 X2 (X2.setCell ⟨b + 4, v, none⟩ (.slice pu (nv + 1) cu))) (fun L hL => by rw [hX0]; exact Stg.start hL) (deps_of' (by kernel_rfl)) ?_ ?_ ?_
      · intro f1 f2 hfg
        simp only [hfg 0 (by decide), hfg 1 (by decide), hfg 2 (by decide), hfg 3 (by decide), hfg 4 (by decide), hfg 5 (by decide), hfg 6 (by decide), hfg 7 (by decide), hfg 8 (by decide), hfg 9 (by decide)]
      · intro L X hS i0 hi0 hL o ho hdone u hdeps KK hKK
        rcases (show i0 = 0 ∨ i0 = 1 ∨ i0 = 2 ∨ i0 = 3 ∨ i0 = 4 ∨ i0 = 5 ∨ i0 = 6 ∨ i0 = 7 ∨ i0 = 8 ∨ i0 = 9 ∨ i0 = 10 by have : i0 < 11 := hi0; omega) with rfl | rfl | rfl | rfl | rfl | rfl | rfl | rfl | rfl | rfl | rfl
        case inr.inr.inr.inr.inr.inr.inr.inl =>
          obtain ⟨rfl, hN⟩ := hS.make (by omega) (by omega) hL
          have hKX := hKK X1 hN
          simp at ho; subst ho; simp [Region.binds] at hdeps
          simp [wpOpIn, Region.wanted, yielded, Oper.wpIn, Oper.semAt_some, execOp, Oper.uponIn, go_sem, hdeps, hbs]
          first | exact hKX | (simp [upd, hdeps] at hKX; exact hKX)
        case inr.inr.inr.inr.inr.inr.inr.inr.inl =>
          obtain ⟨rfl, hN⟩ := hS.turn (by omega) (by omega) hL (by simp at ho; subst ho; simp [Region.binds] at hdone; exact hdone.2)
          have hKX := hKK X2 hN
          simp at ho; subst ho; simp [Region.binds] at hdeps
          refine op_append rfl rfl rfl (v1 := .slice pv nv cv) (v2 := .slice (some ⟨X0.heap.size, 0, none⟩) 1 1) ?_ ?_ hrun ?_
          · simp [go_sem, hdeps]
          · simp [go_sem, hdeps]
          · first | exact hKX | (simp [upd, hdeps, go_sem] at hKX ⊢; exact hKX)
        case inr.inr.inr.inr.inr.inr.inr.inr.inr.inr =>
          simp at ho; subst ho; simp [Region.binds] at hdone hdeps
          obtain ⟨rfl, hN⟩ := hS.store hL (fun i hi => by rcases (show i = 0 ∨ i = 1 ∨ i = 2 ∨ i = 3 ∨ i = 4 ∨ i = 5 ∨ i = 6 ∨ i = 7 ∨ i = 8 ∨ i = 9 by omega) with rfl | rfl | rfl | rfl | rfl | rfl | rfl | rfl | rfl | rfl <;> simp [hdone]) (by omega)
          have hKX := hKK _ hN
          simp [wpOpIn, Region.wanted, yielded, Oper.wpIn, Oper.semAt_some, execOp, Oper.uponIn, go_sem, hdeps, d2, e2]
          first | exact hKX | (simp [upd, hdeps] at hKX; exact hKX)
        all_goals (obtain ⟨r1, r2⟩ := HRD.out X (hS.on (by omega) hL); have hKX := hKK X (fun L' hL' => hS.read (by omega) (by omega) (by omega) hL hL'); simp at ho; subst ho; simp [Region.binds] at hdeps; simp [wpOpIn, Region.wanted, yielded, Oper.wpIn, Oper.semAt_some, execOp, Oper.uponIn, go_sem, hdeps, r1, r2, hv0, hvmI, hvmN]; first | exact hKX | (simp [upd, hdeps] at hKX; exact hKX))
      · intro L X hall hS
        obtain rfl := hS.done (hall 10 (by decide))
        obtain ⟨X3, hX3⟩ : ∃ X3, X2.setCell ⟨b + 4, v, none⟩ (.slice pu (nv + 1) cu) = X3 := ⟨_, rfl⟩
        rw [hX3] at HNX ⊢
        have c6 := one_cell HNX.out.1.bl
        have f6 := one_frozen HNX.out.1.bl
        have HJ4 := Hid.mk' (HNX.out.1.putL q)
        have c7 := one_cell HJ4.out.bz
        have f7 := one_frozen HJ4.out.bz
        have cW4 : (X3.setCell ⟨b + 6, 0, none⟩ (.int .i64 (q : Int))).cell? ⟨b, 0, none⟩ = some (.slice pw m c) := (World.cell?_of_block (a := ⟨b, 0, none⟩) (HJ4.out.kp b (by omega) (by omega) (by omega) (by omega) (by omega))).trans (one_cell HF5.out.c0)
        rw [hpw] at cW4
        have cX4 : (X3.setCell ⟨b + 6, 0, none⟩ (.int .i64 (q : Int))).cell? ⟨gw, off + v, none⟩ = some (.string x) := (World.cell?_of_block (a := ⟨gw, off + v, none⟩) (HJ4.out.kp gw (by omega) (by omega) (by omega) (by omega) (by omega))).trans hcx0.out
        have HJ5 := Hid.mk' (HJ4.out.putZ x.size)
        clear hX3 hrun
        gi_wp2
        refine ⟨?_, ?_, ?_⟩
        · exact ((HK0.out.trans HNX.out.2).trans (keptW_set (by omega) _ _)).trans (keptW_set (by omega) _ _)
        · exact fun i hi => (HJ5.out.kp i (by rcases hi with rfl | rfl | rfl | rfl | rfl <;> omega) (by rcases hi with rfl | rfl | rfl | rfl | rfl <;> omega) (by rcases hi with rfl | rfl | rfl | rfl | rfl <;> omega) (by rcases hi with rfl | rfl | rfl | rfl | rfl <;> omega) (by rcases hi with rfl | rfl | rfl | rfl | rfl <;> omega)).trans (HI0.out.kp i (by rcases hi with rfl | rfl | rfl | rfl | rfl <;> omega) (by rcases hi with rfl | rfl | rfl | rfl | rfl <;> omega) (by rcases hi with rfl | rfl | rfl | rfl | rfl <;> omega) (by rcases hi with rfl | rfl | rfl | rfl | rfl <;> omega) (by rcases hi with rfl | rfl | rfl | rfl | rfl <;> omega)).symm
        · refine Exists.intro (fun j => if j = v then Value.slice pu (nv + 1) cu else rv j) ?_
          rw [HLS.out.1, HLS.out.2, List.length_append, List.length_singleton, hlen.out]
          exact HJ5.out
    · refine wpIn_region_quiet_rnd (F := Fence.wide) l rfl (by kernel_rfl) (by kernel_rfl) (by kernel_rfl) ?_
      repeat (gi_big_quiet_step (fail))
      refine wpQuietIn_nil ?_
      intro _ hwq0
      obtain ⟨nq, hwq1⟩ := hwq0
      subst hwq1
      iterate 120 (first | (with_reducible refine fo_reg 14 ?_) | go_values | gi_guarded | gi_step | gi_upon | go_simp | skip)
      apply Hid.mk'
      obtain ⟨X0, hX0⟩ : ∃ X0 : World, { (V1.drewN nq) with drawn := (V1.drewN nq).drawn + 1 } = X0 := ⟨_, rfl⟩
      have HJ := Hid.mk' ((HI1.out.drewN nq).drewN 1)
      rw [show (V1.drewN nq).drewN 1 = X0 from hX0] at HJ
      have HK0 : Hid (KeptW (b + 11) noW V X0) := by rw [← hX0]; exact Hid.mk' (⟨HK1.out.size, HK1.out.same⟩ : KeptW (b + 11) noW V { (V1.drewN nq) with drawn := (V1.drewN nq).drawn + 1 })
      obtain ⟨X1, hX1⟩ : ∃ X1, X0.alloc (.cells #[.int .i64 (q : Int)] 3) = X1 := ⟨_, rfl⟩
      have hown : X1.ownsRow (b + 11) 3 1 (rv v) (F v).length (intL (F v)) := by
        rw [← hX1]
        exact (HJ.out.rows.keep ((Below.refl _ X0).alloc (Nat.le_refl _) _)).row v hvm
      obtain ⟨pv, cv, hpv⟩ := mr_shape hown
      obtain ⟨nv, hnv⟩ : ∃ nv, (F v).length = nv := ⟨_, rfl⟩
      have hsz0 := HJ.out.siz
      obtain ⟨i0, ji, jz0, jz1, jz2⟩ := info_parts infoI
      obtain ⟨u2, X2, hrun, ho2, hg2, _, hat⟩ := run_append_own_at (P := Tryd.prog) X1 (b + 11) 33 33 3 i0 (.int .i64 0) 1 8 Tryd.underlying33 ji jz0 jz1 jz2 rfl (by decide) (rv v) (F v).length (intL (F v)) hown ⟨X0.heap.size, 0, none⟩ 1 1 [.int .i64 (q : Int)] rfl (by rw [← hX1]; exact cell_one_new _ _ _) (int_one _) (by unfold maxLen; omega) (by omega) (by rw [← hX1]; simp; omega)
      rw [← hX1] at hg2
      have HNX := Hid.mk' (HJ.out.next hvm ho2 hg2 (by rw [← hX1] at hat; simpa using hat) (G := Mn.plc (pre ++ [(q, v)])) (fun j => HPS.out j))
      obtain ⟨pu, cu, rfl⟩ := mr_shape ho2
      rw [hpv, hnv] at hrun
      rw [hnv] at HNX
      have k2 : ∀ i, i < b + 11 → X2.heap[i]? = X0.heap[i]? := fun i hi => (hg2.block i (by simp; omega) (fun e => by have := ((HJ.out.rows.row v hvm).lt i e.symm).1; omega)).trans (Below.heap_alloc _ _ _ (by omega))
      have k1' : ∀ i, i < b + 11 → X1.heap[i]? = X0.heap[i]? := fun i hi => by rw [← hX1]; exact Below.heap_alloc _ _ _ (by omega)
      obtain ⟨d0, e0⟩ := HJ.out.rows.cell v hvm
      rw [hpv, hnv] at d0
      have c50 : X0.cell? ⟨b + 5, 0, none⟩ = some (.slice (some ⟨b + 4, 0, none⟩) m m) := (World.cell?_of_block (a := ⟨b + 5, 0, none⟩) (HJ.out.kp (b + 5) (by omega) (by omega) (by omega) (by omega) (by omega))).trans (by simp [World.cell?, HF5.out.c5])
      have d2 : X2.cell? ⟨b + 4, v, none⟩ = some (.slice pv nv cv) := (World.cell?_of_block (a := ⟨b + 4, v, none⟩) (k2 (b + 4) (by omega))).trans d0
      have e2 : X2.frozen? ⟨b + 4, v, none⟩ = false := (World.frozen?_of_block (a := ⟨b + 4, v, none⟩) (k2 (b + 4) (by omega))).trans e0
      have HRD : Hid (∀ X, (X = X0 ∨ X = X1 ∨ X = X2) → X.cell? ⟨b + 5, 0, none⟩ = some (.slice (some ⟨b + 4, 0, none⟩) m m) ∧ X.cell? ⟨b + 4, v, none⟩ = some (.slice pv nv cv)) := fun X hX => by
        rcases hX with rfl | rfl | rfl
        · exact ⟨c50, d0⟩
        · exact ⟨(World.cell?_of_block (a := ⟨b + 5, 0, none⟩) (k1' (b + 5) (by omega))).trans c50, (World.cell?_of_block (a := ⟨b + 4, v, none⟩) (k1' (b + 4) (by omega))).trans d0⟩
        · exact ⟨(World.cell?_of_block (a := ⟨b + 5, 0, none⟩) (k2 (b + 5) (by omega))).trans c50, d2⟩
      have hbs : X0.alloc (.cells #[.int .i64 (q : Int)] 3) = X1 := hX1
      clear hown ho2 hg2 hat k2 k1' cW cT cL cZ cN cX hnv hpv
      refine region_done (by kernel_rfl) (fun kz => (#[.slice (some ⟨b + 4, 0, none⟩) m m, .int .i64 (v : Int), .slice (some ⟨b + 4, 0, none⟩) m m, .int .i64 (v : Int), .pointer (some ⟨b + 4, v, none⟩), .slice pv nv cv, .int .i64 (q : Int), .slice (some ⟨X0.heap.size, 0, none⟩) 1 1, .slice pu (nv + 1) cu, .pointer (some ⟨b + 4, v, none⟩), undef] : Array Value).getD kz undef) (fun u => { tmps := #[.pointer (some ⟨sb, 0, none⟩), .slice (some ⟨gw, off, none⟩) m c, .string s, undef, .pointer (some ⟨b, 0, none⟩), .pointer (some ⟨b + 1, 0, none⟩), .pointer (some ⟨b + 2, 0, none⟩), .pointer (some ⟨b + 3, 0, none⟩), .pointer (some ⟨b + 5, 0, none⟩), .pointer (some ⟨b + 6, 0, none⟩), .pointer (some ⟨b + 7, 0, none⟩), .pointer (some ⟨b + 8, 0, none⟩), .func (.func 38) #[] #[.pointer (some ⟨b + 10, 0, none⟩), .pointer (some ⟨b + 9, 0, none⟩)], .int .i64 (q : Int), .int .i64 (v : Int), .slice (some ⟨gw, off, none⟩) m c, .int .i64 (m : Int), .slice (some ⟨b + 4, 0, none⟩) m m, .pointer (some ⟨sb, 0, none⟩), .string s, .func (.func 38) #[] #[.pointer (some ⟨b + 10, 0, none⟩), .pointer (some ⟨b + 9, 0, none⟩)], .func (.func 38) #[] #[.pointer (some ⟨b + 10, 0, none⟩), .pointer (some ⟨b + 9, 0, none⟩)], .bool false, .func (.func 38) #[] #[.pointer (some ⟨b + 10, 0, none⟩), .pointer (some ⟨b + 9, 0, none⟩)], .int .i64 (q : Int), .int .i64 (v : Int), .int .i64 (np : Int), .int .i64 (k1 : Int), .int .i64 (v : Int), .bool false, .bool false, .int .i64 (v : Int), .slice (some ⟨gw, off, none⟩) m c, .int .i64 (m : Int), .bool false, .bool false, .bool false, .int .i64 (q : Int), .int .i64 (q : Int), .bool false, .bool false, .bool false, .int .i64 (q : Int), .string s, .int .i64 (s.size : Int), .bool false, .bool false, .bool false, .int .i64 (q : Int), .int .i64 (q : Int), .bool true, .bool true, .slice (some ⟨gw, off, none⟩) m c, .int .i64 (v : Int), .pointer (some ⟨gw, off + v, none⟩), .string x, .int .i64 (x.size : Int), .int .i64 (lz : Int), .bool false, .bool false, .bool false, .bool false, .int .i64 (k1 : Int), .string s, .int .i64 (s.size : Int), .slice (some ⟨gw, off, none⟩) m c, .int .i64 (m : Int), .int .i64 (sm : Int), .bool false, .bool false, u 0, u 1, u 2, u 3, u 4, u 5, u 6, u 7, u 8, u 9, undef, undef, undef, undef, undef, undef, undef], defers := [] }) (fun k => undef) _ (Stg 7 8 10 X0 X1 X2 (X2.setCell ⟨b + 4, v, none⟩ (.slice pu (nv + 1) cu))) (fun L hL => by rw [hX0]; exact Stg.start hL) (deps_of' (by kernel_rfl)) ?_ ?_ ?_
      · intro f1 f2 hfg
        simp only [hfg 0 (by decide), hfg 1 (by decide), hfg 2 (by decide), hfg 3 (by decide), hfg 4 (by decide), hfg 5 (by decide), hfg 6 (by decide), hfg 7 (by decide), hfg 8 (by decide), hfg 9 (by decide)]
      · intro L X hS i0 hi0 hL o ho hdone u hdeps KK hKK
        rcases (show i0 = 0 ∨ i0 = 1 ∨ i0 = 2 ∨ i0 = 3 ∨ i0 = 4 ∨ i0 = 5 ∨ i0 = 6 ∨ i0 = 7 ∨ i0 = 8 ∨ i0 = 9 ∨ i0 = 10 by have : i0 < 11 := hi0; omega) with rfl | rfl | rfl | rfl | rfl | rfl | rfl | rfl | rfl | rfl | rfl
        case inr.inr.inr.inr.inr.inr.inr.inl =>
          obtain ⟨rfl, hN⟩ := hS.make (by omega) (by omega) hL
          have hKX := hKK X1 hN
          simp at ho; subst ho; simp [Region.binds] at hdeps
          simp [wpOpIn, Region.wanted, yielded, Oper.wpIn, Oper.semAt_some, execOp, Oper.uponIn, go_sem, hdeps, hbs]
          first | exact hKX | (simp [upd, hdeps] at hKX; exact hKX)
        case inr.inr.inr.inr.inr.inr.inr.inr.inl =>
          obtain ⟨rfl, hN⟩ := hS.turn (by omega) (by omega) hL (by simp at ho; subst ho; simp [Region.binds] at hdone; exact hdone.2)
          have hKX := hKK X2 hN
          simp at ho; subst ho; simp [Region.binds] at hdeps
          refine op_append rfl rfl rfl (v1 := .slice pv nv cv) (v2 := .slice (some ⟨X0.heap.size, 0, none⟩) 1 1) ?_ ?_ hrun ?_
          · simp [go_sem, hdeps]
          · simp [go_sem, hdeps]
          · first | exact hKX | (simp [upd, hdeps, go_sem] at hKX ⊢; exact hKX)
        case inr.inr.inr.inr.inr.inr.inr.inr.inr.inr =>
          simp at ho; subst ho; simp [Region.binds] at hdone hdeps
          obtain ⟨rfl, hN⟩ := hS.store hL (fun i hi => by rcases (show i = 0 ∨ i = 1 ∨ i = 2 ∨ i = 3 ∨ i = 4 ∨ i = 5 ∨ i = 6 ∨ i = 7 ∨ i = 8 ∨ i = 9 by omega) with rfl | rfl | rfl | rfl | rfl | rfl | rfl | rfl | rfl | rfl <;> simp [hdone]) (by omega)
          have hKX := hKK _ hN
          simp [wpOpIn, Region.wanted, yielded, Oper.wpIn, Oper.semAt_some, execOp, Oper.uponIn, go_sem, hdeps, d2, e2]
          first | exact hKX | (simp [upd, hdeps] at hKX; exact hKX)
        all_goals (obtain ⟨r1, r2⟩ := HRD.out X (hS.on (by omega) hL); have hKX := hKK X (fun L' hL' => hS.read (by omega) (by omega) (by omega) hL hL'); simp at ho; subst ho; simp [Region.binds] at hdeps; simp [wpOpIn, Region.wanted, yielded, Oper.wpIn, Oper.semAt_some, execOp, Oper.uponIn, go_sem, hdeps, r1, r2, hv0, hvmI, hvmN]; first | exact hKX | (simp [upd, hdeps] at hKX; exact hKX))
      · intro L X hall hS
        obtain rfl := hS.done (hall 10 (by decide))
        obtain ⟨X3, hX3⟩ : ∃ X3, X2.setCell ⟨b + 4, v, none⟩ (.slice pu (nv + 1) cu) = X3 := ⟨_, rfl⟩
        rw [hX3] at HNX ⊢
        have c6 := one_cell HNX.out.1.bl
        have f6 := one_frozen HNX.out.1.bl
        have HJ4 := Hid.mk' (HNX.out.1.putL q)
        have c7 := one_cell HJ4.out.bz
        have f7 := one_frozen HJ4.out.bz
        have cW4 : (X3.setCell ⟨b + 6, 0, none⟩ (.int .i64 (q : Int))).cell? ⟨b, 0, none⟩ = some (.slice pw m c) := (World.cell?_of_block (a := ⟨b, 0, none⟩) (HJ4.out.kp b (by omega) (by omega) (by omega) (by omega) (by omega))).trans (one_cell HF5.out.c0)
        rw [hpw] at cW4
        have cX4 : (X3.setCell ⟨b + 6, 0, none⟩ (.int .i64 (q : Int))).cell? ⟨gw, off + v, none⟩ = some (.string x) := (World.cell?_of_block (a := ⟨gw, off + v, none⟩) (HJ4.out.kp gw (by omega) (by omega) (by omega) (by omega) (by omega))).trans hcx0.out
        have HJ5 := Hid.mk' (HJ4.out.putZ x.size)
        clear hX3 hrun
        gi_wp2
        refine ⟨?_, ?_, ?_⟩
        · exact ((HK0.out.trans HNX.out.2).trans (keptW_set (by omega) _ _)).trans (keptW_set (by omega) _ _)
        · exact fun i hi => (HJ5.out.kp i (by rcases hi with rfl | rfl | rfl | rfl | rfl <;> omega) (by rcases hi with rfl | rfl | rfl | rfl | rfl <;> omega) (by rcases hi with rfl | rfl | rfl | rfl | rfl <;> omega) (by rcases hi with rfl | rfl | rfl | rfl | rfl <;> omega) (by rcases hi with rfl | rfl | rfl | rfl | rfl <;> omega)).trans (HI0.out.kp i (by rcases hi with rfl | rfl | rfl | rfl | rfl <;> omega) (by rcases hi with rfl | rfl | rfl | rfl | rfl <;> omega) (by rcases hi with rfl | rfl | rfl | rfl | rfl <;> omega) (by rcases hi with rfl | rfl | rfl | rfl | rfl <;> omega) (by rcases hi with rfl | rfl | rfl | rfl | rfl <;> omega)).symm
        · refine Exists.intro (fun j => if j = v then Value.slice pu (nv + 1) cu else rv j) ?_
          rw [HLS.out.1, HLS.out.2, List.length_append, List.length_singleton, hlen.out]
          exact HJ5.out
end Go.Proofs.YtlejfeapnnioeaaDoor
