/-
  The law FieldsMade. Conditions: rows of pairs and of ints as a row lets them be; the tables lie as the program lays them.
-/
import Derived.Test.YtkplbggefiemdaaGreatDoorMdQ
import Derived.Test.YtkplbggefiemdaaGreatDoorPk14
import Derived.Test.YtkplbggefiemdaaGreatDoorRda
import Derived.BigQuiet
import Derived.Lib.AppendZeros
import Derived.Deep.DeepCutAuto
namespace Go.Proofs.YtkplbggefiemdaaGreatDoor
open Go.RowKit Go.Shelf
attribute [local go_sem] Oper.semAt_some
set_option linter.unusedVariables false
set_option linter.unusedSimpArgs false
/-- what is known of memory from round to round: the list of pairs that are wanted is its owner's -/
structure MdK (w0 : World) (v : Value) (fs : List Fd) (X : World) : Prop where
  bel : Below w0.heap.size w0 X
  own : X.ownsRow w0.heap.size 29 2 v fs.length (prV (pairL fs))
theorem MdK.keep {w0 X Y : World} {v : Value} {fs : List Fd} (h : MdK w0 v fs X) (hb : Below X.heap.size X Y) : MdK w0 v fs Y :=
  ⟨bel_up h.bel hb, own_keptO h.own fun k hk => hb.block k (h.own.lt k hk).2⟩
theorem set_pair (V : World) (b : Nat) (x y : ByteArray) {c d : Value} (h : V.heap[b]? = some (.cells #[c, d] 29 (0, 0))) : Onb b V.heap.size V ((V.setCell ⟨b, 0, none⟩ (.string x)).setCell ⟨b, 1, none⟩ (.string y)) ∧ ((V.setCell ⟨b, 0, none⟩ (.string x)).setCell ⟨b, 1, none⟩ (.string y)).heap[b]? = some (.cells #[.string x, .string y] 29 (0, 0)) := by
  have e1 := setCell_eq_setRow V b 0 _ _ _ (.string x) h
  have h1 := setRow_heap V b _ (#[.string x, d] : Array Value) _ _ h
  have e1' : V.setCell ⟨b, 0, none⟩ (.string x) = V.setRow b #[.string x, d] := e1
  rw [e1']
  have e2 := setCell_eq_setRow (V.setRow b #[.string x, d]) b 1 _ _ _ (.string y) h1
  have h2 := setRow_heap (V.setRow b #[.string x, d]) b _ (#[.string x, .string y] : Array Value) _ _ h1
  have e2' : (V.setRow b #[.string x, d]).setCell ⟨b, 1, none⟩ (.string y) = (V.setRow b #[.string x, d]).setRow b #[.string x, .string y] := e2
  rw [e2']
  refine ⟨⟨rfl, rfl, rfl, by simp [World.setRow], fun k _ hk => ?_⟩, h2⟩
  simp only [World.setRow, Array.getElem?_modify]
  rw [if_neg (by omega), if_neg (by omega)]
theorem set_two (V : World) (b : Nat) (y : ByteArray) {c d : Value} (h : V.heap[b]? = some (.cells #[c, d] 29 (0, 0))) : Onb b V.heap.size V (V.setCell ⟨b, 1, none⟩ (.string y)) ∧ (V.setCell ⟨b, 1, none⟩ (.string y)).heap[b]? = some (.cells #[c, .string y] 29 (0, 0)) := by
  have e1 := setCell_eq_setRow V b 1 _ _ _ (.string y) h
  have h1 := setRow_heap V b _ (#[c, .string y] : Array Value) _ _ h
  have e1' : V.setCell ⟨b, 1, none⟩ (.string y) = V.setRow b #[c, .string y] := e1
  rw [e1']
  refine ⟨⟨rfl, rfl, rfl, by simp [World.setRow], fun k _ hk => ?_⟩, h1⟩
  simp only [World.setRow, Array.getElem?_modify]
  rw [if_neg (by omega)]
def sepB (k : Nat) : ByteArray := if k = 0 then ⟨#[32]⟩ else if k = 1 then ⟨#[44, 32]⟩ else if k = 2 then ⟨#[59, 32]⟩ else if k = 3 then ⟨#[9]⟩ else ⟨#[32, 97, 110, 100, 32]⟩
def sepV : Array Value := #[.string ⟨#[32]⟩, .string ⟨#[44, 32]⟩, .string ⟨#[59, 32]⟩, .string ⟨#[9]⟩, .string ⟨#[32, 97, 110, 100, 32]⟩]
theorem sep_mem (k : Nat) : Sums.bl (sepB k) ∈ sepL ∧ (sepB k).size ≤ 5 := by
  unfold sepB
  split
  · decide
  · split
    · decide
    · split
      · decide
      · split <;> decide
theorem sep_get (k : Nat) (hk : k < 5) : sepV[k]? = some (.string (sepB k)) := by
  rcases (show k = 0 ∨ k = 1 ∨ k = 2 ∨ k = 3 ∨ k = 4 by omega) with rfl | rfl | rfl | rfl | rfl <;> rfl
theorem build_sep (w : World) : (Instr.buildSlice 36 5 #[(0, .string ⟨#[32]⟩), (1, .string ⟨#[44, 32]⟩), (2, .string ⟨#[59, 32]⟩), (3, .string ⟨#[9]⟩), (4, .string ⟨#[32, 97, 110, 100, 32]⟩)]).run Tryz.prog w = .ok (.slice (some ⟨w.heap.size, 0, none⟩) 5 5) (w.alloc (.cells sepV 9)) := by
  obtain ⟨i0, hi, hz0, hz1, _⟩ := info_parts (show (Tryz.prog.info? 9).map (fun i => (i.zero, i.size, i.bytes)) = some (some (.string ⟨#[]⟩), 1, 16) by kernel_rfl)
  refine run_buildSlice w 36 9 5 _ sepV i0 (.string ⟨#[]⟩) Tryz.underlying36 hi hz0 (by rw [hz1]; decide) (by rw [hz1]; decide) ?_
  rw [hz1]
  kernel_rfl
theorem bel_row {b : Nat} {w V Y : World} (h : Below b w V) (k : Onb b V.heap.size V Y) (hs : w.heap.size = b) : Below b w Y := by
  have hz := h.size
  exact ⟨k.os.trans h.os, k.tape.trans h.tape, k.output.trans h.output, Nat.le_trans h.size k.size, fun j hj => (k.block j (by omega) (by omega)).trans (h.block j hj)⟩
theorem bel_two {b c : Nat} {w x y : World} (h : Below b w x) (k : Below c x y) (hb : b ≤ c) : Below b w y :=
  ⟨k.os.trans h.os, k.tape.trans h.tape, k.output.trans h.output, Nat.le_trans h.size k.size, fun j hj => (k.block j (by omega)).trans (h.block j hj)⟩
theorem bl_b (S : ByteArray) : ∀ x ∈ Sums.bl S, x < 256 := fun x hx => by
  unfold Sums.bl at hx
  obtain ⟨u, _, rfl⟩ := List.mem_map.1 hx
  exact u.toNat_lt
theorem nums_bl14 (S : ByteArray) : nums (Sums.bl S) = S := Sums.bl_inj (bl_nums _ (bl_b S))
theorem md_next {w0 X Y : World} {v v' : Value} {fs : List Fd} {a c T : ByteArray} {qd : Bool} (h : MdK w0 v fs X) (h2 : Y.ownsRow w0.heap.size 29 2 v' (fs.length + 1) (prV (pairL fs) ++ [.string c, .string T])) (h3 : X.grownBy Y v.ownBlock) : MdK w0 v' (fs ++ [(Sums.bl a, Sums.bl c, qd, Sums.bl T)]) Y := by
  refine ⟨h.bel.grown h3 h.bel.size (fun k e => (h.own.lt k e).1), ?_⟩
  have e : prV (pairL (fs ++ [(Sums.bl a, Sums.bl c, qd, Sums.bl T)])) = prV (pairL fs) ++ [.string c, .string T] := by
    unfold pairL prV
    simp [nums_bl14]
  rw [e, List.length_append]
  exact h2
theorem md_flat {B B2 : ByteArray} {fs : List Fd} {i : Nat} {sp m v : List Nat} {qd : Bool}
    (h : fs.length = i ∧ Sums.bl B = 62 :: flatL fs ∧ (∀ f ∈ fs, okFd f ∧ (∀ x ∈ f.2.1, x < 256) ∧ (∀ x ∈ f.2.2.2, x < 256) ∧ f.2.2.2.length ≤ 8192))
    (hs : sp ∈ sepL) (hm : nameF m = true ∧ ∀ x ∈ m, x < 256) (hv : v.length ≤ 8192) (hq : qd = false → barF v = true) (hvb : ∀ x ∈ v, x < 256)
    (hB : Sums.bl B2 = (Sums.bl B ++ (sp ++ (m ++ [61]))) ++ valL qd v) :
    (fs ++ [(sp, m, qd, v)]).length = i + 1 ∧ Sums.bl B2 = 62 :: flatL (fs ++ [(sp, m, qd, v)]) ∧ (∀ f ∈ fs ++ [(sp, m, qd, v)], okFd f ∧ (∀ x ∈ f.2.1, x < 256) ∧ (∀ x ∈ f.2.2.2, x < 256) ∧ f.2.2.2.length ≤ 8192) := by
  refine ⟨by rw [List.length_append, h.1]; rfl, ?_, ?_⟩
  · rw [hB, h.2.1]
    unfold flatL oneL
    simp
  · intro f hf
    rcases List.mem_append.1 hf with e | e
    · exact h.2.2 f e
    · rw [List.mem_singleton.1 e]
      exact ⟨⟨hs, hm.1, hq⟩, hm.2, hvb, hv⟩
theorem gt_first {L : List (List Nat × List Nat)} {f : Nat} {y : List Nat × List Nat} {k : List Nat} (hy : L[f]? = some y) (hk : y.1 = k) (hno : ∀ l, l < f → ∀ z, L[l]? = some z → z.1 ≠ k) : gtF L k = (y.2, true) := by
  have hf := (List.getElem?_eq_some_iff.1 hy).1
  have e : L = L.take f ++ y :: L.drop (f + 1) := by
    have h := (List.getElem?_eq_some_iff.1 hy).2
    rw [← h, ← List.drop_eq_getElem_cons hf, List.take_append_drop]
  rw [e]
  refine gt_some k y hk _ _ (fun z hz => ?_)
  obtain ⟨l, hl⟩ := List.getElem?_of_mem hz
  have hlf : l < f := by
    rcases Nat.lt_or_ge l f with h | h
    · exact h
    · rw [List.getElem?_take_eq_none h] at hl; cases hl
  rw [List.getElem?_take, if_pos hlf] at hl
  exact hno l hlf z hl
set_option maxRecDepth 100000 in
set_option maxHeartbeats 16000000 in
theorem fieldsMade_in (p q : Option Addr) (n cap m cap2 : Nat) (A U : Nat → ByteArray) (Z : Nat → Int) (w : World)
    (hn : n ≤ 140737488351232) (hm : m ≤ 140737488351232)
    (hA : ∀ i, i < n → (A i).size ≤ 140737488351232 ∧ (U i).size ≤ 140737488351232)
    (hc : ∀ i, i < n → ∃ g off, p = some ⟨g, off, none⟩ ∧ g < w.heap.size ∧ w.cell? ⟨g, off + i * 2, none⟩ = some (.string (A i)) ∧ w.cell? ⟨g, off + i * 2 + 1, none⟩ = some (.string (U i)))
    (hz : ∀ i, i < m → -9223372036854775808 ≤ Z i ∧ Z i ≤ 9223372036854775807)
    (hd : ∀ i, i < m → ∃ g off, q = some ⟨g, off, none⟩ ∧ g < w.heap.size ∧ w.cell? ⟨g, off + i, none⟩ = some (.int .i64 (Z i)))
    (hw : RwT w) (hp : Pow w) :
    Calls Tryz.prog 4 #[.slice p n cap, .slice q m cap2] w fun e w' => e = .returned (.bool true) ∧ Below w.heap.size w w' := by
  have HEX := Hid.mk' (examples_any w hw hp)
  have HPW : Hid (∀ X, Below w.heap.size w X → Pow X ∧ RwT X) := Hid.mk' (fun X hX => ⟨hp.below hX hp.size, hw.below hX hw.lt⟩)
  have HA := Hid.mk' hA
  have HZ := Hid.mk' hz
  have HCA : Hid (∀ X, Below w.heap.size w X → ∀ i, i < n → ∃ g off, p = some ⟨g, off, none⟩ ∧ g < w.heap.size ∧ X.cell? ⟨g, off + i * 2, none⟩ = some (.string (A i)) ∧ X.cell? ⟨g, off + i * 2 + 1, none⟩ = some (.string (U i))) := Hid.mk' (fun X hX i hi => by
    obtain ⟨g, off, h1, h2, h3, h4⟩ := hc i hi
    exact ⟨g, off, h1, h2, (hX.cell (p := ⟨g, off + i * 2, none⟩) h2).trans h3, (hX.cell (p := ⟨g, off + i * 2 + 1, none⟩) h2).trans h4⟩)
  have HCZ : Hid (∀ X, Below w.heap.size w X → ∀ i, i < m → ∃ g off, q = some ⟨g, off, none⟩ ∧ X.cell? ⟨g, off + i, none⟩ = some (.int .i64 (Z i))) := Hid.mk' (fun X hX i hi => by
    obtain ⟨g, off, h1, h2, h3⟩ := hd i hi
    exact ⟨g, off, h1, (hX.cell (p := ⟨g, off + i, none⟩) h2).trans h3⟩)
  have hnI : (n : Int) ≤ 140737488351232 := by omega
  have hmI : (m : Int) ≤ 140737488351232 := by omega
  clear hw hp hA hc hz hd
  go_enter Tryz.func4, Tryz.ntmps4
  go_wp2_with fail
  refine HEX.out.mono ?_
  rintro e w1 ⟨rfl, hb1⟩
  have HB1 := Hid.mk' hb1
  clear hb1 HEX
  go_wp2_with fail
  go_loopw [6, 7, 8, 9, 10, 11] (fun lv vv iv xv sv pv wr => ∃ (i : Nat) (B : ByteArray) (fs : List Fd), lv = .string B ∧ iv = .int .i64 (i : Int) ∧ i ≤ n ∧ i ≤ 40 ∧ B.size ≤ 1 + i * 16500 ∧ Hid (fs.length = i ∧ Sums.bl B = 62 :: flatL fs ∧ (∀ f ∈ fs, okFd f ∧ (∀ x ∈ f.2.1, x < 256) ∧ (∀ x ∈ f.2.2.2, x < 256) ∧ f.2.2.2.length ≤ 8192)) ∧ Hid (MdK w vv fs wr)) (fun lv vv iv xv sv pv _ => n - (intOf iv).toNat)
  case atStart =>
    exact ⟨0, ⟨#[62]⟩, [], rfl, rfl, by omega, by omega, by decide, Hid.mk' ⟨rfl, rfl, fun f hf => by cases hf⟩, Hid.mk' ⟨HB1.out, World.ownsRow_nil _ _ _ _⟩⟩
  case round =>
    obtain ⟨i, B, fs, rfl, rfl, hi, hi40, hBs, HF, HK⟩ := hrel
    rename World => wr
    by_cases hgo : i < n ∧ i < 40
    · obtain ⟨hlt, h40⟩ := hgo
      have g1 : decide ((i : Int) < (n : Int)) = true := decide_eq_true (by omega)
      have g2 : decide ((i : Int) < 40) = true := decide_eq_true (by omega)
      have hiI : (i : Int) < (n : Int) := by omega
      obtain ⟨g, off, rfl, hgw, -, -⟩ := HCA.out w (Below.refl _ _) i hlt
      have HCI : Hid (∀ X, Below w.heap.size w X → X.cell? ⟨g, off + i * 2, none⟩ = some (.string (A i)) ∧ X.cell? ⟨g, off + i * 2 + 1, none⟩ = some (.string (U i))) := Hid.mk' (fun X hX => by
        obtain ⟨g', off', h1, _, h3, h4⟩ := HCA.out X hX i hlt
        cases h1
        exact ⟨h3, h4⟩)
      obtain ⟨hAs, hUs⟩ := HA.out i hlt
      generalize A i = SA at HCI hAs
      generalize U i = SU at HCI hUs
      obtain ⟨N, hN⟩ : ∃ N, nums (nmX (Sums.bl SA)) = N := ⟨_, rfl⟩
      have HNM := Hid.mk' (fun X => mdName_any SA X hAs)
      rw [hN] at HNM
      have HNN : Hid (Sums.bl N = nmX (Sums.bl SA)) := Hid.mk' (by rw [← hN, bl_nums _ (nmX_ok _).2])
      have hNs : N.size ≤ 64 := by rw [← Sums.bl_length, HNN.out]; exact (name_rows _ (nmX_ok _).1).2.2
      clear hN
      obtain ⟨b, hb⟩ : ∃ b, wr.heap.size = b := ⟨_, rfl⟩
      have HBW : Hid (Below b wr wr) := Hid.mk' (by rw [← hb]; exact Below.refl _ _)
      have HBS : Hid (wr.heap.size = b) := Hid.mk' hb
      have HWV : Hid (∀ V, Below b wr V → Below w.heap.size w V) := Hid.mk' (fun V hV => bel_up HK.out.bel (by rw [hb]; exact hV))
      clear hb
      go_upto_region 7 with fail
      go_cut [9] (fun v wc => v = .pointer (some ⟨b, 0, none⟩) ∧ Hid (wc.heap[b]? = some (.cells #[.string N, .string SU] 29 (0, 0)) ∧ Below b wr wc))
      case first =>
        refine (wpIn_wide (n := 6)).1 ?_
        refine region_all (by kernel_rfl) (fun kz => (#[.slice (some ⟨g, off, none⟩) n cap, .int .i64 (i : Int), .pointer (some ⟨g, off + i * 2, none⟩), .pointer (some ⟨g, off + i * 2, none⟩), .string SA, .string N, .slice (some ⟨g, off, none⟩) n cap, .int .i64 (i : Int), .pointer (some ⟨g, off + i * 2, none⟩), .pointer (some ⟨g, off + i * 2 + 1, none⟩), .string SU, .agg #[.string N, .string SU], .pointer (some ⟨b, 0, none⟩), undef] : Array Value).getD kz undef) (fun u => { tmps := #[.slice (some ⟨g, off, none⟩) n cap, .slice q m cap2, undef, undef, .bool false, .bool true, .string B, u7, .int .i64 (i : Int), u 12, u10, u11, undef, undef, undef, undef, undef, undef, undef, .bool true, .int .i64 (i : Int), .slice (some ⟨g, off, none⟩) n cap, .int .i64 (n : Int), .bool true, .bool true, .int .i64 (i : Int), .bool true, .bool true, u28, u29, u 0, u 1, u 2, u 3, u 4, u 5, u 6, u 7, u 8, u 9, u 10, u 11, u42, u43, u44, u45, u46, u47, u48, u49, u50, u51, u52, u53, u54, u55, u56, u57, u58, u59, u60, u61, u62, u63, u64, u65, u66, u67, u68, u69, u70, u71, u72, u73, u74, u75, u76, u77, u78, u79, u80, u81, u82, u83, u84, u85, u86, u87, u88, u89, u90, u91, undef, undef, undef, undef, undef, undef, undef, undef, undef, undef, undef, undef, undef, undef, undef, undef, undef, undef, undef, undef, undef, undef, undef, undef, undef, undef, undef, undef, undef, undef, undef, undef, undef, undef, undef, undef, undef, undef, undef, undef, undef, undef, undef, undef, undef, undef, undef, undef, undef, undef, undef, undef, undef, undef, undef, undef, undef, undef, undef, undef, undef, undef, undef, undef, undef], defers := [] }) (fun kz => (#[u30, u31, u32, u33, u34, u35, u36, u37, u38, u39, u40, u41, u9, undef] : Array Value).getD kz undef) _ (fun L' V => Below b wr V ∧ (L' 13 = true → L' 12 = true) ∧ (L' 12 = false → V.heap.size = b) ∧ (L' 12 = true → V.heap[b]? = some (.cells (if L' 13 = true then #[.string N, .string SU] else #[.string ⟨#[]⟩, .string ⟨#[]⟩]) 29 (0, 0)))) (fun L' hL => ⟨HBW.out.drewN' 1, fun h => (by rw [hL 13] at h; cases h), fun _ => HBS.out, fun h => (by rw [hL 12] at h; cases h)⟩) (deps_of' (by kernel_rfl)) ?_ ?_ ?_
        · intro f1 f2 hfg
          simp only [hfg 0 (by decide), hfg 1 (by decide), hfg 2 (by decide), hfg 3 (by decide), hfg 4 (by decide), hfg 5 (by decide), hfg 6 (by decide), hfg 7 (by decide), hfg 8 (by decide), hfg 9 (by decide), hfg 10 (by decide), hfg 11 (by decide), hfg 12 (by decide)]
        · intro L' V hS i0 hi0 hL o ho hdone u hdeps hold hcl KK hKK
          have hlt : i0 < 14 := hi0
          obtain ⟨hbl, h1312, hsz, hrow⟩ := hS
          have hnx : i0 ≠ 12 → i0 ≠ 13 → ∀ L2 : Nat → Bool, (∀ k, L2 k = if k = i0 then true else L' k) → Below b wr V ∧ (L2 13 = true → L2 12 = true) ∧ (L2 12 = false → V.heap.size = b) ∧ (L2 12 = true → V.heap[b]? = some (.cells (if L2 13 = true then #[.string N, .string SU] else #[.string ⟨#[]⟩, .string ⟨#[]⟩]) 29 (0, 0))) := fun h12 h13 L2 h2 => by rw [h2 12, h2 13, if_neg (Ne.symm h12), if_neg (Ne.symm h13)]; exact ⟨hbl, h1312, hsz, hrow⟩
          have hci := HCI.out V (HWV.out V hbl)
          obtain ⟨ca, cu⟩ := hci
          rcases (show i0 = 0 ∨ i0 = 1 ∨ i0 = 2 ∨ i0 = 3 ∨ i0 = 4 ∨ i0 = 5 ∨ i0 = 6 ∨ i0 = 7 ∨ i0 = 8 ∨ i0 = 9 ∨ i0 = 10 ∨ i0 = 11 ∨ i0 = 12 ∨ i0 = 13 by omega) with rfl | rfl | rfl | rfl | rfl | rfl | rfl | rfl | rfl | rfl | rfl | rfl | rfl | rfl
          case inr.inr.inr.inr.inr.inl =>
            simp at ho; subst ho; simp [Region.binds] at hdeps
            simp [wpOpIn, Region.wanted, yielded, Oper.wpIn, Oper.semAt_eq, execOp, Oper.uponIn, go_sem, hdeps]
            refine ⟨trivial, ?_⟩
            refine CallsIn.mono (callsIn_wide.2 (HNM.out V)) ?_
            rintro e V2 ⟨rfl, rfl⟩
            have hKX := hKK V2 (hnx (by decide) (by decide))
            first | exact hKX | (simp [upd, hdeps] at hKX ⊢; exact hKX)
          case inr.inr.inr.inr.inr.inr.inr.inr.inr.inr.inr.inr.inl =>
            have h13 : L' 13 = false := by cases h : L' 13 with | false => rfl | true => rw [h1312 h] at hL; cases hL
            have hs := hsz hL
            have hKX := hKK (V.alloc (.cells #[.string ⟨#[]⟩, .string ⟨#[]⟩] 29)) (fun L2 h2 => ⟨hbl.alloc (by omega) _, fun _ => (by rw [h2 12]; rfl), fun h => (by rw [h2 12] at h; cases h), fun _ => (by rw [show L2 13 = false by rw [h2 13]; simpa using h13]; rw [← hs]; simpa using heap_alloc_new V (.cells #[.string ⟨#[]⟩, .string ⟨#[]⟩] 29))⟩)
            simp at ho; subst ho; simp [Region.binds] at hdeps
            simp [wpOpIn, Region.wanted, yielded, Oper.wpIn, Oper.semAt_eq, execOp, Oper.uponIn, go_sem, hdeps, hs]
            first | exact hKX | (simp [upd, hdeps] at hKX; exact hKX) | (simp [upd, hdeps] at hKX ⊢; exact hKX)
          case inr.inr.inr.inr.inr.inr.inr.inr.inr.inr.inr.inr.inr =>
            simp at ho; subst ho; simp [Region.binds] at hdeps
            simp [Region.binds] at hdone; have h12 : L' 12 = true := by simp [hdone]
            have hr := hrow h12
            rw [hL, if_neg (by decide)] at hr
            have k0 : V.cell? ⟨b, 0, none⟩ = some (.string ⟨#[]⟩) := by simp [World.cell?, hr]
            have k1 : V.cell? ⟨b, 1, none⟩ = some (.string ⟨#[]⟩) := by simp [World.cell?, hr]
            have k2 : V.frozen? ⟨b, 0, none⟩ = false := by simp [World.frozen?, hr]
            have k3 : V.frozen? ⟨b, 1, none⟩ = false := by simp [World.frozen?, hr]
            obtain ⟨hb2, hr2⟩ := set_pair V b N SU hr
            have hKX := hKK ((V.setCell ⟨b, 0, none⟩ (.string N)).setCell ⟨b, 1, none⟩ (.string SU)) (fun L2 h2 => ⟨bel_row hbl hb2 HBS.out, fun _ => (by rw [h2 12]; simpa using h12), fun h => (by rw [h2 12] at h; simp [h12] at h), fun _ => (by rw [show L2 13 = true by rw [h2 13]; simp]; simpa using hr2)⟩)
            simp [wpOpIn, Region.wanted, yielded, Oper.wpIn, Oper.semAt_eq, execOp, Oper.uponIn, go_sem, hdeps, k0, k1, k2, k3]
            first | exact hKX | (simp [upd, hdeps] at hKX; exact hKX) | (simp [upd, hdeps] at hKX ⊢; exact hKX)
          all_goals (have hKX := hKK V (hnx (by omega) (by omega)); simp at ho; subst ho; simp [Region.binds] at hdeps; simp [wpOpIn, Region.wanted, yielded, Oper.wpIn, Oper.semAt_eq, execOp, Oper.uponIn, go_sem, hdeps, ca, cu, hiI, hlt]; first | exact hKX | (simp [upd, hdeps] at hKX; exact hKX) | (simp [upd, hdeps] at hKX; exact ⟨trivial, hKX⟩) | (simp [upd, hdeps] at hKX ⊢; exact hKX))
        · intro L' V hall hS
          obtain ⟨hbl, -, -, hrow⟩ := hS
          have hr := hrow (hall 12 (by decide))
          rw [hall 13 (by decide), if_pos rfl] at hr
          have HRB := Hid.mk' (And.intro hr hbl)
          clear hbl hrow hr hall
          dsimp only
          go_wp2_with fail
          go_meet
          exact ⟨rfl, HRB⟩
      case rest =>
        obtain ⟨rfl, hc⟩ := hcut
        have HRB := Hid.mk' hc.out
        rename World => w3
        clear hc
        have c0 : w3.cell? ⟨b, 0, none⟩ = some (.string N) := by simp [World.cell?, HRB.out.1]
        have c1 : w3.cell? ⟨b, 1, none⟩ = some (.string SU) := by simp [World.cell?, HRB.out.1]
        have f1 : w3.frozen? ⟨b, 1, none⟩ = false := by simp [World.frozen?, HRB.out.1]
        obtain ⟨T, hT⟩ : ∃ T, (if 8192 < SU.size then SU.extract 0 8192 else SU) = T := ⟨_, rfl⟩
        have hTs : T.size ≤ 8192 := by
          rw [← hT]
          split
          · rw [ByteArray.size_extract]; omega
          · omega
        have HTT := Hid.mk' hT
        clear hT
        go_upto_if 45 with fail
        go_cut [] (fun wc => Hid (wc.heap[b]? = some (.cells #[.string N, .string T] 29 (0, 0)) ∧ Below b wr wc))
        case first =>
          by_cases hbig : 8192 < SU.size
          · have hbI : (8192 : Int) < (SU.size : Int) := by omega
            have hT := HTT.out
            rw [if_pos hbig] at hT
            have hsl : ∀ W, (Instr.slice 9 (.string SU) none (some (.int .i64 8192)) none).run Tryz.prog W = .ok (.string T) W := fun W => by rw [← hT]; exact sl_to SU 8192 W (by omega)
            have HST := Hid.mk' (set_two w3 b T HRB.out.1)
            clear hT
            go_wp2_with fail
            go_meet
            exact ⟨HST.out.2, bel_row HRB.out.2 HST.out.1 HBS.out⟩
          · have hT := HTT.out
            rw [if_neg hbig] at hT
            have hbI : (SU.size : Int) ≤ 8192 := by omega
            subst hT
            go_wp2_with fail
            go_meet
            exact HRB
        case rest =>
          have HC := Hid.mk' hcut.out
          rename World => w5
          clear hcut HRB c0 c1 f1
          go_upto_if 53 with fail
          go_cut [10] (fun v wc => ∃ z : Int, v = .int .i64 z ∧ -9223372036854775808 ≤ z ∧ z ≤ 9223372036854775807 ∧ Hid (wc.heap[b]? = some (.cells #[.string N, .string T] 29 (0, 0)) ∧ Below b wr wc))
          case first =>
            by_cases him : i < m
            · have himI : (i : Int) < (m : Int) := by omega
              obtain ⟨g2, o2, rfl, hcz⟩ := HCZ.out w5 (HWV.out w5 HC.out.2) i him
              obtain ⟨hz1, hz2⟩ := HZ.out i him
              generalize Z i = z at hcz hz1 hz2
              go_wp2_with fail
              go_meet
              exact ⟨z, rfl, hz1, hz2, HC⟩
            · have himI : ¬ (i : Int) < (m : Int) := by omega
              go_wp2_with fail
              go_meet
              exact ⟨0, rfl, by decide, by decide, HC⟩
          case rest =>
            obtain ⟨z, rfl, hz1, hz2, hc⟩ := hcut
            have HC2 := Hid.mk' hc.out
            rename World => w4
            clear hc HC
            obtain ⟨k, hk⟩ : ∃ k, pkF z 5 = k := ⟨_, rfl⟩
            have hk5 : k < 5 := by rw [← hk]; unfold pkF; exact Nat.mod_lt _ (by decide)
            have hkI : (k : Int) < 5 := by omega
            have HPK : Hid (∀ X, Calls Tryz.prog 12 #[.int .i64 z, .int .i64 5] X fun e w' => e = .returned (.int .i64 (k : Int)) ∧ w' = X) := Hid.mk' (fun X => by rw [← hk]; exact pickX z 5 X hz1 hz2 (by decide) (by decide))
            obtain ⟨b2, hb2⟩ : ∃ b2, w4.heap.size = b2 := ⟨_, rfl⟩
            have HB2S : Hid (w4.heap.size = b2) := Hid.mk' hb2
            have HB2 : Hid (Below b2 w4 w4) := Hid.mk' (by rw [← hb2]; exact Below.refl _ _)
            have hbb : b < b2 := by rw [← hb2]; exact (Array.getElem?_eq_some_iff.1 HC2.out.1).1
            have HN0 : Hid (∀ V, Below b2 w4 V → V.heap[b]? = some (.cells #[.string N, .string T] 29 (0, 0))) := Hid.mk' (fun V hV => (hV.block b hbb).trans HC2.out.1)
            obtain ⟨SP, hSP⟩ : ∃ SP, sepB k = SP := ⟨_, rfl⟩
            have hSPs : SP.size ≤ 5 := by rw [← hSP]; exact (sep_mem k).2
            have HSM : Hid (Sums.bl SP ∈ sepL) := Hid.mk' (by rw [← hSP]; exact (sep_mem k).1)
            have HSG : Hid (sepV[k]? = some (.string SP)) := Hid.mk' (by rw [← hSP]; exact sep_get k hk5)
            have hBb : B.size ≤ 660001 := by omega
            have q1 : ¬ 9223372036854775807 < B.size + SP.size := by omega
            have q2 : ¬ 9223372036854775807 < B.size + SP.size + N.size := by omega
            have q3 : ¬ 9223372036854775807 < B.size + SP.size + N.size + 1 := by omega
            clear hk hb2 hSP
            go_upto_region 13 with fail
            go_cut [6] (fun v wc => v = .string (B ++ SP ++ N ++ ⟨#[61]⟩) ∧ Hid (wc.heap[b]? = some (.cells #[.string N, .string T] 29 (0, 0)) ∧ Below b wr wc))
            case first =>
              refine (wpIn_wide (n := 6)).1 ?_
              refine region_all (by kernel_rfl) (fun kz => (#[.string B, .slice (some ⟨b2, 0, none⟩) 5 5, .int .i64 z, .int .i64 (k : Int), .pointer (some ⟨b2, k, none⟩), .string SP, .string (B ++ SP), .pointer (some ⟨b, 0, none⟩), .string N, .string (B ++ SP ++ N), .string (B ++ SP ++ N ++ ⟨#[61]⟩), .string (B ++ SP ++ N ++ ⟨#[61]⟩)] : Array Value).getD kz undef) (fun u => { tmps := #[.slice (some ⟨g, off, none⟩) n cap, .slice q m cap2, undef, undef, .bool false, .bool true, u 11, u7, .int .i64 (i : Int), .pointer (some ⟨b, 0, none⟩), .int .i64 z, u11, undef, undef, undef, undef, undef, undef, undef, .bool true, u20, u21, u22, u23, u24, u25, u26, u27, u28, u29, u30, u31, u32, u33, u34, u35, u36, u37, u38, u39, u40, u41, u42, u43, u44, u45, u46, u47, u48, u49, u50, u51, u52, u53, u54, u55, u56, u57, u 0, u 1, u 2, u 3, u 4, u 5, u 6, u 7, u 8, u 9, u 10, u69, u70, u71, u72, u73, u74, u75, u76, u77, u78, u79, u80, u81, u82, u83, u84, u85, u86, u87, u88, u89, u90, u91, undef, undef, undef, undef, undef, undef, undef, undef, undef, undef, undef, undef, undef, undef, undef, undef, undef, undef, undef, undef, undef, undef, undef, undef, undef, undef, undef, undef, undef, undef, undef, undef, undef, undef, undef, undef, undef, undef, undef, undef, undef, undef, undef, undef, undef, undef, undef, undef, undef, undef, undef, undef, undef, undef, undef, undef, undef, undef, undef, undef, undef, undef, undef, undef, undef], defers := [] }) (fun kz => (#[u58, u59, u60, u61, u62, u63, u64, u65, u66, u67, u68, .string B] : Array Value).getD kz undef) _ (fun L' V => Below b2 w4 V ∧ (L' 1 = false → V.heap.size = b2) ∧ (L' 1 = true → V.heap[b2]? = some (.cells sepV 9 (0, 0))) ∧ (L' 4 = true → L' 1 = true)) (fun L' hL => ⟨HB2.out.drewN' 1, fun _ => HB2S.out, fun h => (by rw [hL 1] at h; cases h), fun h => (by rw [hL 4] at h; cases h)⟩) (deps_of' (by kernel_rfl)) ?_ ?_ ?_
              · intro f1 f2 hfg
                simp only [hfg 0 (by decide), hfg 1 (by decide), hfg 2 (by decide), hfg 3 (by decide), hfg 4 (by decide), hfg 5 (by decide), hfg 6 (by decide), hfg 7 (by decide), hfg 8 (by decide), hfg 9 (by decide), hfg 10 (by decide), hfg 11 (by decide)]
              · intro L' V hS i0 hi0 hL o ho hdone u hdeps hold hcl KK hKK
                have hlt : i0 < 12 := hi0
                obtain ⟨hbl, hsz, hrow, h41⟩ := hS
                have hnx : i0 ≠ 1 → i0 ≠ 4 → ∀ L2 : Nat → Bool, (∀ k, L2 k = if k = i0 then true else L' k) → Below b2 w4 V ∧ (L2 1 = false → V.heap.size = b2) ∧ (L2 1 = true → V.heap[b2]? = some (.cells sepV 9 (0, 0))) ∧ (L2 4 = true → L2 1 = true) := fun h1 h4 L2 h2 => by rw [h2 1, h2 4, if_neg (Ne.symm h1), if_neg (Ne.symm h4)]; exact ⟨hbl, hsz, hrow, h41⟩
                have hn0 := HN0.out V hbl
                have ca : V.cell? ⟨b, 0, none⟩ = some (.string N) := by simp [World.cell?, hn0]
                rcases (show i0 = 0 ∨ i0 = 1 ∨ i0 = 2 ∨ i0 = 3 ∨ i0 = 4 ∨ i0 = 5 ∨ i0 = 6 ∨ i0 = 7 ∨ i0 = 8 ∨ i0 = 9 ∨ i0 = 10 ∨ i0 = 11 by omega) with rfl | rfl | rfl | rfl | rfl | rfl | rfl | rfl | rfl | rfl | rfl | rfl
                case inl =>
                  have h11 : L' 11 = false := by cases h : L' 11 with | false => rfl | true => rw [hcl 6 0 (by kernel_rfl) (hcl 9 6 (by kernel_rfl) (hcl 10 9 (by kernel_rfl) (hcl 11 10 (by kernel_rfl) h)))] at hL; cases hL
                  have h6 : u 11 = .string B := hold 11 h11
                  have hKX := hKK V (hnx (by decide) (by decide))
                  simp at ho; subst ho; simp [Region.binds] at hdeps
                  simp [wpOpIn, Region.wanted, yielded, Oper.wpIn, Oper.semAt_eq, execOp, Oper.uponIn, go_sem, hdeps, h6]
                  first | exact hKX | (simp [upd, hdeps, h6] at hKX; exact hKX) | (simp [upd, hdeps, h6] at hKX ⊢; exact hKX)
                case inr.inl =>
                  have hs := hsz hL
                  have hKX := hKK (V.alloc (.cells sepV 9)) (fun L2 h2 => ⟨hbl.alloc (by omega) _, fun h => (by rw [h2 1] at h; cases h), fun _ => (by rw [← hs]; exact heap_alloc_new V _), fun _ => (by rw [h2 1]; rfl)⟩)
                  have hbz := build_sep V
                  simp at ho; subst ho; simp [Region.binds] at hdeps
                  simp [wpOpIn, Region.wanted, yielded, Oper.wpIn, Oper.semAt_eq, execOp, Oper.uponIn, go_sem, hdeps, hbz, hs]
                  first | exact hKX | (simp [upd, hdeps] at hKX; exact hKX) | (simp [upd, hdeps] at hKX ⊢; exact hKX)
                case inr.inr.inr.inl =>
                  simp at ho; subst ho; simp [Region.binds] at hdeps
                  simp [wpOpIn, Region.wanted, yielded, Oper.wpIn, Oper.semAt_eq, execOp, Oper.uponIn, go_sem, hdeps]
                  refine ⟨trivial, ?_⟩
                  refine CallsIn.mono (callsIn_wide.2 (HPK.out V)) ?_
                  rintro e V2 ⟨rfl, rfl⟩
                  have hKX := hKK V2 (hnx (by decide) (by decide))
                  first | exact hKX | (simp [upd, hdeps] at hKX ⊢; exact hKX)
                case inr.inr.inr.inr.inl =>
                  simp at ho; subst ho; simp [Region.binds] at hdeps
                  simp [Region.binds] at hdone; have h1 : L' 1 = true := by simp [hdone]
                  have hKX := hKK V (fun L2 h2 => (by rw [h2 1, if_neg (by decide)]; exact ⟨hbl, hsz, hrow, fun _ => h1⟩))
                  simp [wpOpIn, Region.wanted, yielded, Oper.wpIn, Oper.semAt_eq, execOp, Oper.uponIn, go_sem, hdeps, hkI, hk5]
                  first | exact hKX | (simp [upd, hdeps] at hKX; exact hKX) | (simp [upd, hdeps] at hKX ⊢; exact hKX)
                case inr.inr.inr.inr.inr.inl =>
                  simp at ho; subst ho; simp [Region.binds] at hdeps
                  simp [Region.binds] at hdone; have h4 : L' 4 = true := by simp [hdone]
                  have hr := hrow (h41 h4)
                  have cs : V.cell? ⟨b2, k, none⟩ = some (.string SP) := by simp only [World.cell?, hr]; exact HSG.out
                  have hKX := hKK V (hnx (by decide) (by decide))
                  simp [wpOpIn, Region.wanted, yielded, Oper.wpIn, Oper.semAt_eq, execOp, Oper.uponIn, go_sem, hdeps, cs]
                  first | exact hKX | (simp [upd, hdeps] at hKX; exact hKX) | (simp [upd, hdeps] at hKX ⊢; exact hKX)
                all_goals (have hKX := hKK V (hnx (by omega) (by omega)); simp at ho; subst ho; simp [Region.binds] at hdeps; simp [wpOpIn, Region.wanted, yielded, Oper.wpIn, Oper.semAt_eq, execOp, Oper.uponIn, go_sem, hdeps, ca, hkI, q1, q2, q3, hlt]; first | exact hKX | (simp [upd, hdeps] at hKX; exact hKX) | (simp [upd, hdeps] at hKX; exact ⟨trivial, hKX⟩) | (simp [upd, hdeps] at hKX ⊢; exact hKX))
              · intro L' V hall hS
                obtain ⟨hbl, -, -, -⟩ := hS
                have HM := Hid.mk' (And.intro (HN0.out V hbl) (bel_two HC2.out.2 hbl (by omega)))
                clear hbl hall
                dsimp only
                go_wp2_with fail
                go_meet
                exact ⟨rfl, HM⟩
            case rest =>
              obtain ⟨rfl, hc⟩ := hcut
              have HM := Hid.mk' hc.out
              rename World => w6
              clear hc HC2 HPK HB2 HB2S HN0 HSG hbb hk5 hkI
              have c0 : w6.cell? ⟨b, 0, none⟩ = some (.string N) := by simp [World.cell?, HM.out.1]
              have c1 : w6.cell? ⟨b, 1, none⟩ = some (.string T) := by simp [World.cell?, HM.out.1]
              have HB1 : Hid (Sums.bl (B ++ SP ++ N ++ ⟨#[61]⟩) = Sums.bl B ++ (Sums.bl SP ++ (Sums.bl N ++ [61]))) := Hid.mk' (by rw [Sums.bl_append, Sums.bl_append, Sums.bl_append]; simp; rfl)
              have hB1s : (B ++ SP ++ N ++ ⟨#[61]⟩).size ≤ B.size + 70 := by rw [ByteArray.size_append, ByteArray.size_append, ByteArray.size_append]; show B.size + SP.size + N.size + 1 ≤ _; omega
              generalize B ++ SP ++ N ++ ⟨#[61]⟩ = B1 at HB1 hB1s ⊢
              clear q1 q2 q3
              have hB1b : B1.size ≤ 660071 := by omega
              obtain ⟨pl, hpl⟩ : ∃ pl, barF (Sums.bl T) = pl := ⟨_, rfl⟩
              have HBR := Hid.mk' (fun X => bare14_any T X (by omega))
              rw [hpl] at HBR
              have HPL := Hid.mk' hpl
              clear hpl
              have HQT := Hid.mk' (fun X => quoted14_any T X hTs)
              obtain ⟨D, hD⟩ : ∃ D, z.tdiv 5 = D := ⟨_, rfl⟩
              have hD1 : -9223372036854775808 ≤ D ∧ D ≤ 9223372036854775807 := by
                rw [← hD]
                by_cases h : 0 ≤ z
                · rw [Int.tdiv_eq_ediv_of_nonneg h]; omega
                · obtain ⟨y, hy⟩ : ∃ y : Nat, z = -(y : Int) := ⟨(-z).toNat, by omega⟩
                  rw [hy, Int.neg_tdiv, Int.tdiv_eq_ediv_of_nonneg (by omega)]; omega
              have hDw : IntKind.i64.wrap D = D := by rw [IntKind.wrap_i64]; omega
              obtain ⟨k2, hk2⟩ : ∃ k2, pkF D 2 = k2 := ⟨_, rfl⟩
              have HP2 : Hid (∀ X, Calls Tryz.prog 12 #[.int .i64 D, .int .i64 2] X fun e w' => e = .returned (.int .i64 (k2 : Int)) ∧ w' = X) := Hid.mk' (fun X => by rw [← hk2]; exact pickX D 2 X hD1.1 hD1.2 (by decide) (by decide))
              clear hk2
              go_wp2_with fail
              refine (HBR.out _).mono ?_
              rintro e w7 ⟨rfl, hw7⟩
              have hw7' := hw7.symm
              subst hw7'
              clear hw7 HBR
              go_upto_region 15 with fail
              go_cut [78] (fun v wc => ∃ pb : Bool, v = .bool pb ∧ (pb = true → pl = true) ∧ Hid (wc.heap[b]? = some (.cells #[.string N, .string T] 29 (0, 0)) ∧ Below b wr wc))
              case first =>
                cases pl
                · go_wp2_with fail
                  go_meet
                  exact ⟨false, rfl, fun h => h, HM⟩
                · go_wp2_with fail
                  refine (HP2.out _).mono ?_
                  rintro e w8 ⟨rfl, hw8⟩
                  have hw8' := hw8.symm
                  subst hw8'
                  clear hw8
                  go_wp2_with fail
                  go_meet
                  exact ⟨_, rfl, by simp, HM⟩
              case rest =>
                obtain ⟨pb, rfl, hpb, hc⟩ := hcut
                have HM2 := Hid.mk' hc.out
                have HPB := Hid.mk' hpb
                rename World => w8
                clear hc HM hpb HP2 hD c0 c1
                have c0 : w8.cell? ⟨b, 0, none⟩ = some (.string N) := by simp [World.cell?, HM2.out.1]
                have c1 : w8.cell? ⟨b, 1, none⟩ = some (.string T) := by simp [World.cell?, HM2.out.1]
                go_upto_if 78 with fail
                go_cut [6] (fun v wc => ∃ (qd : Bool) (B2 : ByteArray), v = .string B2 ∧ B2.size ≤ B1.size + 16386 ∧ Hid (Sums.bl B2 = Sums.bl B1 ++ valL qd (Sums.bl T) ∧ (qd = false → barF (Sums.bl T) = true)) ∧ Hid (wc.heap[b]? = some (.cells #[.string N, .string T] 29 (0, 0)) ∧ Below b wr wc))
                case first =>
                  cases pb
                  · go_wp2_with fail
                    refine (HQT.out _).mono ?_
                    rintro e w9 ⟨⟨R, hR, rfl⟩, hw9⟩
                    have hw9' := hw9.symm
                    subst hw9'
                    have hRs : R.size ≤ 16386 := by
                      rw [← Sums.bl_length, hR]
                      have := esc_len (Sums.bl T)
                      unfold valL
                      rw [if_pos rfl, List.length_cons, List.length_append]
                      rw [Sums.bl_length] at this
                      simp
                      omega
                    have HRR := Hid.mk' hR
                    clear hw9 hR
                    go_wp2_with fail
                    go_meet
                    exact ⟨true, B1 ++ R, rfl, by rw [ByteArray.size_append]; omega, Hid.mk' ⟨by rw [Sums.bl_append, HRR.out], fun h => by cases h⟩, HM2⟩
                  · go_wp2_with fail
                    go_meet
                    exact ⟨false, B1 ++ T, rfl, by rw [ByteArray.size_append]; omega, Hid.mk' ⟨by rw [Sums.bl_append]; rfl, fun _ => HPL.out.trans (HPB.out (by simp))⟩, HM2⟩
                case rest =>
                  obtain ⟨qd, B2, rfl, hB2s, hq, hc⟩ := hcut
                  have HM3 := Hid.mk' hc.out
                  have HQ := Hid.mk' hq.out
                  rename World => w9
                  clear hc hq HM2 HPB HQT c0 c1
                  have c0 : w9.cell? ⟨b, 0, none⟩ = some (.string N) := by simp [World.cell?, HM3.out.1]
                  have c1 : w9.cell? ⟨b, 1, none⟩ = some (.string T) := by simp [World.cell?, HM3.out.1]
                  have hbz := build_two N T w9
                  have HK9 : Hid (MdK w u7 fs w9) := Hid.mk' (HK.out.keep (by rw [HBS.out]; exact HM3.out.2))
                  have hfl : fs.length = i := HF.out.1
                  have HKA := Hid.mk' (HK9.out.keep ((Below.refl _ w9).alloc (Nat.le_refl _) (.cells #[.string N, .string T] 29)))
                  obtain ⟨v', X, a1, a2, a3⟩ := append_two (w9.alloc (.cells #[.string N, .string T] 29)) w.heap.size u7 fs.length (prV (pairL fs)) N T HKA.out.own w9.heap.size (heap_alloc_new w9 _) (by omega) HKA.out.bel.size 23
                  have HX : Hid (MdK w v' (fs ++ [(Sums.bl SP, Sums.bl N, qd, Sums.bl T)]) X) := Hid.mk' (md_next HKA.out a2 a3)
                  have hszX := HKA.out.bel.size
                  clear a2 a3 hfl
                  go_wp2_with (first | (at_builtin; refine Lib.wpList_append_run _ rfl _ _ _ _ rfl _ _ rfl rfl _ _ a1 ?_) | fail)
                  go_roundw
                  case rel => exact ⟨i + 1, B2, fs ++ [(Sums.bl SP, Sums.bl N, qd, Sums.bl T)], rfl, by go_num, by omega, by omega, by omega, Hid.mk' (md_flat HF.out HSM.out (by rw [HNN.out]; exact nmX_ok _) (by rw [Sums.bl_length]; exact hTs) HQ.out.2 (bl_b T) (by rw [HQ.out.1, HB1.out])), HX⟩
                  case measure => simp [intOf]; omega
    · by_cases hlt : i < n
      · have g1 : decide ((i : Int) < (n : Int)) = true := decide_eq_true (by omega)
        have hni : ¬ i < 40 := by omega
        have g2 : decide ((i : Int) < 40) = false := decide_eq_false (by omega)
        obtain ⟨hfl, hBl, hfs⟩ := HF.out
        have hlen : (pairL fs).length = i := by unfold pairL; rw [List.length_map, hfl]
        have hbx : ∀ x ∈ pairL fs, ((∀ z ∈ x.1, z < 256) ∧ ∀ z ∈ x.2, z < 256) ∧ x.1.length ≤ 64 ∧ x.2.length ≤ 8192 ∧ nameF x.1 = true := by
          intro x hx
          unfold pairL at hx
          obtain ⟨f, hf, rfl⟩ := List.mem_map.1 hx
          obtain ⟨h1, h2, h3, h4⟩ := hfs f hf
          exact ⟨⟨h2, h3⟩, (name_rows _ h1.2.1).2.2, h4, h1.2.1⟩
        have hLP : LineP B (pairL fs) := ⟨by omega, .inl ⟨by rw [hBl]; rfl, by rw [hBl]; exact (wk_line fs (fun f hf => (hfs f hf).1)).symm⟩⟩
        have hokb : OkB (pairL fs) := fun x hx => (hbx x hx).1
        have hown : wr.ownsRow w.heap.size 29 2 u7 (pairL fs).length (prV (pairL fs)) := by rw [hlen, ← hfl]; exact HK.out.own
        have hbw := HK.out.bel
        obtain ⟨hpw, hrw⟩ := HPW.out wr hbw
        have HALL := Hid.mk' (all_fl B (pairL fs) wr hLP (by omega) (fun x hx => ⟨by have := (hbx x hx).2.1; omega, by have := (hbx x hx).2.2.1; omega⟩) hrw hpw)
        have HGET : Hid (∀ (K : ByteArray) (X : World), Below w.heap.size w X → Calls Tryz.prog 10 #[.string B, .string K] X fun e w' => e = .returned (.tuple #[.string (nums (gtF (pairL fs) (Sums.bl K)).1), .bool (gtF (pairL fs) (Sums.bl K)).2]) ∧ Below X.heap.size X w') := Hid.mk' (fun K X hX => get_fl B K (pairL fs) X hLP (fun x hx => by have := (hbx x hx).2.2.1; omega) (fun x hx => (hbx x hx).1.1) (HPW.out X hX).2 (HPW.out X hX).1)
        have hpr := own_pr hown
        clear hown hfl hBl hfs hLP hpw hrw HF HK HA HZ HCA HCZ HPW
        generalize pairL fs = L at *
        have hpr0 := hpr
        obtain ⟨p7, c7, e7, -⟩ := hpr
        rw [hlen] at e7
        subst e7
        have HPR := Hid.mk' hpr0
        have HBW := Hid.mk' hbw
        have HBX := Hid.mk' hbx
        have HOK := Hid.mk' hokb
        have HLEN := Hid.mk' hlen
        clear hpr0 hbw hbx hokb hlen
        have hi40I : (i : Int) ≤ 40 := by omega
        go_wp2_with fail
        refine HALL.out.mono ?_
        rintro e w5 ⟨v5, rfl, hown5, hb5⟩
        have HS := Hid.mk' (same_fl v5 (.slice p7 i c7) L L w5 (own_pr hown5) (HPR.out.below hb5) (by have := HLEN.out; omega) (by have := HLEN.out; omega) HOK.out HOK.out)
        rw [decide_eq_true (rfl : L = L)] at HS
        have HM : Hid (Below w.heap.size w w5 ∧ PrAt w5 (.slice p7 i c7) L) := Hid.mk' ⟨bel_up HBW.out hb5, HPR.out.below hb5⟩
        clear hown5 hb5 HALL HPR HBW
        go_wp2_with fail
        refine HS.out.mono ?_
        rintro e w6 ⟨rfl, nd, hw6⟩
        have HM6 : Hid (Below w.heap.size w w6 ∧ PrAt w6 (.slice p7 i c7) L) := Hid.mk' (by rw [hw6]; exact ⟨HM.out.1.drewN' nd, HM.out.2.below ((Below.refl _ _).drewN' nd)⟩)
        clear hw6 HM HS
        go_wp2_with fail
        go_loopw [14, 15, 16, 17, 18] (fun jv fv kv vv tv wr => ∃ j : Nat, jv = .int .i64 (j : Int) ∧ j ≤ i ∧ Hid (Below w.heap.size w wr ∧ PrAt wr (.slice p7 i c7) L)) (fun jv fv kv vv tv _ => i - (intOf jv).toNat)
        case atStart => exact ⟨0, by first | rfl | simp, by omega, HM6⟩
        case round =>
          obtain ⟨j, rfl, hj, HW⟩ := hrel
          rename World => wj
          clear HM6
          by_cases hji : j < i
          · have hjI : (j : Int) < (i : Int) := by omega
            obtain ⟨x, hx⟩ : ∃ x, L[j]? = some x := ⟨_, List.getElem?_eq_getElem (by have := HLEN.out; omega)⟩
            obtain ⟨hxb, hxn, hxv, hxf⟩ := HBX.out x (List.mem_of_getElem? hx)
            obtain ⟨q7, d7, eq7, hcl⟩ := HW.out.2
            obtain ⟨g7, o7, ep7, -⟩ := hcl j x hx
            injection eq7 with e1 e2 e3
            have e7 : p7 = some ⟨g7, o7, none⟩ := e1.trans ep7
            clear hcl e1 e2 e3 ep7
            subst e7
            have HCL : Hid (∀ X, PrAt X (.slice (some ⟨g7, o7, none⟩) i c7) L → ∀ l y, L[l]? = some y → X.cell? ⟨g7, o7 + l * 2, none⟩ = some (.string (nums y.1)) ∧ X.cell? ⟨g7, o7 + l * 2 + 1, none⟩ = some (.string (nums y.2))) := Hid.mk' (fun X hX l y hl => by
              obtain ⟨p', c', e', hc'⟩ := hX
              obtain ⟨g', o', ep', _, r1, r2⟩ := hc' l y hl
              injection e' with e1 e2 e3
              rw [← e1] at ep'
              cases ep'
              exact ⟨r1, r2⟩)
            obtain ⟨X, hX⟩ : ∃ X, nums x.1 = X := ⟨_, rfl⟩
            have hXs : X.size ≤ 64 := by rw [← hX, nums_size]; exact hxn
            have HXB : Hid (Sums.bl X = x.1) := Hid.mk' (by rw [← hX]; exact bl_nums _ hxb.1)
            have HJC : Hid (∀ V, PrAt V (.slice (some ⟨g7, o7, none⟩) i c7) L → V.cell? ⟨g7, o7 + j * 2, none⟩ = some (.string X)) := Hid.mk' (fun V hV => by rw [← hX]; exact (HCL.out V hV j x hx).1)
            have HFN : Hid (∀ V, Calls Tryz.prog 17 #[.string X] V fun e w' => e = .returned (.bool true) ∧ Below V.heap.size V w') := Hid.mk' (fun V => by have h := fname_any X V (by omega); rwa [HXB.out, hxf] at h)
            have HX := Hid.mk' hx
            clear hx hX hxb hxn hxv hxf
            go_wp2_with fail
            go_loopw [15, 16] (fun fv kv wr => ∃ f t : Nat, fv = .int .i64 (f : Int) ∧ kv = .int .i64 ((t : Int) - 1) ∧ t ≤ j + 1 ∧ f ≤ j ∧ Hid ((∃ y, L[f]? = some y ∧ y.1 = x.1) ∧ ∀ l, t ≤ l → l < f → ∀ y, L[l]? = some y → y.1 ≠ x.1) ∧ Hid (Below w.heap.size w wr ∧ PrAt wr (.slice (some ⟨g7, o7, none⟩) i c7) L)) (fun fv kv _ => (intOf kv + 1).toNat)
            case atStart => exact ⟨j, j + 1, rfl, (by have e : (((j + 1 : Nat) : Int) - 1) = (j : Int) := (by omega); rw [e]), by omega, by omega, Hid.mk' ⟨⟨x, HX.out, rfl⟩, fun l h1 h2 => by omega⟩, HW⟩
            case round =>
              obtain ⟨f, t, rfl, rfl, ht, hf, HT, HK⟩ := hrel
              rename World => wk
              cases t with
              | zero =>
                have e0 : (((0 : Nat) : Int) - 1) = -1 := rfl
                rw [e0]
                obtain ⟨y, hy, hyx⟩ := HT.out.1
                have hgt : gtF L (Sums.bl X) = (y.2, true) := by
                  rw [HXB.out]
                  exact gt_first hy hyx (fun l hl z hz => HT.out.2 l (by omega) hl z hz)
                have HG := Hid.mk' (HGET.out X wk HK.out.1)
                rw [hgt] at HG
                have cj := HJC.out wk HK.out.2
                obtain ⟨V2, hV2⟩ : ∃ V2, nums y.2 = V2 := ⟨_, rfl⟩
                have HFC : Hid (∀ V, PrAt V (.slice (some ⟨g7, o7, none⟩) i c7) L → V.cell? ⟨g7, o7 + f * 2 + 1, none⟩ = some (.string V2)) := Hid.mk' (fun V hV => by rw [← hV2]; exact (HCL.out V hV f y hy).2)
                dsimp only at HG
                rw [hV2] at HG
                have hfI : (f : Int) < (i : Int) := by omega
                have hfi : f < i := by omega
                clear hy hyx hgt hV2 HT e0
                go_wp2_with fail
                refine HG.out.mono ?_
                rintro e w7 ⟨rfl, hb7⟩
                have HK7 : Hid (Below w.heap.size w w7 ∧ PrAt w7 (.slice (some ⟨g7, o7, none⟩) i c7) L) := Hid.mk' ⟨bel_up HK.out.1 hb7, HK.out.2.below hb7⟩
                have cj7 := HJC.out w7 HK7.out.2
                have cf7 := HFC.out w7 HK7.out.2
                clear hb7 HG HK cj
                go_wp2_with fail
                refine (HFN.out w7).mono ?_
                rintro e w8 ⟨rfl, hb8⟩
                have HK8 : Hid (Below w.heap.size w w8 ∧ PrAt w8 (.slice (some ⟨g7, o7, none⟩) i c7) L) := Hid.mk' ⟨bel_up HK7.out.1 hb8, HK7.out.2.below hb8⟩
                clear hb8 HK7 cj7 cf7
                go_wp2_with fail
                go_roundw
                case rel => exact ⟨j + 1, by go_num, by omega, HK8⟩
                case measure => simp [intOf]; omega
              | succ s =>
                have e0 : (((s + 1 : Nat) : Int) - 1) = (s : Int) := by omega
                rw [e0]
                have hsI : (s : Int) < (i : Int) := by omega
                have hs0 : (0 : Int) ≤ (s : Int) := by omega
                have hsi : s < i := by omega
                have hsw : IntKind.i64.wrap ((s : Int) - 1) = (s : Int) - 1 := by rw [IntKind.wrap_i64]; omega
                obtain ⟨y, hy⟩ : ∃ y, L[s]? = some y := ⟨_, List.getElem?_eq_getElem (by have := HLEN.out; omega)⟩
                have hyb := (HBX.out y (List.mem_of_getElem? hy)).1.1
                obtain ⟨Y, hY⟩ : ∃ Y, nums y.1 = Y := ⟨_, rfl⟩
                have cj := HJC.out wk HK.out.2
                have cs : wk.cell? ⟨g7, o7 + s * 2, none⟩ = some (.string Y) := by rw [← hY]; exact (HCL.out wk HK.out.2 s y hy).1
                by_cases hxy : Y = X
                · have HT2 : Hid ((∃ y, L[s]? = some y ∧ y.1 = x.1) ∧ ∀ l, s ≤ l → l < s → ∀ y, L[l]? = some y → y.1 ≠ x.1) := Hid.mk' ⟨⟨y, hy, by rw [← HXB.out, ← hxy, ← hY]; exact (bl_nums _ hyb).symm⟩, fun l h1 h2 => by omega⟩
                  clear hy hyb hY HT e0
                  subst hxy
                  go_wp2_with fail
                  go_region
                  go_wp2_with fail
                  go_roundw
                  case rel => exact ⟨s, s, rfl, rfl, by omega, by omega, HT2, Hid.mk' ⟨HK.out.1.drewN' 1, HK.out.2.below ((Below.refl _ _).drewN' 1)⟩⟩
                  case measure => simp [intOf] <;> omega
                · have hne : (Y.toList == X.toList) = false := beq_eq_false_iff_ne.2 (fun e => hxy (by rw [ByteArray.toList_eq, ByteArray.toList_eq] at e; exact ByteArray.ext (Array.toList_inj.1 e)))
                  have hne2 : ¬ Y.toList = X.toList := fun e => by rw [e] at hne; simp at hne
                  have HT2 : Hid ((∃ y, L[f]? = some y ∧ y.1 = x.1) ∧ ∀ l, s ≤ l → l < f → ∀ y, L[l]? = some y → y.1 ≠ x.1) := Hid.mk' ⟨HT.out.1, fun l h1 h2 z hz => by
                    by_cases hl : l = s
                    · subst hl
                      rw [hy] at hz
                      cases hz
                      intro e
                      exact hxy (by rw [← hY, e, ← HXB.out]; exact nums_bl14 X)
                    · exact HT.out.2 l (by omega) h2 z hz⟩
                  clear hy hyb hY HT e0 hxy
                  go_wp2_with fail
                  go_region
                  go_wp2_with fail
                  go_roundw
                  case rel => exact ⟨f, s, rfl, rfl, by omega, by omega, HT2, Hid.mk' ⟨HK.out.1.drewN' 1, HK.out.2.below ((Below.refl _ _).drewN' 1)⟩⟩
                  case measure => simp [intOf] <;> omega
          · obtain rfl : j = i := by omega
            go_wp2_with fail
            go_ret
            exact ⟨rfl, HW.out.1⟩
      · have g1 : decide ((i : Int) < (n : Int)) = false := decide_eq_false (by omega)
        obtain ⟨hfl, hBl, hfs⟩ := HF.out
        have hlen : (pairL fs).length = i := by unfold pairL; rw [List.length_map, hfl]
        have hbx : ∀ x ∈ pairL fs, ((∀ z ∈ x.1, z < 256) ∧ ∀ z ∈ x.2, z < 256) ∧ x.1.length ≤ 64 ∧ x.2.length ≤ 8192 ∧ nameF x.1 = true := by
          intro x hx
          unfold pairL at hx
          obtain ⟨f, hf, rfl⟩ := List.mem_map.1 hx
          obtain ⟨h1, h2, h3, h4⟩ := hfs f hf
          exact ⟨⟨h2, h3⟩, (name_rows _ h1.2.1).2.2, h4, h1.2.1⟩
        have hLP : LineP B (pairL fs) := ⟨by omega, .inl ⟨by rw [hBl]; rfl, by rw [hBl]; exact (wk_line fs (fun f hf => (hfs f hf).1)).symm⟩⟩
        have hokb : OkB (pairL fs) := fun x hx => (hbx x hx).1
        have hown : wr.ownsRow w.heap.size 29 2 u7 (pairL fs).length (prV (pairL fs)) := by rw [hlen, ← hfl]; exact HK.out.own
        have hbw := HK.out.bel
        obtain ⟨hpw, hrw⟩ := HPW.out wr hbw
        have HALL := Hid.mk' (all_fl B (pairL fs) wr hLP (by omega) (fun x hx => ⟨by have := (hbx x hx).2.1; omega, by have := (hbx x hx).2.2.1; omega⟩) hrw hpw)
        have HGET : Hid (∀ (K : ByteArray) (X : World), Below w.heap.size w X → Calls Tryz.prog 10 #[.string B, .string K] X fun e w' => e = .returned (.tuple #[.string (nums (gtF (pairL fs) (Sums.bl K)).1), .bool (gtF (pairL fs) (Sums.bl K)).2]) ∧ Below X.heap.size X w') := Hid.mk' (fun K X hX => get_fl B K (pairL fs) X hLP (fun x hx => by have := (hbx x hx).2.2.1; omega) (fun x hx => (hbx x hx).1.1) (HPW.out X hX).2 (HPW.out X hX).1)
        have hpr := own_pr hown
        clear hown hfl hBl hfs hLP hpw hrw HF HK HA HZ HCA HCZ HPW
        generalize pairL fs = L at *
        have hpr0 := hpr
        obtain ⟨p7, c7, e7, -⟩ := hpr
        rw [hlen] at e7
        subst e7
        have HPR := Hid.mk' hpr0
        have HBW := Hid.mk' hbw
        have HBX := Hid.mk' hbx
        have HOK := Hid.mk' hokb
        have HLEN := Hid.mk' hlen
        clear hpr0 hbw hbx hokb hlen
        have hi40I : (i : Int) ≤ 40 := by omega
        go_wp2_with fail
        refine HALL.out.mono ?_
        rintro e w5 ⟨v5, rfl, hown5, hb5⟩
        have HS := Hid.mk' (same_fl v5 (.slice p7 i c7) L L w5 (own_pr hown5) (HPR.out.below hb5) (by have := HLEN.out; omega) (by have := HLEN.out; omega) HOK.out HOK.out)
        rw [decide_eq_true (rfl : L = L)] at HS
        have HM : Hid (Below w.heap.size w w5 ∧ PrAt w5 (.slice p7 i c7) L) := Hid.mk' ⟨bel_up HBW.out hb5, HPR.out.below hb5⟩
        clear hown5 hb5 HALL HPR HBW
        go_wp2_with fail
        refine HS.out.mono ?_
        rintro e w6 ⟨rfl, nd, hw6⟩
        have HM6 : Hid (Below w.heap.size w w6 ∧ PrAt w6 (.slice p7 i c7) L) := Hid.mk' (by rw [hw6]; exact ⟨HM.out.1.drewN' nd, HM.out.2.below ((Below.refl _ _).drewN' nd)⟩)
        clear hw6 HM HS
        go_wp2_with fail
        go_loopw [14, 15, 16, 17, 18] (fun jv fv kv vv tv wr => ∃ j : Nat, jv = .int .i64 (j : Int) ∧ j ≤ i ∧ Hid (Below w.heap.size w wr ∧ PrAt wr (.slice p7 i c7) L)) (fun jv fv kv vv tv _ => i - (intOf jv).toNat)
        case atStart => exact ⟨0, by first | rfl | simp, by omega, HM6⟩
        case round =>
          obtain ⟨j, rfl, hj, HW⟩ := hrel
          rename World => wj
          clear HM6
          by_cases hji : j < i
          · have hjI : (j : Int) < (i : Int) := by omega
            obtain ⟨x, hx⟩ : ∃ x, L[j]? = some x := ⟨_, List.getElem?_eq_getElem (by have := HLEN.out; omega)⟩
            obtain ⟨hxb, hxn, hxv, hxf⟩ := HBX.out x (List.mem_of_getElem? hx)
            obtain ⟨q7, d7, eq7, hcl⟩ := HW.out.2
            obtain ⟨g7, o7, ep7, -⟩ := hcl j x hx
            injection eq7 with e1 e2 e3
            have e7 : p7 = some ⟨g7, o7, none⟩ := e1.trans ep7
            clear hcl e1 e2 e3 ep7
            subst e7
            have HCL : Hid (∀ X, PrAt X (.slice (some ⟨g7, o7, none⟩) i c7) L → ∀ l y, L[l]? = some y → X.cell? ⟨g7, o7 + l * 2, none⟩ = some (.string (nums y.1)) ∧ X.cell? ⟨g7, o7 + l * 2 + 1, none⟩ = some (.string (nums y.2))) := Hid.mk' (fun X hX l y hl => by
              obtain ⟨p', c', e', hc'⟩ := hX
              obtain ⟨g', o', ep', _, r1, r2⟩ := hc' l y hl
              injection e' with e1 e2 e3
              rw [← e1] at ep'
              cases ep'
              exact ⟨r1, r2⟩)
            obtain ⟨X, hX⟩ : ∃ X, nums x.1 = X := ⟨_, rfl⟩
            have hXs : X.size ≤ 64 := by rw [← hX, nums_size]; exact hxn
            have HXB : Hid (Sums.bl X = x.1) := Hid.mk' (by rw [← hX]; exact bl_nums _ hxb.1)
            have HJC : Hid (∀ V, PrAt V (.slice (some ⟨g7, o7, none⟩) i c7) L → V.cell? ⟨g7, o7 + j * 2, none⟩ = some (.string X)) := Hid.mk' (fun V hV => by rw [← hX]; exact (HCL.out V hV j x hx).1)
            have HFN : Hid (∀ V, Calls Tryz.prog 17 #[.string X] V fun e w' => e = .returned (.bool true) ∧ Below V.heap.size V w') := Hid.mk' (fun V => by have h := fname_any X V (by omega); rwa [HXB.out, hxf] at h)
            have HX := Hid.mk' hx
            clear hx hX hxb hxn hxv hxf
            go_wp2_with fail
            go_loopw [15, 16] (fun fv kv wr => ∃ f t : Nat, fv = .int .i64 (f : Int) ∧ kv = .int .i64 ((t : Int) - 1) ∧ t ≤ j + 1 ∧ f ≤ j ∧ Hid ((∃ y, L[f]? = some y ∧ y.1 = x.1) ∧ ∀ l, t ≤ l → l < f → ∀ y, L[l]? = some y → y.1 ≠ x.1) ∧ Hid (Below w.heap.size w wr ∧ PrAt wr (.slice (some ⟨g7, o7, none⟩) i c7) L)) (fun fv kv _ => (intOf kv + 1).toNat)
            case atStart => exact ⟨j, j + 1, rfl, (by have e : (((j + 1 : Nat) : Int) - 1) = (j : Int) := (by omega); rw [e]), by omega, by omega, Hid.mk' ⟨⟨x, HX.out, rfl⟩, fun l h1 h2 => by omega⟩, HW⟩
            case round =>
              obtain ⟨f, t, rfl, rfl, ht, hf, HT, HK⟩ := hrel
              rename World => wk
              cases t with
              | zero =>
                have e0 : (((0 : Nat) : Int) - 1) = -1 := rfl
                rw [e0]
                obtain ⟨y, hy, hyx⟩ := HT.out.1
                have hgt : gtF L (Sums.bl X) = (y.2, true) := by
                  rw [HXB.out]
                  exact gt_first hy hyx (fun l hl z hz => HT.out.2 l (by omega) hl z hz)
                have HG := Hid.mk' (HGET.out X wk HK.out.1)
                rw [hgt] at HG
                have cj := HJC.out wk HK.out.2
                obtain ⟨V2, hV2⟩ : ∃ V2, nums y.2 = V2 := ⟨_, rfl⟩
                have HFC : Hid (∀ V, PrAt V (.slice (some ⟨g7, o7, none⟩) i c7) L → V.cell? ⟨g7, o7 + f * 2 + 1, none⟩ = some (.string V2)) := Hid.mk' (fun V hV => by rw [← hV2]; exact (HCL.out V hV f y hy).2)
                dsimp only at HG
                rw [hV2] at HG
                have hfI : (f : Int) < (i : Int) := by omega
                have hfi : f < i := by omega
                clear hy hyx hgt hV2 HT e0
                go_wp2_with fail
                refine HG.out.mono ?_
                rintro e w7 ⟨rfl, hb7⟩
                have HK7 : Hid (Below w.heap.size w w7 ∧ PrAt w7 (.slice (some ⟨g7, o7, none⟩) i c7) L) := Hid.mk' ⟨bel_up HK.out.1 hb7, HK.out.2.below hb7⟩
                have cj7 := HJC.out w7 HK7.out.2
                have cf7 := HFC.out w7 HK7.out.2
                clear hb7 HG HK cj
                go_wp2_with fail
                refine (HFN.out w7).mono ?_
                rintro e w8 ⟨rfl, hb8⟩
                have HK8 : Hid (Below w.heap.size w w8 ∧ PrAt w8 (.slice (some ⟨g7, o7, none⟩) i c7) L) := Hid.mk' ⟨bel_up HK7.out.1 hb8, HK7.out.2.below hb8⟩
                clear hb8 HK7 cj7 cf7
                go_wp2_with fail
                go_roundw
                case rel => exact ⟨j + 1, by go_num, by omega, HK8⟩
                case measure => simp [intOf]; omega
              | succ s =>
                have e0 : (((s + 1 : Nat) : Int) - 1) = (s : Int) := by omega
                rw [e0]
                have hsI : (s : Int) < (i : Int) := by omega
                have hs0 : (0 : Int) ≤ (s : Int) := by omega
                have hsi : s < i := by omega
                have hsw : IntKind.i64.wrap ((s : Int) - 1) = (s : Int) - 1 := by rw [IntKind.wrap_i64]; omega
                obtain ⟨y, hy⟩ : ∃ y, L[s]? = some y := ⟨_, List.getElem?_eq_getElem (by have := HLEN.out; omega)⟩
                have hyb := (HBX.out y (List.mem_of_getElem? hy)).1.1
                obtain ⟨Y, hY⟩ : ∃ Y, nums y.1 = Y := ⟨_, rfl⟩
                have cj := HJC.out wk HK.out.2
                have cs : wk.cell? ⟨g7, o7 + s * 2, none⟩ = some (.string Y) := by rw [← hY]; exact (HCL.out wk HK.out.2 s y hy).1
                by_cases hxy : Y = X
                · have HT2 : Hid ((∃ y, L[s]? = some y ∧ y.1 = x.1) ∧ ∀ l, s ≤ l → l < s → ∀ y, L[l]? = some y → y.1 ≠ x.1) := Hid.mk' ⟨⟨y, hy, by rw [← HXB.out, ← hxy, ← hY]; exact (bl_nums _ hyb).symm⟩, fun l h1 h2 => by omega⟩
                  clear hy hyb hY HT e0
                  subst hxy
                  go_wp2_with fail
                  go_region
                  go_wp2_with fail
                  go_roundw
                  case rel => exact ⟨s, s, rfl, rfl, by omega, by omega, HT2, Hid.mk' ⟨HK.out.1.drewN' 1, HK.out.2.below ((Below.refl _ _).drewN' 1)⟩⟩
                  case measure => simp [intOf] <;> omega
                · have hne : (Y.toList == X.toList) = false := beq_eq_false_iff_ne.2 (fun e => hxy (by rw [ByteArray.toList_eq, ByteArray.toList_eq] at e; exact ByteArray.ext (Array.toList_inj.1 e)))
                  have hne2 : ¬ Y.toList = X.toList := fun e => by rw [e] at hne; simp at hne
                  have HT2 : Hid ((∃ y, L[f]? = some y ∧ y.1 = x.1) ∧ ∀ l, s ≤ l → l < f → ∀ y, L[l]? = some y → y.1 ≠ x.1) := Hid.mk' ⟨HT.out.1, fun l h1 h2 z hz => by
                    by_cases hl : l = s
                    · subst hl
                      rw [hy] at hz
                      cases hz
                      intro e
                      exact hxy (by rw [← hY, e, ← HXB.out]; exact nums_bl14 X)
                    · exact HT.out.2 l (by omega) h2 z hz⟩
                  clear hy hyb hY HT e0 hxy
                  go_wp2_with fail
                  go_region
                  go_wp2_with fail
                  go_roundw
                  case rel => exact ⟨f, s, rfl, rfl, by omega, by omega, HT2, Hid.mk' ⟨HK.out.1.drewN' 1, HK.out.2.below ((Below.refl _ _).drewN' 1)⟩⟩
                  case measure => simp [intOf] <;> omega
          · obtain rfl : j = i := by omega
            go_wp2_with fail
            go_ret
            exact ⟨rfl, HW.out.1⟩
theorem cell_lt {W : World} {g k : Nat} {v : Value} (h : W.cell? ⟨g, k, none⟩ = some v) : g < W.heap.size := by
  rcases Nat.lt_or_ge g W.heap.size with h' | h'
  · exact h'
  · unfold World.cell? at h
    simp [Array.getElem?_eq_none h'] at h
theorem fieldsMade_any (p : Option Addr) (n cap : Nat) (A U : Nat → ByteArray) (q : Option Addr) (cap2 : Nat) (L : List Int) (w : World)
    (hn : n ≤ 140737488351232) (hA : ∀ i, i < n → (A i).size ≤ 140737488351232 ∧ (U i).size ≤ 140737488351232)
    (hc : ∀ i, i < n → ∃ g off, p = some ⟨g, off, none⟩ ∧ w.cell? ⟨g, off + i * 2, none⟩ = some (.string (A i)) ∧ w.cell? ⟨g, off + i * 2 + 1, none⟩ = some (.string (U i)))
    (hm : L.length ≤ 140737488351232) (hz : ∀ z ∈ L, -9223372036854775808 ≤ z ∧ z ≤ 9223372036854775807)
    (hd : ∀ i, i < L.length → ∃ g off, q = some ⟨g, off, none⟩ ∧ w.cell? ⟨g, off + i, none⟩ = some (.int .i64 (L.getD i 0)))
    (hw : RwT w) (hp : Pow w) :
    Calls Tryz.prog 4 #[.slice p n cap, .slice q L.length cap2] w fun e w' => e = .returned (.bool true) ∧ Below w.heap.size w w' := by
  refine fieldsMade_in p q n cap L.length cap2 A U (fun i => L.getD i 0) w hn hm hA (fun i hi => ?_) (fun i hi => ?_) (fun i hi => ?_) hw hp
  · obtain ⟨g, off, h1, h2, h3⟩ := hc i hi
    exact ⟨g, off, h1, cell_lt h2, h2, h3⟩
  · rw [List.getD_eq_getElem?_getD, List.getElem?_eq_getElem hi]
    exact hz _ (List.getElem_mem hi)
  · obtain ⟨g, off, h1, h2⟩ := hd i hi
    exact ⟨g, off, h1, cell_lt h2, h2⟩
end Go.Proofs.YtkplbggefiemdaaGreatDoor
