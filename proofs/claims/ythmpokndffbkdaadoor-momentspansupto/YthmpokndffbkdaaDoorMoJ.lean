/-
  moment.Show. Conditions: an int.
-/
import Derived.Test.YthmpokndffbkdaaDoorMoI
import Derived.Lib.SlBytesConst
namespace Go.Proofs.YthmpokndffbkdaaDoor
open Go.RowKit
set_option linter.unusedVariables false
def _root_.Mo.sh (y m d h mi s ms : Nat) : List Nat := [48 + y / 10 ^ 3 % 10, 48 + y / 10 ^ 2 % 10, 48 + y / 10 ^ 1 % 10, 48 + y / 10 ^ 0 % 10, 45, 48 + m / 10 ^ 1 % 10, 48 + m / 10 ^ 0 % 10, 45, 48 + d / 10 ^ 1 % 10, 48 + d / 10 ^ 0 % 10, 84, 48 + h / 10 ^ 1 % 10, 48 + h / 10 ^ 0 % 10, 58, 48 + mi / 10 ^ 1 % 10, 48 + mi / 10 ^ 0 % 10, 58, 48 + s / 10 ^ 1 % 10, 48 + s / 10 ^ 0 % 10, 46, 48 + ms / 10 ^ 2 % 10, 48 + ms / 10 ^ 1 % 10, 48 + ms / 10 ^ 0 % 10, 90]
def u8s (l : List Nat) : List Value := l.map fun z => .int .u8 ((z : Nat) : Int)
def blank : List Nat := [89, 89, 89, 89, 45, 77, 77, 45, 68, 68, 84, 104, 104, 58, 109, 109, 58, 115, 115, 46, 115, 115, 115, 90]
theorem putK (g o k n cap : Nat) (cs ds : List Nat) (w : World) (hg : w.heap[g]? = some (.cells (u8s cs).toArray 5 (24, 25))) (hl : cs.length = 24) (ho : o + k ≤ 24) (hk : k ≤ 100) (hob : o ≤ 1000) (hn : n ≤ 1000000000000) (hd : pd (u8s cs) o n k k = u8s ds) :
    Calls Tryd.prog 36 #[.slice (some ⟨g, o, none⟩) k cap, .int .i64 (n : Int)] w fun e w' => e = .returned (.tuple #[]) ∧ PutF g 24 5 (u8s ds) w w' := by
  have hl2 : (u8s cs).length = 24 := by unfold u8s; rw [List.length_map]; exact hl
  have := put_any g o k n cap (u8s cs) w (by rw [hl2]; exact hg) (by omega) hk hob hn
  rw [hl2, hd] at this
  exact this
structure ShAt (B D R : Nat) (w0 : World) (y m d h mi s ms : Int) (cs : List Nat) (w : World) : Prop where
  date : DateAt D y m d h mi s ms w
  row : w.heap[R]? = some (.cells (u8s cs).toArray 5 (24, 25))
  bel : Below B w0 w
theorem ShAt.step {B D R : Nat} {w0 : World} {y m d h mi s ms : Int} {cs ds : List Nat} {w w' : World} (k : ShAt B D R w0 y m d h mi s ms cs w) (p : PutF R 24 5 (u8s ds) w.drew w') (hDR : D ≠ R) (hB : B ≤ R) : ShAt B D R w0 y m d h mi s ms ds w' := by
  have e : w'.heap[D]? = w.heap[D]? := p.block D hDR
  have c : ∀ i v, w.cell? ⟨D, i, none⟩ = some v → w'.cell? ⟨D, i, none⟩ = some v := fun i v hv => by
    simp only [World.cell?] at hv ⊢
    rw [e]; exact hv
  exact ⟨⟨c _ _ k.date.c0, c _ _ k.date.c1, c _ _ k.date.c2, c _ _ k.date.c3, c _ _ k.date.c4, c _ _ k.date.c5, c _ _ k.date.c6⟩, p.row, k.bel.trans (((Below.refl B w).drewN' 1).trans (p.below hB))⟩
theorem conv_text (b : Nat) (l : List Nat) (c : Nat) (w : World) (fr : Nat × Nat) (h : w.heap[b]? = some (.cells (u8s l).toArray 5 fr)) : (convert 47 9 (.slice (some ⟨b, 0, none⟩) l.length c)).run Tryd.prog w = .ok (.string (nums l)) w := by
  refine run_convert_bytes_arg w 47 5 Tryd.underlying47 Tryd.underlying5 b 0 l.length c (l.map fun z => ((z : Nat) : Int)) (by simp) (fun i hi => ?_) 9 Tryd.underlying9
  rw [Nat.zero_add]
  simp only [World.cell?, h, u8s]
  simp [hi]
set_option maxRecDepth 100000 in
set_option maxHeartbeats 4000000 in
theorem show_any (n : Nat) (w : World) (hn : n ≤ 253402300799999) :
    Calls Tryd.prog 15 #[.int .i64 (n : Int)] w fun e w' => (∃ y m d, Mo.IsDay (n / 86400000) y m d ∧ e = .returned (.tuple #[.string (nums (Mo.sh y m d (n % 86400000 / 3600000) (n % 86400000 % 3600000 / 60000) (n % 86400000 % 60000 / 1000) (n % 86400000 % 1000))), .int .i64 0])) ∧ Below w.heap.size w w' := by
  have HD := Hid.mk' (fun w => date_any n w hn)
  obtain ⟨h, hh⟩ : ∃ h, n % 86400000 / 3600000 = h := ⟨_, rfl⟩
  obtain ⟨mi, hmi⟩ : ∃ h, n % 86400000 % 3600000 / 60000 = h := ⟨_, rfl⟩
  obtain ⟨s, hs⟩ : ∃ h, n % 86400000 % 60000 / 1000 = h := ⟨_, rfl⟩
  obtain ⟨ms, hms⟩ : ∃ h, n % 86400000 % 1000 = h := ⟨_, rfl⟩
  have hhb : h ≤ 1000000000000 := by omega
  have hmib : mi ≤ 1000000000000 := by omega
  have hsb : s ≤ 1000000000000 := by omega
  have hmsb : ms ≤ 1000000000000 := by omega
  rw [hh, hmi, hs, hms] at HD
  rw [hh, hmi, hs, hms]
  clear hh hmi hs hms
  go_enter Tryd.func15, Tryd.ntmps15
  go_wp2_with fail
  refine (HD.out _).mono ?_
  rintro e w1 ⟨⟨y, m, d, hday, rfl⟩, hb1⟩
  have hyb : y ≤ 1000000000000 := by have := hday.y1; omega
  have hmb : m ≤ 1000000000000 := by have := hday.m1; omega
  have hdb : d ≤ 1000000000000 := by have := hday.d1; have := (Mo.md_pos y m).2; omega
  have HDAY := Hid.mk' hday
  have B1 := Hid.mk' hb1
  have hcv := fun V => Go.Lib.run_convert_bytes_const (P := Tryd.prog) V 47 5 #[.int .u8 89, .int .u8 89, .int .u8 89, .int .u8 89, .int .u8 45, .int .u8 77, .int .u8 77, .int .u8 45, .int .u8 68, .int .u8 68, .int .u8 84, .int .u8 104, .int .u8 104, .int .u8 58, .int .u8 109, .int .u8 109, .int .u8 58, .int .u8 115, .int .u8 115, .int .u8 46, .int .u8 115, .int .u8 115, .int .u8 115, .int .u8 90] 24 24 Tryd.underlying47 Tryd.underlying5
  have hcv2 := hcv (w1.alloc (.cells #[.int .i64 (y : Int), .int .i64 (m : Int), .int .i64 (d : Int), .int .i64 (h : Int), .int .i64 (mi : Int), .int .i64 (s : Int), .int .i64 (ms : Int)] 23))
  rw [show (w1.alloc (.cells #[.int .i64 (y : Int), .int .i64 (m : Int), .int .i64 (d : Int), .int .i64 (h : Int), .int .i64 (mi : Int), .int .i64 (s : Int), .int .i64 (ms : Int)] 23)).heap.size = w1.heap.size + 1 by simp] at hcv2
  clear hcv
  unfold dateV
  go_wp2_with fail
  have H0 : ShAt w.heap.size w1.heap.size (w1.heap.size + 1) w y m d h mi s ms blank ((w1.alloc (.cells #[.int .i64 (y : Int), .int .i64 (m : Int), .int .i64 (d : Int), .int .i64 (h : Int), .int .i64 (mi : Int), .int .i64 (s : Int), .int .i64 (ms : Int)] 23)).alloc (.cells #[.int .u8 89, .int .u8 89, .int .u8 89, .int .u8 89, .int .u8 45, .int .u8 77, .int .u8 77, .int .u8 45, .int .u8 68, .int .u8 68, .int .u8 84, .int .u8 104, .int .u8 104, .int .u8 58, .int .u8 109, .int .u8 109, .int .u8 58, .int .u8 115, .int .u8 115, .int .u8 46, .int .u8 115, .int .u8 115, .int .u8 115, .int .u8 90] 5 (24, 25))) := by
    have a1 := DateAt.new w1 y m d h mi s ms 23
    have a2 := (B1.out.alloc B1.out.size (.cells #[.int .i64 (y : Int), .int .i64 (m : Int), .int .i64 (d : Int), .int .i64 (h : Int), .int .i64 (mi : Int), .int .i64 (s : Int), .int .i64 (ms : Int)] 23))
    have a3 : w1.heap.size + 1 = (w1.alloc (.cells #[.int .i64 (y : Int), .int .i64 (m : Int), .int .i64 (d : Int), .int .i64 (h : Int), .int .i64 (mi : Int), .int .i64 (s : Int), .int .i64 (ms : Int)] 23)).heap.size := by simp
    rw [a3]
    have a4 : w1.heap.size < (w1.alloc (.cells #[.int .i64 (y : Int), .int .i64 (m : Int), .int .i64 (d : Int), .int .i64 (h : Int), .int .i64 (mi : Int), .int .i64 (s : Int), .int .i64 (ms : Int)] 23)).heap.size := by omega
    generalize (w1.alloc _) = w2 at *
    exact ⟨a1.below ((Below.refl _ w2).alloc (Nat.le_refl _) _) a4, heap_alloc_new w2 _, a2.alloc a2.size _⟩
  have hDR : w1.heap.size ≠ w1.heap.size + 1 := by omega
  have hBR : w.heap.size ≤ w1.heap.size + 1 := Nat.le_succ_of_le hb1.size
  have HH := Hid.mk' (And.intro hDR hBR)
  clear hb1 hday hcv2 hDR hBR
  generalize ((w1.alloc _).alloc _) = W0 at *
  generalize hDD : w1.heap.size = D at *
  clear hDD B1
  have c0 := H0.date.c0
  have r0 := Hid.mk' H0.row
  go_region_held3 (fun w' => w'.cell? ⟨D, 0, none⟩ = some (.int .i64 (y : Int))) (first | go_keep | exact c0 | exact z.date.c0)
    ((go_at_call 36; refine (putK (D + 1) 0 4 y _ blank [48 + y / 10 ^ 3 % 10, 48 + y / 10 ^ 2 % 10, 48 + y / 10 ^ 1 % 10, 48 + y / 10 ^ 0 % 10, 45, 77, 77, 45, 68, 68, 84, 104, 104, 58, 109, 109, 58, 115, 115, 46, 115, 115, 115, 90] W0.drew r0.out rfl (by decide) (by decide) (by decide) hyb rfl).mono ?_; rintro e wz ⟨rfl, hpz⟩; have z := H0.step hpz HH.out.1 HH.out.2; clear hpz))
  have H1 := z
  clear c0 r0 H0 z
  rename World => W1
  go_wp2_with fail
  have c1 := H1.date.c1
  have r1 := Hid.mk' H1.row
  go_region_held3 (fun w' => w'.cell? ⟨D, 1, none⟩ = some (.int .i64 (m : Int))) (first | go_keep | exact c1 | exact z.date.c1)
    ((go_at_call 36; refine (putK (D + 1) 5 2 m _ [48 + y / 10 ^ 3 % 10, 48 + y / 10 ^ 2 % 10, 48 + y / 10 ^ 1 % 10, 48 + y / 10 ^ 0 % 10, 45, 77, 77, 45, 68, 68, 84, 104, 104, 58, 109, 109, 58, 115, 115, 46, 115, 115, 115, 90] [48 + y / 10 ^ 3 % 10, 48 + y / 10 ^ 2 % 10, 48 + y / 10 ^ 1 % 10, 48 + y / 10 ^ 0 % 10, 45, 48 + m / 10 ^ 1 % 10, 48 + m / 10 ^ 0 % 10, 45, 68, 68, 84, 104, 104, 58, 109, 109, 58, 115, 115, 46, 115, 115, 115, 90] W1.drew r1.out rfl (by decide) (by decide) (by decide) hmb rfl).mono ?_; rintro e wz ⟨rfl, hpz⟩; have z := H1.step hpz HH.out.1 HH.out.2; clear hpz))
  have H2 := z
  clear c1 r1 H1 z
  rename World => W2
  go_wp2_with fail
  have c2 := H2.date.c2
  have r2 := Hid.mk' H2.row
  go_region_held3 (fun w' => w'.cell? ⟨D, 2, none⟩ = some (.int .i64 (d : Int))) (first | go_keep | exact c2 | exact z.date.c2)
    ((go_at_call 36; refine (putK (D + 1) 8 2 d _ [48 + y / 10 ^ 3 % 10, 48 + y / 10 ^ 2 % 10, 48 + y / 10 ^ 1 % 10, 48 + y / 10 ^ 0 % 10, 45, 48 + m / 10 ^ 1 % 10, 48 + m / 10 ^ 0 % 10, 45, 68, 68, 84, 104, 104, 58, 109, 109, 58, 115, 115, 46, 115, 115, 115, 90] [48 + y / 10 ^ 3 % 10, 48 + y / 10 ^ 2 % 10, 48 + y / 10 ^ 1 % 10, 48 + y / 10 ^ 0 % 10, 45, 48 + m / 10 ^ 1 % 10, 48 + m / 10 ^ 0 % 10, 45, 48 + d / 10 ^ 1 % 10, 48 + d / 10 ^ 0 % 10, 84, 104, 104, 58, 109, 109, 58, 115, 115, 46, 115, 115, 115, 90] W2.drew r2.out rfl (by decide) (by decide) (by decide) hdb rfl).mono ?_; rintro e wz ⟨rfl, hpz⟩; have z := H2.step hpz HH.out.1 HH.out.2; clear hpz))
  have H3 := z
  clear c2 r2 H2 z
  rename World => W3
  go_wp2_with fail
  have c3 := H3.date.c3
  have r3 := Hid.mk' H3.row
  go_region_held3 (fun w' => w'.cell? ⟨D, 3, none⟩ = some (.int .i64 (h : Int))) (first | go_keep | exact c3 | exact z.date.c3)
    ((go_at_call 36; refine (putK (D + 1) 11 2 h _ [48 + y / 10 ^ 3 % 10, 48 + y / 10 ^ 2 % 10, 48 + y / 10 ^ 1 % 10, 48 + y / 10 ^ 0 % 10, 45, 48 + m / 10 ^ 1 % 10, 48 + m / 10 ^ 0 % 10, 45, 48 + d / 10 ^ 1 % 10, 48 + d / 10 ^ 0 % 10, 84, 104, 104, 58, 109, 109, 58, 115, 115, 46, 115, 115, 115, 90] [48 + y / 10 ^ 3 % 10, 48 + y / 10 ^ 2 % 10, 48 + y / 10 ^ 1 % 10, 48 + y / 10 ^ 0 % 10, 45, 48 + m / 10 ^ 1 % 10, 48 + m / 10 ^ 0 % 10, 45, 48 + d / 10 ^ 1 % 10, 48 + d / 10 ^ 0 % 10, 84, 48 + h / 10 ^ 1 % 10, 48 + h / 10 ^ 0 % 10, 58, 109, 109, 58, 115, 115, 46, 115, 115, 115, 90] W3.drew r3.out rfl (by decide) (by decide) (by decide) hhb rfl).mono ?_; rintro e wz ⟨rfl, hpz⟩; have z := H3.step hpz HH.out.1 HH.out.2; clear hpz))
  have H4 := z
  clear c3 r3 H3 z
  rename World => W4
  go_wp2_with fail
  have c4 := H4.date.c4
  have r4 := Hid.mk' H4.row
  go_region_held3 (fun w' => w'.cell? ⟨D, 4, none⟩ = some (.int .i64 (mi : Int))) (first | go_keep | exact c4 | exact z.date.c4)
    ((go_at_call 36; refine (putK (D + 1) 14 2 mi _ [48 + y / 10 ^ 3 % 10, 48 + y / 10 ^ 2 % 10, 48 + y / 10 ^ 1 % 10, 48 + y / 10 ^ 0 % 10, 45, 48 + m / 10 ^ 1 % 10, 48 + m / 10 ^ 0 % 10, 45, 48 + d / 10 ^ 1 % 10, 48 + d / 10 ^ 0 % 10, 84, 48 + h / 10 ^ 1 % 10, 48 + h / 10 ^ 0 % 10, 58, 109, 109, 58, 115, 115, 46, 115, 115, 115, 90] [48 + y / 10 ^ 3 % 10, 48 + y / 10 ^ 2 % 10, 48 + y / 10 ^ 1 % 10, 48 + y / 10 ^ 0 % 10, 45, 48 + m / 10 ^ 1 % 10, 48 + m / 10 ^ 0 % 10, 45, 48 + d / 10 ^ 1 % 10, 48 + d / 10 ^ 0 % 10, 84, 48 + h / 10 ^ 1 % 10, 48 + h / 10 ^ 0 % 10, 58, 48 + mi / 10 ^ 1 % 10, 48 + mi / 10 ^ 0 % 10, 58, 115, 115, 46, 115, 115, 115, 90] W4.drew r4.out rfl (by decide) (by decide) (by decide) hmib rfl).mono ?_; rintro e wz ⟨rfl, hpz⟩; have z := H4.step hpz HH.out.1 HH.out.2; clear hpz))
  have H5 := z
  clear c4 r4 H4 z
  rename World => W5
  go_wp2_with fail
  have c5 := H5.date.c5
  have r5 := Hid.mk' H5.row
  go_region_held3 (fun w' => w'.cell? ⟨D, 5, none⟩ = some (.int .i64 (s : Int))) (first | go_keep | exact c5 | exact z.date.c5)
    ((go_at_call 36; refine (putK (D + 1) 17 2 s _ [48 + y / 10 ^ 3 % 10, 48 + y / 10 ^ 2 % 10, 48 + y / 10 ^ 1 % 10, 48 + y / 10 ^ 0 % 10, 45, 48 + m / 10 ^ 1 % 10, 48 + m / 10 ^ 0 % 10, 45, 48 + d / 10 ^ 1 % 10, 48 + d / 10 ^ 0 % 10, 84, 48 + h / 10 ^ 1 % 10, 48 + h / 10 ^ 0 % 10, 58, 48 + mi / 10 ^ 1 % 10, 48 + mi / 10 ^ 0 % 10, 58, 115, 115, 46, 115, 115, 115, 90] [48 + y / 10 ^ 3 % 10, 48 + y / 10 ^ 2 % 10, 48 + y / 10 ^ 1 % 10, 48 + y / 10 ^ 0 % 10, 45, 48 + m / 10 ^ 1 % 10, 48 + m / 10 ^ 0 % 10, 45, 48 + d / 10 ^ 1 % 10, 48 + d / 10 ^ 0 % 10, 84, 48 + h / 10 ^ 1 % 10, 48 + h / 10 ^ 0 % 10, 58, 48 + mi / 10 ^ 1 % 10, 48 + mi / 10 ^ 0 % 10, 58, 48 + s / 10 ^ 1 % 10, 48 + s / 10 ^ 0 % 10, 46, 115, 115, 115, 90] W5.drew r5.out rfl (by decide) (by decide) (by decide) hsb rfl).mono ?_; rintro e wz ⟨rfl, hpz⟩; have z := H5.step hpz HH.out.1 HH.out.2; clear hpz))
  have H6 := z
  clear c5 r5 H5 z
  rename World => W6
  go_wp2_with fail
  have c6 := H6.date.c6
  have r6 := Hid.mk' H6.row
  go_region_held3 (fun w' => w'.cell? ⟨D, 6, none⟩ = some (.int .i64 (ms : Int))) (first | go_keep | exact c6 | exact z.date.c6)
    ((go_at_call 36; refine (putK (D + 1) 20 3 ms _ [48 + y / 10 ^ 3 % 10, 48 + y / 10 ^ 2 % 10, 48 + y / 10 ^ 1 % 10, 48 + y / 10 ^ 0 % 10, 45, 48 + m / 10 ^ 1 % 10, 48 + m / 10 ^ 0 % 10, 45, 48 + d / 10 ^ 1 % 10, 48 + d / 10 ^ 0 % 10, 84, 48 + h / 10 ^ 1 % 10, 48 + h / 10 ^ 0 % 10, 58, 48 + mi / 10 ^ 1 % 10, 48 + mi / 10 ^ 0 % 10, 58, 48 + s / 10 ^ 1 % 10, 48 + s / 10 ^ 0 % 10, 46, 115, 115, 115, 90] [48 + y / 10 ^ 3 % 10, 48 + y / 10 ^ 2 % 10, 48 + y / 10 ^ 1 % 10, 48 + y / 10 ^ 0 % 10, 45, 48 + m / 10 ^ 1 % 10, 48 + m / 10 ^ 0 % 10, 45, 48 + d / 10 ^ 1 % 10, 48 + d / 10 ^ 0 % 10, 84, 48 + h / 10 ^ 1 % 10, 48 + h / 10 ^ 0 % 10, 58, 48 + mi / 10 ^ 1 % 10, 48 + mi / 10 ^ 0 % 10, 58, 48 + s / 10 ^ 1 % 10, 48 + s / 10 ^ 0 % 10, 46, 48 + ms / 10 ^ 2 % 10, 48 + ms / 10 ^ 1 % 10, 48 + ms / 10 ^ 0 % 10, 90] W6.drew r6.out rfl (by decide) (by decide) (by decide) hmsb rfl).mono ?_; rintro e wz ⟨rfl, hpz⟩; have z := H6.step hpz HH.out.1 HH.out.2; clear hpz))
  have H7 := z
  clear c6 r6 H6 z
  rename World => W7
  have hct : (convert 47 9 (.slice (some ⟨D + 1, 0, none⟩) 24 24)).run Tryd.prog W7 = .ok (.string (nums (Mo.sh y m d h mi s ms))) W7 := conv_text (D + 1) (Mo.sh y m d h mi s ms) 24 W7 _ H7.row
  have HB := Hid.mk' H7.bel
  clear H7
  generalize hS : nums (Mo.sh y m d h mi s ms) = S at *
  go_wp2_with fail
  go_ret2
  exact ⟨⟨y, m, d, HDAY.out, by rw [hS]; rfl⟩, HB.out⟩
end Go.Proofs.YthmpokndffbkdaaDoor
